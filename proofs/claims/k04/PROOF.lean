import PyProof.Rows.All
import Wide.All
import OpenK.AllK
import Wide.FinOn
import HandS.Zip
import HandS.ForMost
import HandS.NoneIn
import KE.KeyNested
import HandS.Conv
import HandS.Wide
import HandS.IsInst
import HandS.Property
import HandS.Gcd
import HandS.TupMul
import KE.KTupSum
import HandS.Iter
import HandS.Defaults
import KE.KDictWalk
import KE.KDictDisplayH
import HandS.TupLen
import HandS.DictComp
import HandS.Style
import HandS.Deep
import HandS.DictSubView
import KE.KDictCopyH
import KE.KEqDict
import HandS.TryOnly
import HandS.WordsExc
import KE.GoesEnum
import PySem.Challenge.RW_outcomepay_k04_whole_shares
set_option Elab.async false
set_option linter.all false
set_option maxRecDepth 100000
set_option maxHeartbeats 4000000
/-! zip of two things, each of them a list or a tuple: b tells which -/
namespace DZ
open PySem PySem.Spec PyProof.Rows L2
section
variable {prog : Program} {w : World} {A : Around} {E : Value → Shared → Prop} {s : Shared}
/-- the iterator it over l, k items on; l holds xs -/
def SrcAt (b : Bool) (h : Heap) (it l : Addr) (k : Nat) (xs : Array Value) : Prop := match b with
  | true => h.IsTupleIter it l k ∧ h.IsTuple l xs
  | false => h.IsListIter it l k ∧ h.IsList l xs
theorem SrcAt.ext {b : Bool} {h h' : Heap} {it l c : Addr} {k : Nat} {xs : Array Value} (S : SrcAt b h it l k xs) (x : Heap.ExtBut c h h') (n1 : it ≠ c) (n2 : l ≠ c) : SrcAt b h' it l k xs := by
  cases b with
  | true => exact ⟨S.1.extBut x n1, S.2.extBut x n2⟩
  | false => exact ⟨S.1.extBut x n1, S.2.extBut x n2⟩
theorem SrcAt.obj {b : Bool} {h : Heap} {it l : Addr} {k : Nat} {xs : Array Value} (S : SrcAt b h it l k xs) : ∃ o v, h.get? it = some o ∧ o.data = .fields v := by
  cases b with
  | true => obtain ⟨⟨o, e, _, d⟩, _⟩ := S; exact ⟨o, _, e, d⟩
  | false => obtain ⟨⟨o, e, _, d⟩, _⟩ := S; exact ⟨o, _, e, d⟩
/-- the iterator alone -/
def ItAt (b : Bool) (h : Heap) (it l : Addr) (k : Nat) : Prop := match b with
  | true => h.IsTupleIter it l k
  | false => h.IsListIter it l k
theorem SrcAt.it {b : Bool} {h : Heap} {it l : Addr} {k : Nat} {xs : Array Value} (S : SrcAt b h it l k xs) : ItAt b h it l k := by
  cases b with
  | true => exact S.1
  | false => exact S.1
theorem ItAt.on {b : Bool} {h h' : Heap} {it l : Addr} {k : Nat} (S : ItAt b h it l k) (f : ∀ o, h.get? it = some o → h'.get? it = some o) : ItAt b h' it l k := by
  cases b with
  | true => exact Heap.IsTupleIter.at S f
  | false => exact Heap.IsListIter.at S f
theorem ItAt.obj {b : Bool} {h : Heap} {it l : Addr} {k : Nat} (S : ItAt b h it l k) : ∃ o v, h.get? it = some o ∧ o.data = .fields v := by
  cases b with
  | true => obtain ⟨o, e, _, d⟩ := S; exact ⟨o, _, e, d⟩
  | false => obtain ⟨o, e, _, d⟩ := S; exact ⟨o, _, e, d⟩
theorem next_item {b : Bool} {it l : Addr} {k : Nat} {xs : Array Value} {x : Value} {Q : Value → Shared → Prop} (S : SrcAt b s.heap it l k xs) (hx : xs[k]? = some x) (nl : l ≠ it)
    (h : ∀ h', SrcAt b h' it l (k + 1) xs → Heap.SameBut it s.heap h' → Q x { s with heap := h' }) : wpAny (model prog w) A (Builtin.SmallTypes.nextOf (.ref it)) Q E s := by
  cases b with
  | true => exact RZ.nextOf_tuple_item S.1 S.2 hx fun h' a c => h h' ⟨a, S.2.extBut c.extBut nl⟩ c
  | false => exact wpAny_nextOf_list_item S.1 S.2 hx fun h' a c => h h' ⟨a, S.2.extBut c.extBut nl⟩ c
theorem next_end {b : Bool} {it l : Addr} {k : Nat} {xs : Array Value} {Q : Value → Shared → Prop} (hh : A.handled = none) (S : SrcAt b s.heap it l k xs) (hx : xs[k]? = none)
    (h : ∀ h' e, Heap.ExtBut it s.heap h' → (∃ o, h'.get? e = some o ∧ o.cls = .type "StopIteration") → E (.ref e) { s with heap := h' }) : wpAny (model prog w) A (Builtin.SmallTypes.nextOf (.ref it)) Q E s := by
  cases b with
  | true => exact RZ.nextOf_tuple_end hh S.1 S.2 hx h
  | false => exact wpAny_nextOf_list_end hh S.1 S.2 hx h

theorem zip_item {b1 b2 : Bool} {z TI TO i1 i2 l1 l2 : Addr} {k1 k2 : Nat} {xs ys : Array Value} {x y a b : Value} {Q : Value → Shared → Prop} (D : ZipApart z TI TO i1 i2 l1 l2) (hz : IsZip s.heap z TI TO .none) (hTI : IsPair s.heap TI (.ref i1) (.ref i2))
    (hTO : IsPair s.heap TO a b) (S1 : SrcAt b1 s.heap i1 l1 k1 xs) (S2 : SrcAt b2 s.heap i2 l2 k2 ys) (hx : xs[k1]? = some x) (hy : ys[k2]? = some y)
    (hQ : ∀ h', IsZip h' z TI TO (rawInt s.heap.objs.size) → IsPair h' TO x y → ItAt b1 h' i1 l1 (k1 + 1) → ItAt b2 h' i2 l2 (k2 + 1) → IsPair h' s.heap.objs.size x y → h'.objs.size = s.heap.objs.size + 1 →
      (∀ c o, c ≠ z → c ≠ TO → c ≠ i1 → c ≠ i2 → s.heap.get? c = some o → h'.get? c = some o) → Q (.ref s.heap.objs.size) { s with heap := h' }) :
    wpAny (model prog w) A (Builtin.«zip.__next__» ⟨[.ref z], []⟩) (fun fin s' => ∃ v, fin = .done (.ret v) ∧ Q v s') E s := by
  show wpAny _ _ (field (.ref z) 2 >>= _) _ _ _; refine wpAny_bind (wpAny_field hz rfl (x := .bool false) rfl ?_)
  show wpAny _ _ (field (.ref z) 3 >>= _) _ _ _; refine wpAny_bind (wpAny_field hz rfl (x := .ref TI) rfl ?_); refine wpAny_bind (wpAny_seqItems hTI rfl ?_)
  show wpAny _ _ (Builtin.SmallTypes.ownedTupleIsFree (.ref z) >>= _) _ _ _; refine wpAny_bind ?_; unfold Builtin.SmallTypes.ownedTupleIsFree
  refine wpAny_bind (wpAny_field hz rfl (x := .none) rfl (wpAny_pure ?_)); simp only [if_true]; refine wpAny_bind (wpAny_rule ?_)
  refine wpAny_bind (wpAny_field hz rfl (x := .ref TO) rfl ?_); refine wpAny_bind (wpAny_setField_rec hz (by simp) fun g1 z1 m1 => ?_)
  replace z1 : IsZip g1 z TI TO .ellipsis := z1
  refine wpAny_bind ?_; simp only [List.zipIdx_cons, List.zipIdx_nil, List.forIn_cons, List.forIn_nil]; refine wpAny_bind (wpAny_bind (wpAny_onRaise ?_))
  show wpAny _ _ (Builtin.SmallTypes.nextOf (.ref i1) >>= _) _ _ _
  refine wpAny_bind (next_item (S1.ext m1.extBut D.i1z D.l1z) hx D.l1i1 fun g2 T1 m2 => wpAny_pure ?_)
  have p2 : IsPair g2 TO a b := m2.extBut _ _ D.TOi1 (m1.extBut _ _ D.TOz hTO)
  refine wpAny_bind (wpAny_seqItems p2 rfl ?_); refine wpAny_bind (wpAny_updateSeq_pair p2 fun g3 p3 m3 => ?_)
  replace p3 : IsPair g3 TO x b := p3
  refine wpAny_bind (wpAny_letGo (wpAny_pure ?_)); refine wpAny_bind (wpAny_bind (wpAny_onRaise ?_))
  show wpAny _ _ (Builtin.SmallTypes.nextOf (.ref i2) >>= _) _ _ _
  refine wpAny_bind (next_item (((S2.ext m1.extBut D.i2z D.l2z).ext m2.extBut D.i12.symm D.l2i1).ext m3.extBut D.TOi2.symm D.l2TO) hy D.l2i2 fun g4 T2 m4 => wpAny_pure ?_)
  have p4 : IsPair g4 TO x b := m4.extBut _ _ D.TOi2 p3
  refine wpAny_bind (wpAny_seqItems p4 rfl ?_); refine wpAny_bind (wpAny_updateSeq_pair p4 fun g5 p5 m5 => ?_)
  replace p5 : IsPair g5 TO x y := p5
  refine wpAny_bind (wpAny_letGo (wpAny_pure (wpAny_pure ?_))); refine wpAny_bind (wpAny_seqItems p5 rfl ?_); refine wpAny_bind (wpAny_newTuple ?_)
  have sz5 : g5.objs.size = s.heap.objs.size := by rw [m5.1, m4.1, m3.1, m2.1, m1.1]
  have z5 : IsZip g5 z TI TO .ellipsis := m5.extBut _ _ D.TOz.symm (m4.extBut _ _ D.i2z.symm (m3.extBut _ _ D.TOz.symm (m2.extBut _ _ D.i1z.symm z1)))
  have up5 : ∀ c o, c ≠ z → c ≠ TO → c ≠ i1 → c ≠ i2 → s.heap.get? c = some o → g5.get? c = some o := fun c o c1 c2 c3 c4 e => m5.extBut _ _ c2 (m4.extBut _ _ c4 (m3.extBut _ _ c2 (m2.extBut _ _ c3 (m1.extBut _ _ c1 e))))
  have U1 : SrcAt b1 g5 i1 l1 (k1 + 1) xs := ((T1.ext m3.extBut D.TOi1.symm D.l1TO).ext m4.extBut D.i12 D.l1i2).ext m5.extBut D.TOi1.symm D.l1TO
  have U2 : SrcAt b2 g5 i2 l2 (k2 + 1) ys := T2.ext m5.extBut D.TOi2.symm D.l2TO
  have zlt : z < g5.objs.size := Heap.lt_size z5
  show wpAny _ _ (Builtin.SmallTypes.ownedTupleHandOut (.ref z) (.ref g5.objs.size) >>= _) _ _ _; refine wpAny_bind ?_; unfold Builtin.SmallTypes.ownedTupleHandOut
  have z6 : IsZip (g5.push { cls := .type "tuple", data := .seq #[x, y] }) z TI TO .ellipsis := Heap.get?_push_of_some _ z5
  refine wpAny_bind (wpAny_setField_rec z6 (by simp) fun g7 z7 m7 => ?_)
  replace z7 : IsZip g7 z TI TO (rawInt g5.objs.size) := z7
  refine wpAny_setField_rec z7 (by simp) fun g8 z8 m8 => ?_
  replace z8 : IsZip g8 z TI TO (rawInt g5.objs.size) := z8
  have up : ∀ c o, c ≠ z → g5.get? c = some o → g8.get? c = some o := fun c o c1 e => m8.extBut _ _ c1 (m7.extBut _ _ c1 (Heap.get?_push_of_some _ e))
  have p8 : IsPair g8 g5.objs.size x y := m8.extBut _ _ (Nat.ne_of_gt zlt) (m7.extBut _ _ (Nat.ne_of_gt zlt) (Heap.get?_push_size _ rfl))
  have n8 : g8.objs.size = g5.objs.size + 1 := by rw [m8.1, m7.1, Heap.size_push]
  rw [sz5] at z8 p8 n8
  refine wpAny_pure ⟨_, rfl, ?_⟩; show Q (.ref g5.objs.size) _; rw [sz5]
  exact hQ g8 z8 (up _ _ D.TOz p5) (U1.it.on fun o e => up _ o D.i1z e) (U2.it.on fun o e => up _ o D.i2z e) p8 n8 fun c o c1 c2 c3 c4 e => up c o c1 (up5 c o c1 c2 c3 c4 e)

theorem zip_end {b1 b2 : Bool} {z TI TO i1 i2 l1 l2 : Addr} {k1 k2 : Nat} {xs ys : Array Value} {a b : Value} {Q : Fin → Shared → Prop} (hh : A.handled = none) (D : ZipApart z TI TO i1 i2 l1 l2) (hz : IsZip s.heap z TI TO .none) (hTI : IsPair s.heap TI (.ref i1) (.ref i2))
    (hTO : IsPair s.heap TO a b) (S1 : SrcAt b1 s.heap i1 l1 k1 xs) (S2 : SrcAt b2 s.heap i2 l2 k2 ys) (hend : xs[k1]? = none ∨ ys[k2]? = none)
    (hE : ∀ h' e, (∀ c o, c ≠ z → c ≠ TO → c ≠ i1 → c ≠ i2 → s.heap.get? c = some o → h'.get? c = some o) → (∃ o, h'.get? e = some o ∧ o.cls = .type "StopIteration") → E (.ref e) { s with heap := h' }) :
    wpAny (model prog w) A (Builtin.«zip.__next__» ⟨[.ref z], []⟩) Q E s := by
  show wpAny _ _ (field (.ref z) 2 >>= _) _ _ _; refine wpAny_bind (wpAny_field hz rfl (x := .bool false) rfl ?_)
  show wpAny _ _ (field (.ref z) 3 >>= _) _ _ _; refine wpAny_bind (wpAny_field hz rfl (x := .ref TI) rfl ?_); refine wpAny_bind (wpAny_seqItems hTI rfl ?_)
  show wpAny _ _ (Builtin.SmallTypes.ownedTupleIsFree (.ref z) >>= _) _ _ _; refine wpAny_bind ?_; unfold Builtin.SmallTypes.ownedTupleIsFree
  refine wpAny_bind (wpAny_field hz rfl (x := .none) rfl (wpAny_pure ?_)); simp only [if_true]; refine wpAny_bind (wpAny_rule ?_)
  refine wpAny_bind (wpAny_field hz rfl (x := .ref TO) rfl ?_); refine wpAny_bind (wpAny_setField_rec hz (by simp) fun g1 z1 m1 => ?_)
  replace z1 : IsZip g1 z TI TO .ellipsis := z1
  refine wpAny_bind ?_; simp only [List.zipIdx_cons, List.zipIdx_nil, List.forIn_cons, List.forIn_nil]; refine wpAny_bind (wpAny_bind (wpAny_onRaise ?_))
  show wpAny _ _ (Builtin.SmallTypes.nextOf (.ref i1) >>= _) _ _ _
  have S1' := S1.ext m1.extBut D.i1z D.l1z
  cases hx : xs[k1]? with
  | none =>
    refine wpAny_bind (next_end hh S1' hx fun g2 e m2 he => ?_)
    obtain ⟨oe, hoe, hce⟩ := he
    have z2 : IsZip g2 z TI TO .ellipsis := m2 _ _ D.i1z.symm z1
    have ez : e ≠ z := fun x => by subst x; rw [z2] at hoe; cases hoe; simp at hce
    exact wpAny_setField_rec z2 (by simp) fun g3 _ m3 => hE g3 e (fun c o c1 _ c3 _ x => m3.extBut _ _ c1 (m2 _ _ c3 (m1.extBut _ _ c1 x))) ⟨oe, m3.extBut _ _ ez hoe, hce⟩
  | some x =>
    have hy : ys[k2]? = none := hend.resolve_left fun q => by rw [hx] at q; cases q
    refine wpAny_bind (next_item S1' hx D.l1i1 fun g2 T1 m2 => wpAny_pure ?_)
    have p2 : IsPair g2 TO a b := m2.extBut _ _ D.TOi1 (m1.extBut _ _ D.TOz hTO)
    refine wpAny_bind (wpAny_seqItems p2 rfl ?_); refine wpAny_bind (wpAny_updateSeq_pair p2 fun g3 p3 m3 => ?_)
    refine wpAny_bind (wpAny_letGo (wpAny_pure ?_)); refine wpAny_bind (wpAny_bind (wpAny_onRaise ?_))
    show wpAny _ _ (Builtin.SmallTypes.nextOf (.ref i2) >>= _) _ _ _
    refine wpAny_bind (next_end hh (((S2.ext m1.extBut D.i2z D.l2z).ext m2.extBut D.i12.symm D.l2i1).ext m3.extBut D.TOi2.symm D.l2TO) hy fun g4 e m4 he => ?_)
    obtain ⟨oe, hoe, hce⟩ := he
    have z4 : IsZip g4 z TI TO .ellipsis := m4 _ _ D.i2z.symm (m3.extBut _ _ D.TOz.symm (m2.extBut _ _ D.i1z.symm z1))
    have ez : e ≠ z := fun x => by subst x; rw [z4] at hoe; cases hoe; simp at hce
    exact wpAny_setField_rec z4 (by simp) fun g5 _ m5 => hE g5 e (fun c o c1 c2 c3 c4 x => m5.extBut _ _ c1 (m4 _ _ c4 (m3.extBut _ _ c2 (m2.extBut _ _ c3 (m1.extBut _ _ c1 x))))) ⟨oe, m5.extBut _ _ ez hoe, hce⟩

theorem py_item {b1 b2 : Bool} {z TI TO i1 i2 l1 l2 : Addr} {k1 k2 : Nat} {xs ys : Array Value} {x y a b : Value} {Q : Option Value → Shared → Prop} (D : ZipApart z TI TO i1 i2 l1 l2) (hz : IsZip s.heap z TI TO .none) (hTI : IsPair s.heap TI (.ref i1) (.ref i2))
    (hTO : IsPair s.heap TO a b) (S1 : SrcAt b1 s.heap i1 l1 k1 xs) (S2 : SrcAt b2 s.heap i2 l2 k2 ys) (hx : xs[k1]? = some x) (hy : ys[k2]? = some y)
    (hQ : ∀ h', IsZip h' z TI TO (rawInt s.heap.objs.size) → IsPair h' TO x y → ItAt b1 h' i1 l1 (k1 + 1) → ItAt b2 h' i2 l2 (k2 + 1) → IsPair h' s.heap.objs.size x y → h'.objs.size = s.heap.objs.size + 1 →
      (∀ c o, c ≠ z → c ≠ TO → c ≠ i1 → c ≠ i2 → s.heap.get? c = some o → h'.get? c = some o) → Q (some (.ref s.heap.objs.size)) { s with heap := h' }) : wpAny (model prog w) A (pyNext (.ref z)) Q E s := by
  have hT : s.TypeIs (.ref z) "zip" := ⟨_, hz, rfl⟩
  unfold pyNext
  exact wpAny_bind (wpAny_attempt (wpAny_callSpecial?_slot (name := Str.ofString "__next__") hT F.slot_zip_next (wpAny_call_entry F.slot_zip_next hT F.entry_zip_next (zip_item D hz hTI hTO S1 S2 hx hy fun h' a1 a2 a3 a4 a5 a6 a7 => wpAny_pure (hQ h' a1 a2 a3 a4 a5 a6 a7)) (F.args_zip_next_1 _))))
theorem py_end {b1 b2 : Bool} {z TI TO i1 i2 l1 l2 : Addr} {k1 k2 : Nat} {xs ys : Array Value} {a b : Value} {Q : Option Value → Shared → Prop} (hh : A.handled = none) (D : ZipApart z TI TO i1 i2 l1 l2) (hz : IsZip s.heap z TI TO .none) (hTI : IsPair s.heap TI (.ref i1) (.ref i2))
    (hTO : IsPair s.heap TO a b) (S1 : SrcAt b1 s.heap i1 l1 k1 xs) (S2 : SrcAt b2 s.heap i2 l2 k2 ys) (hend : xs[k1]? = none ∨ ys[k2]? = none)
    (hQ : ∀ h', (∀ c o, c ≠ z → c ≠ TO → c ≠ i1 → c ≠ i2 → s.heap.get? c = some o → h'.get? c = some o) → Q none { s with heap := h' }) : wpAny (model prog w) A (pyNext (.ref z)) Q E s := by
  have hT : s.TypeIs (.ref z) "zip" := ⟨_, hz, rfl⟩
  unfold pyNext
  refine wpAny_bind (wpAny_attempt (wpAny_callSpecial?_slot (name := Str.ofString "__next__") hT F.slot_zip_next (wpAny_call_entry F.slot_zip_next hT F.entry_zip_next (zip_end hh D hz hTI hTO S1 S2 hend fun h' e hk he => ?_) (F.args_zip_next_1 _))))
  obtain ⟨o, ho, hc⟩ := he
  exact wpAny_bind (wpAny_isInstance (T := "StopIteration") (b := true) ⟨o, ho, hc⟩ isSubtype_stop (wpAny_pure (hQ _ hk)))
end
/-- the iterator's object of a list or a tuple, new -/
def itObj (b : Bool) (l : Addr) : Obj := if b then { cls := .type "tuple_iterator", data := .fields #[.ref l, .int 0 0] } else { cls := .type "list_iterator", data := .fields #[.ref l, .int 0 0] }
abbrev g1 (h : Heap) (b1 : Bool) (l1 : Addr) : Heap := h.push (itObj b1 l1)
abbrev g2 (h : Heap) (b1 b2 : Bool) (l1 l2 : Addr) : Heap := (g1 h b1 l1).push (itObj b2 l2)
abbrev g3 (h : Heap) (b1 b2 : Bool) (l1 l2 : Addr) : Heap := (g2 h b1 b2 l1 l2).push { cls := .type "tuple", data := .seq #[.ref h.objs.size, .ref (g1 h b1 l1).objs.size] }
abbrev g4 (h : Heap) (b1 b2 : Bool) (l1 l2 : Addr) : Heap := (g3 h b1 b2 l1 l2).push { cls := .type "tuple", data := .seq #[.none, .none] }
abbrev g5 (h : Heap) (b1 b2 : Bool) (l1 l2 : Addr) : Heap := (g4 h b1 b2 l1 l2).push { cls := .type "zip", data := .fields #[.none, .bool false, .bool false, .ref (g2 h b1 b2 l1 l2).objs.size, .ref (g3 h b1 b2 l1 l2).objs.size] }
theorem new_LT (l1 l2 : Addr) (xs ys : Array Value) : Meets (Builtin.«zip.__new__» ⟨[.type "zip", .ref l1, .ref l2], []⟩) (fun _ R s => (s.heap.IsList l1 xs ∧ s.heap.IsTuple l2 ys) ∧ R (.ok (.ret (.ref (g4 s.heap false true l1 l2).objs.size))) { s with heap := g5 s.heap false true l1 l2 }) := .of_wp fun prog w A R s h => by
  obtain ⟨hp, g, d, tk, os⟩ := s
  obtain ⟨⟨a1, a2⟩, h⟩ := h
  have hsub := sub_zip
  have q1 : Heap.IsList (Shared.heap ⟨hp, g, d, tk, os⟩) l1 xs := a1
  have q2 : Heap.IsTuple (Shared.heap ⟨hp.push { cls := .type "list_iterator", data := .fields #[.ref l1, .int 0 0] }, g, d, tk, os⟩) l2 ys := Heap.IsTuple.push a2 _
  wp_walk using wpAny_pyIter_list q1, wpAny_pyIter_tuple q2
  exact ⟨_, rfl, h⟩
theorem new_TL (l1 l2 : Addr) (xs ys : Array Value) : Meets (Builtin.«zip.__new__» ⟨[.type "zip", .ref l1, .ref l2], []⟩) (fun _ R s => (s.heap.IsTuple l1 xs ∧ s.heap.IsList l2 ys) ∧ R (.ok (.ret (.ref (g4 s.heap true false l1 l2).objs.size))) { s with heap := g5 s.heap true false l1 l2 }) := .of_wp fun prog w A R s h => by
  obtain ⟨hp, g, d, tk, os⟩ := s
  obtain ⟨⟨a1, a2⟩, h⟩ := h
  have hsub := sub_zip
  have q1 : Heap.IsTuple (Shared.heap ⟨hp, g, d, tk, os⟩) l1 xs := a1
  have q2 : Heap.IsList (Shared.heap ⟨hp.push { cls := .type "tuple_iterator", data := .fields #[.ref l1, .int 0 0] }, g, d, tk, os⟩) l2 ys := Heap.IsList.push a2 _
  wp_walk using wpAny_pyIter_tuple q1, wpAny_pyIter_list q2
  exact ⟨_, rfl, h⟩
def SrcL (b : Bool) (h : Heap) (l : Addr) (xs : Array Value) : Prop := if b then h.IsTuple l xs else h.IsList l xs
section
variable {prog : Program} {w : World} {A : Around} {E : Value → Shared → Prop} {s : Shared}
/-- what is laid for zip(l1, l2) -/
theorem laid {b1 b2 : Bool} {l1 l2 : Addr} {Q : Value → Shared → Prop}
    (h : ∀ h', IsZip h' (s.heap.objs.size + 4) (s.heap.objs.size + 2) (s.heap.objs.size + 3) .none → IsPair h' (s.heap.objs.size + 2) (.ref s.heap.objs.size) (.ref (s.heap.objs.size + 1)) →
      IsPair h' (s.heap.objs.size + 3) .none .none → ItAt b1 h' s.heap.objs.size l1 0 → ItAt b2 h' (s.heap.objs.size + 1) l2 0 → (∀ c o, s.heap.get? c = some o → h'.get? c = some o) → Q (.ref (s.heap.objs.size + 4)) { s with heap := h' }) :
    Q (.ref (g4 s.heap b1 b2 l1 l2).objs.size) { s with heap := g5 s.heap b1 b2 l1 l2 } := by
  have y1 : (g1 s.heap b1 l1).objs.size = s.heap.objs.size + 1 := Heap.size_push ..
  have y2 : (g2 s.heap b1 b2 l1 l2).objs.size = s.heap.objs.size + 2 := by rw [Heap.size_push, y1]
  have y3 : (g3 s.heap b1 b2 l1 l2).objs.size = s.heap.objs.size + 3 := by rw [Heap.size_push, y2]
  have y4 : (g4 s.heap b1 b2 l1 l2).objs.size = s.heap.objs.size + 4 := by rw [Heap.size_push, y3]
  have e5 : (g5 s.heap b1 b2 l1 l2).get? (g4 s.heap b1 b2 l1 l2).objs.size = some _ := Heap.get?_push_size _ rfl
  have e4 : (g5 s.heap b1 b2 l1 l2).get? (g3 s.heap b1 b2 l1 l2).objs.size = some _ := Heap.get?_push_of_some _ (Heap.get?_push_size _ rfl)
  have e3 : (g5 s.heap b1 b2 l1 l2).get? (g2 s.heap b1 b2 l1 l2).objs.size = some _ := Heap.get?_push_of_some _ (Heap.get?_push_of_some _ (Heap.get?_push_size _ rfl))
  have f2 : (itObj b2 l2).isFreed = false := by cases b2 <;> rfl
  have f1 : (itObj b1 l1).isFreed = false := by cases b1 <;> rfl
  have e2 : (g5 s.heap b1 b2 l1 l2).get? (g1 s.heap b1 l1).objs.size = some (itObj b2 l2) := Heap.get?_push_of_some _ (Heap.get?_push_of_some _ (Heap.get?_push_of_some _ (Heap.get?_push_size _ f2)))
  have e1 : (g5 s.heap b1 b2 l1 l2).get? s.heap.objs.size = some (itObj b1 l1) := Heap.get?_push_of_some _ (Heap.get?_push_of_some _ (Heap.get?_push_of_some _ (Heap.get?_push_of_some _ (Heap.get?_push_size _ f1))))
  rw [y2, y3, y4] at e5
  rw [y1, y2] at e3
  rw [y3] at e4
  rw [y1] at e2
  rw [y4]
  refine h _ e5 e3 e4 ?_ ?_ fun c o x => Heap.get?_push_of_some _ (Heap.get?_push_of_some _ (Heap.get?_push_of_some _ (Heap.get?_push_of_some _ (Heap.get?_push_of_some _ x))))
  · cases b1 <;> exact ⟨_, e1, rfl, rfl⟩
  · cases b2 <;> exact ⟨_, e2, rfl, rfl⟩
theorem call_LT {l1 l2 : Addr} {xs ys : Array Value} {Q : Value → Shared → Prop} (a1 : s.heap.IsList l1 xs) (a2 : s.heap.IsTuple l2 ys)
    (h : ∀ h', IsZip h' (s.heap.objs.size + 4) (s.heap.objs.size + 2) (s.heap.objs.size + 3) .none → IsPair h' (s.heap.objs.size + 2) (.ref s.heap.objs.size) (.ref (s.heap.objs.size + 1)) →
      IsPair h' (s.heap.objs.size + 3) .none .none → ItAt false h' s.heap.objs.size l1 0 → ItAt true h' (s.heap.objs.size + 1) l2 0 → (∀ c o, s.heap.get? c = some o → h'.get? c = some o) → Q (.ref (s.heap.objs.size + 4)) { s with heap := h' }) :
    wpAny (model prog w) A (call (.type "zip") [.ref l1, .ref l2]) Q E s :=
  callType_new F.called_zip (by decide) (F.typeCall_zip_2 _ _) (F.newCall_zip_2 _ _) (fun obj => F.args_object_init_3 obj _ _) F.entry_zip_new (new_LT l1 l2 xs ys) ⟨⟨a1, a2⟩, ⟨_, Heap.get?_push_size _ rfl, rfl⟩, laid h⟩
theorem call_TL {l1 l2 : Addr} {xs ys : Array Value} {Q : Value → Shared → Prop} (a1 : s.heap.IsTuple l1 xs) (a2 : s.heap.IsList l2 ys)
    (h : ∀ h', IsZip h' (s.heap.objs.size + 4) (s.heap.objs.size + 2) (s.heap.objs.size + 3) .none → IsPair h' (s.heap.objs.size + 2) (.ref s.heap.objs.size) (.ref (s.heap.objs.size + 1)) →
      IsPair h' (s.heap.objs.size + 3) .none .none → ItAt true h' s.heap.objs.size l1 0 → ItAt false h' (s.heap.objs.size + 1) l2 0 → (∀ c o, s.heap.get? c = some o → h'.get? c = some o) → Q (.ref (s.heap.objs.size + 4)) { s with heap := h' }) :
    wpAny (model prog w) A (call (.type "zip") [.ref l1, .ref l2]) Q E s :=
  callType_new F.called_zip (by decide) (F.typeCall_zip_2 _ _) (F.newCall_zip_2 _ _) (fun obj => F.args_object_init_3 obj _ _) F.entry_zip_new (new_TL l1 l2 xs ys) ⟨⟨a1, a2⟩, ⟨_, Heap.get?_push_size _ rfl, rfl⟩, laid h⟩
end
end DZ

set_option maxHeartbeats 4000000
/-! dicts of any keys: None, ints, and tuples of such; told entry by entry -/
namespace DK
open PySem PySem.Spec PyProof.Rows L2

mutual
def hN : NestedKey → Int
  | .none => reduceHash 0xFCA86420
  | .num i => hashInt i
  | .text _ => 0
  | .tup ks => reduceHash (Builtin.Tuple.tupleHashOf (hNs ks))
def hNs : List NestedKey → List Int
  | [] => []
  | k :: ks => hN k :: hNs ks
end
mutual
def plain : NestedKey → Bool
  | .none => true
  | .num _ => true
  | .text _ => false
  | .tup ks => plains ks
def plains : List NestedKey → Bool
  | [] => true
  | k :: ks => plain k && plains ks
end
mutual
theorem hash_plain (w : World) : ∀ k : NestedKey, plain k = true → k.hash w = hN k
  | .none, _ => by rw [NestedKey.hash, hN]
  | .num i, _ => by rw [NestedKey.hash, hN]
  | .text _, h => by simp [plain] at h
  | .tup ks, h => by rw [NestedKey.hash, hN, hashes_plain w ks (by simpa [plain] using h)]
theorem hashes_plain (w : World) : ∀ ks : List NestedKey, plains ks = true → NestedKey.hashes w ks = hNs ks
  | [], _ => by rw [NestedKey.hashes, hNs]
  | k :: ks, h => by
    simp only [plains, Bool.and_eq_true] at h
    rw [NestedKey.hashes, hNs, hash_plain w k h.1, hashes_plain w ks h.2]
end

abbrev Ent := NestedKey × V × V
def EntOk (e : Ent) (d : DictEntry) : Prop := d.hash = hN e.1 ∧ RelV e.2.1 d.key ∧ RelV e.2.2 d.val
/-- the table at a holds the entries es -/
def TabP (a : Addr) (o : Obj) (es : List Ent) : Heap → Prop := fun h => es.length ≤ sizeLine ∧ (a == sysModules) = false ∧ ∃ ds ep, h.get? a = some o ∧ o.ExactDict ∧ o.data = .dict ds ep ∧ Paired EntOk es ds.toList
abbrev tab (a : Addr) (o : Obj) (es : List Ent) : HO := .ext (TabP a o es)
theorem tab_obj {P : Program} {w : World} {H : Hp} {h : Heap} {a : Addr} {o : Obj} {es : List Ent} (t : TabP a o es h) : ObjOk P w H h a (tab a o es) := by
  refine ⟨t, ?_, fun h1 h2 t1 k => ?_⟩
  · obtain ⟨_, _, _, _, e, _⟩ := t; exact ⟨o, e⟩
  · obtain ⟨z, y, ds, ep, e, r⟩ := t1
    exact ⟨z, y, ds, ep, k o e, r⟩

/-! keys that are carried by value -/
def keyO : NestedKey → Option Key
  | .num i => some (.inl i)
  | _ => none
def flat : NestedKey → Bool
  | .none => true
  | .num _ => true
  | _ => false
def vK : NestedKey → V
  | .num i => .int i
  | _ => .non
theorem keyO_inj : ∀ {a b : NestedKey}, flat a = true → flat b = true → keyO a = keyO b → a = b
  | .none, .none, _, _, _ => rfl
  | .num i, .num j, _, _, e => by simp [keyO] at e; rw [e]
  | .none, .num _, _, _, e => by simp [keyO] at e
  | .num _, .none, _, _, e => by simp [keyO] at e
  | .text _, _, h, _, _ => by simp [flat] at h
  | .tup _, _, h, _, _ => by simp [flat] at h
  | .none, .text _, _, h, _ => by simp [flat] at h
  | .none, .tup _, _, h, _ => by simp [flat] at h
  | .num _, .text _, _, h, _ => by simp [flat] at h
  | .num _, .tup _, _, h, _ => by simp [flat] at h
section
variable {P : Program} {w : World}
theorem flat_is : ∀ {k : NestedKey} {u : Value}, flat k = true → RelV (vK k) u → (noneKind P w).is (keyO k) u = true
  | .none, u, _, r => by cases (show u = Value.none from r); rfl
  | .num i, u, _, r => by obtain ⟨t, e⟩ := (show ∃ t, u = Value.int i t from r); subst e; exact mixKind_int P w i t
  | .text _, _, h, _ => by simp [flat] at h
  | .tup _, _, h, _ => by simp [flat] at h
theorem is_flat : ∀ {k : NestedKey} {u : Value}, flat k = true → (noneKind P w).is (keyO k) u = true → RelV (vK k) u
  | .none, u, _, r => nk_none r
  | .num i, u, _, r => by
    rcases keyIs_shape (k := .inl i) (v := u) r with ⟨j, t, e, e2⟩ | ⟨_, _, e, _⟩
    · cases e; exact ⟨t, e2⟩
    · cases e
  | .text _, _, h, _ => by simp [flat] at h
  | .tup _, _, h, _ => by simp [flat] at h
theorem hash_flat : ∀ {k : NestedKey}, flat k = true → (noneKind P w).hash (keyO k) = hN k
  | .none, _ => by rw [hN]; rfl
  | .num i, _ => by rw [hN]; rfl
  | .text _, h => by simp [flat] at h
  | .tup _, h => by simp [flat] at h
/-- all keys by value, each written as it is -/
def Flat (es : List Ent) : Prop := ∀ e ∈ es, flat e.1 = true ∧ e.2.1 = vK e.1
def okv (es : List Ent) : List (Option Key × V) := es.map fun e => (keyO e.1, e.2.2)
theorem pairs_of : ∀ {es : List Ent} {ds : List DictEntry}, Flat es → Paired EntOk es ds → ∃ vs : List (Option Key × Value), Pairs (noneKind P w) ds vs ∧ KV (okv es) vs
  | [], _, _, .nil => ⟨[], .nil, .nil⟩
  | e :: es, _, F, .cons (b := d) h t => by
    obtain ⟨vs, p, q⟩ := pairs_of (fun x hx => F x (List.mem_cons_of_mem _ hx)) t
    obtain ⟨f1, f2⟩ := F e (List.mem_cons_self ..)
    obtain ⟨h1, h2, h3⟩ := h
    rw [f2] at h2
    exact ⟨(keyO e.1, d.val) :: vs, .cons (flat_is f1 h2) rfl p, .cons ⟨rfl, h3⟩ q⟩
theorem keys_of {es : List Ent} {ds : List DictEntry} (F : Flat es) (p : Paired EntOk es ds) : ∀ d ∈ ds, ∃ k, (noneKind P w).is k d.key = true ∧ d.hash = (noneKind P w).hash k := by
  induction p with
  | nil => intro x hx; exact nomatch hx
  | @cons e d es ds h t ih =>
    intro x hx
    rcases List.mem_cons.mp hx with hx | hx
    · subst hx
      obtain ⟨f1, f2⟩ := F e (List.mem_cons_self ..)
      obtain ⟨h1, h2, h3⟩ := h
      rw [f2] at h2
      exact ⟨keyO e.1, flat_is f1 h2, by rw [hash_flat f1]; exact h1⟩
    · exact ih (fun x hx => F x (List.mem_cons_of_mem _ hx)) x hx
theorem okv_nodup {es : List Ent} (F : Flat es) (hn : (es.map (·.1)).Nodup) : ((okv es).map (·.1)).Nodup := by
  unfold okv
  rw [List.map_map]
  induction es with
  | nil => exact List.nodup_nil
  | cons e es ih =>
    rw [List.map_cons, List.nodup_cons] at hn ⊢
    refine ⟨fun h => hn.1 ?_, ih (fun x hx => F x (List.mem_cons_of_mem _ hx)) hn.2⟩
    obtain ⟨x, hx, e1⟩ := List.mem_map.mp h
    have := keyO_inj (F x (List.mem_cons_of_mem _ hx)).1 (F e (List.mem_cons_self ..)).1 e1
    exact List.mem_map.mpr ⟨x, hx, this⟩
theorem kv_keys {κ : Type} {kvs : List (κ × V)} {vs : List (κ × Value)} (h : KV kvs vs) : kvs.map (·.1) = vs.map (·.1) := by
  unfold KV at h
  induction h with
  | nil => rfl
  | cons h _ ih => rw [List.map_cons, List.map_cons, ih, h.1]
theorem dictOf {h : Heap} {a : Addr} {o : Obj} {es : List Ent} (t : TabP a o es h) (F : Flat es) (hn : (es.map (·.1)).Nodup) : ∃ vs, h.DictOf (noneKind P w) a vs ∧ KV (okv es) vs := by
  obtain ⟨z, y, ds, ep, e, hc, hd, p⟩ := t
  obtain ⟨vs, q, r⟩ := pairs_of (P := P) (w := w) F p
  exact ⟨vs, ⟨o, ds, ep, e, hc, hd, fun d hm => keys_of F p d (Array.mem_toList_iff.mpr hm), q, by rw [← kv_keys r]; exact okv_nodup F hn⟩, r⟩
theorem pairs_back : ∀ {es : List Ent} {ds : List DictEntry} {vs : List (Option Key × Value)}, Flat es → (∀ d ∈ ds, ∃ k, (noneKind P w).is k d.key = true ∧ d.hash = (noneKind P w).hash k) → Pairs (noneKind P w) ds vs → KV (okv es) vs → Paired EntOk es ds := by
  intro es ds vs F G p q
  induction es generalizing ds vs with
  | nil =>
    have q : KV [] vs := q
    cases q
    cases p
    exact .nil
  | cons e es ih =>
    have q : KV ((keyO e.1, e.2.2) :: okv es) vs := q
    cases q with
    | cons hq r =>
      cases p with
      | @cons d kv ds kvs h1 h2 p =>
        obtain ⟨f1, f2⟩ := F e (List.mem_cons_self ..)
        have ih := ih (fun x hx => F x (List.mem_cons_of_mem _ hx)) (fun x hx => G x (List.mem_cons_of_mem _ hx)) p r
        obtain ⟨q1, q2⟩ := hq
        rw [← q1] at h1
        obtain ⟨k, g1, g2⟩ := G d (List.mem_cons_self ..)
        have ek : k = keyO e.1 := (noneKind P w).inj _ _ _ g1 h1
        rw [ek, hash_flat f1] at g2
        refine .cons ⟨g2, by rw [f2]; exact is_flat f1 h1, ?_⟩ ih
        rw [h2]; exact q2
theorem tab_of {h : Heap} {a : Addr} {es : List Ent} {vs : List (Option Key × Value)} (z : es.length ≤ sizeLine) (y : (a == sysModules) = false) (F : Flat es) (dd : h.DictOf (noneKind P w) a vs) (r : KV (okv es) vs) : ∃ o, TabP a o es h := by
  obtain ⟨o, ds, ep, e, hc, hd, ko, q, _⟩ := dd
  exact ⟨o, z, y, ds, ep, e, hc, hd, pairs_back F (fun d hm => ko d (Array.mem_toList_iff.mp hm)) q r⟩
end

/-! keys that are tuples -/
def K1 (b : Bool) (h : Heap) (k : NestedKey) (kv : V) : Prop := match b with
  | true => flat k = true ∧ kv = vK k
  | false => ∃ p, kv = .ref p ∧ NestedIs h k (.ref p) ∧ k.depth ≤ 8 ∧ plain k = true
def Ks (b : Bool) (h : Heap) (es : List Ent) : Prop := ∀ e ∈ es, K1 b h e.1 e.2.1
def atE (es : List Ent) (k : NestedKey) : Option V := (es.find? fun e => decide (e.1 = k)).map (·.2.2)
def putE (es : List Ent) (k : NestedKey) (kv v : V) : List Ent :=
  if (es.any fun e => decide (e.1 = k)) = true then es.map (fun e => if e.1 = k then (e.1, e.2.1, v) else e) else es ++ [(k, kv, v)]
theorem atE_cons {e : Ent} {es : List Ent} {k : NestedKey} : atE (e :: es) k = if e.1 = k then some e.2.2 else atE es k := by
  unfold atE
  by_cases h : e.1 = k <;> simp [List.find?_cons, h]
theorem anyE (es : List Ent) (k : NestedKey) : (es.any fun e => decide (e.1 = k)) = (atE es k).isSome := by
  induction es with
  | nil => rfl
  | cons e es ih =>
    rw [List.any_cons, atE_cons, ih]
    by_cases h : e.1 = k <;> simp [h]
theorem putE_len (es : List Ent) (k : NestedKey) (kv v : V) : (putE es k kv v).length ≤ es.length + 1 := by
  unfold putE
  split <;> simp
theorem flat_at {es : List Ent} {k : NestedKey} (F : Flat es) (fk : flat k = true) : valV (okv es) (keyO k) = atE es k := by
  induction es with
  | nil => rfl
  | cons e es ih =>
    have ih := ih (fun x hx => F x (List.mem_cons_of_mem _ hx))
    show valV ((keyO e.1, e.2.2) :: okv es) (keyO k) = _
    rw [atE_cons]
    by_cases h : e.1 = k
    · rw [if_pos h]; exact valV_pos (p := (keyO e.1, e.2.2)) (by rw [h])
    · rw [if_neg h, ← ih]; exact valV_neg (p := (keyO e.1, e.2.2)) fun z => h (keyO_inj (F e (List.mem_cons_self ..)).1 fk z)
theorem flat_put {es : List Ent} {k : NestedKey} {kv v : V} (F : Flat es) (fk : flat k = true) : okv (putE es k kv v) = putK (okv es) (keyO k) v := by
  unfold putE putK
  have e : ((okv es).any fun kv => decide (kv.1 = keyO k)) = (es.any fun e => decide (e.1 = k)) := by rw [valV_any, flat_at F fk, anyE]
  rw [e]
  split
  · unfold okv
    rw [List.map_map, List.map_map]
    refine List.map_congr_left fun x hx => ?_
    show (keyO (if x.1 = k then (x.1, x.2.1, v) else x).1, (if x.1 = k then (x.1, x.2.1, v) else x).2.2) = if keyO x.1 = keyO k then (keyO x.1, v) else (keyO x.1, x.2.2)
    by_cases h : x.1 = k
    · rw [if_pos h, if_pos (by rw [h])]
    · rw [if_neg h, if_neg fun z => h (keyO_inj (F x hx).1 fk z)]
  · unfold okv
    rw [List.map_append]; rfl
theorem Ks.flat {h : Heap} {es : List Ent} (T : Ks true h es) : Flat es := fun e he => T e he
theorem Ks.put {b : Bool} {h : Heap} {es : List Ent} {k : NestedKey} {kv v : V} (T : Ks b h es) (kk : K1 b h k kv) : Ks b h (putE es k kv v) := by
  intro e he
  unfold putE at he
  split at he
  · obtain ⟨x, hx, rfl⟩ := List.mem_map.mp he
    by_cases h : x.1 = k
    · rw [if_pos h]; exact T x hx
    · rw [if_neg h]; exact T x hx
  · rcases List.mem_append.mp he with he | he
    · exact T e he
    · rw [List.mem_singleton] at he; subst he; exact kk
abbrev EX (e : Ent) (x : NestedKey × Addr × Value) : Prop := x.1 = e.1 ∧ e.2.1 = .ref x.2.1 ∧ RelV e.2.2 x.2.2
theorem xs_of {P : Program} {w : World} {h : Heap} : ∀ {es : List Ent} {ds : List DictEntry}, Ks false h es → Paired EntOk es ds → ∃ xs, ds = xs.map (entryOfKey (nestedKind P w)) ∧ Paired EX es xs ∧ ∀ x ∈ xs, (nestedKind P w).is h x.1 x.2.1
  | [], _, _, .nil => ⟨[], rfl, .nil, fun _ z => nomatch z⟩
  | e :: es, _, T, .cons (b := d) hd t => by
    obtain ⟨xs, r1, r2, r3⟩ := xs_of (P := P) (w := w) (fun x hx => T x (List.mem_cons_of_mem _ hx)) t
    obtain ⟨p, e1, n, dp, pl⟩ := T e (List.mem_cons_self ..)
    obtain ⟨h1, h2, h3⟩ := hd
    rw [e1] at h2
    have h2 : d.key = Value.ref p := h2
    refine ⟨(e.1, p, d.val) :: xs, ?_, .cons ⟨rfl, e1, h3⟩ r2, fun x hx => ?_⟩
    · rw [List.map_cons, ← r1]
      congr 1
      cases d with
      | mk dh dk dv =>
        have h1' : dh = hN e.1 := h1
        have h2' : dk = Value.ref p := h2
        show (⟨dh, dk, dv⟩ : DictEntry) = ⟨NestedKey.hash w e.1, .ref p, dv⟩
        rw [hash_plain w e.1 pl, h1', h2']
    · rcases List.mem_cons.mp hx with hx | hx
      · subst hx; exact ⟨n, dp⟩
      · exact r3 x hx
theorem ex_keys {es : List Ent} {xs : List (NestedKey × Addr × Value)} (h : Paired EX es xs) : xs.map (·.1) = es.map (·.1) := by
  induction h with
  | nil => rfl
  | cons h _ ih => rw [List.map_cons, List.map_cons, ih, h.1]
theorem dictOfH {P : Program} {w : World} {h : Heap} {a : Addr} {o : Obj} {es : List Ent} (t : TabP a o es h) (T : Ks false h es) (hn : (es.map (·.1)).Nodup) : ∃ xs, h.DictOfH (nestedKind P w) a xs ∧ Paired EX es xs := by
  obtain ⟨z, y, ds, ep, e, hc, hd, p⟩ := t
  obtain ⟨xs, r1, r2, r3⟩ := xs_of (P := P) (w := w) T p
  exact ⟨xs, ⟨o, ds, ep, e, hc, hd, r1, r3, by rw [ex_keys r2]; exact hn⟩, r2⟩
theorem ex_at {es : List Ent} {xs : List (NestedKey × Addr × Value)} (r : Paired EX es xs) (k : NestedKey) : RelO (atE es k) ((atKey xs k).map (·.2)) := by
  induction r with
  | nil => exact True.intro
  | @cons e x es xs h t ih =>
    obtain ⟨h1, h2, h3⟩ := h
    rw [atE_cons]
    by_cases c : e.1 = k
    · have b : atKey (x :: xs) k = some x.2 := by simp [atKey, List.find?_cons, h1.trans c]
      rw [if_pos c, b]; exact h3
    · have b : atKey (x :: xs) k = atKey xs k := by
        have : ¬ x.1 = k := fun z => c (h1.symm.trans z)
        simp [atKey, List.find?_cons, this]
      rw [if_neg c, b]; exact ih
theorem ex_put {es : List Ent} {xs : List (NestedKey × Addr × Value)} (r : Paired EX es xs) (k : NestedKey) {p : Addr} {v : V} {u : Value} (rv : RelV v u) : Paired EX (putE es k (.ref p) v) (storedH xs k p u) := by
  have e : (es.any fun e => decide (e.1 = k)) = (atKey xs k).isSome := by
    rw [anyE, (ex_at r k).isSome_eq, Option.isSome_map]
  unfold putE storedH
  rw [e]
  split
  · clear e
    rename_i hh
    clear hh
    induction r with
    | nil => exact .nil
    | @cons e x es xs h t ih =>
      rw [List.map_cons, List.map_cons]
      refine .cons ?_ ih
      obtain ⟨h1, h2, h3⟩ := h
      unfold putAt
      by_cases c : e.1 = k
      · rw [if_pos c, if_pos (h1.trans c)]; exact ⟨h1, h2, rv⟩
      · rw [if_neg c, if_neg fun z => c (h1.symm.trans z)]; exact ⟨h1, h2, h3⟩
  · exact Paired.snoc r ⟨rfl, rfl, rv⟩
theorem tab_back {P : Program} {w : World} {h0 : Heap} : ∀ {es : List Ent} {xs : List (NestedKey × Addr × Value)}, (∀ e ∈ es, K1 false h0 e.1 e.2.1) → Paired EX es xs → Paired EntOk es (xs.map (entryOfKey (nestedKind P w)))
  | [], _, _, .nil => .nil
  | e :: es, _, T, .cons (b := x) h t => by
    obtain ⟨p, e1, n, dp, pl⟩ := T e (List.mem_cons_self ..)
    obtain ⟨h1, h2, h3⟩ := h
    rw [List.map_cons]
    refine .cons ⟨?_, ?_, h3⟩ (tab_back (P := P) (w := w) (fun x hx => T x (List.mem_cons_of_mem _ hx)) t)
    · show (nestedKind P w).hash x.1 = _
      rw [h1]; exact hash_plain w _ pl
    · rw [h2]; rfl

theorem ref_of {a : Addr} {u : Value} (h : RelV (.ref a) u) : u = Value.ref a := h
/-! ### in a running program -/
section
variable {X : Cx} {pins : List (Addr × Obj)} {σ : L2.St} {H : Hp} {s : Shared} {a : Addr} {o : Obj} {es : List Ent} {k : NestedKey} {kv v : V} {u r : Value} {A : Around} {E : Value → Shared → Prop} {b : Bool}
theorem tab_at (I : L2.Inv X pins σ H s) (e : Rd H a (tab a o es)) : TabP a o es s.heap := (show ObjOk X.prog X.w H s.heap a (tab a o es) from rd_of I.hok e).1
theorem t_get {Q : Value → Shared → Prop} (hu : A.units + 9 < cLine) (I : L2.Inv X pins σ H s) (e : Rd H a (tab a o es)) (T : Ks b s.heap es) (hn : (es.map (·.1)).Nodup) (kk : K1 b s.heap k kv) (ry : RelV kv u) (l : atE es k = some v)
    (h : ∀ w' s', L2.Inv X pins σ H s' → RelV v w' → Q w' s') : wpAny (model X.prog X.w) A (getItem (.ref a) u) Q E s := by
  have t := tab_at I e
  cases b with
  | true =>
    obtain ⟨fk, rfl⟩ := kk
    obtain ⟨vs, dd, rel⟩ := dictOf (P := X.prog) (w := X.w) t T.flat hn
    obtain ⟨w', hw, rw'⟩ := RelO.some_of (v := v) (o := valueAt vs (keyO k)) (by rw [← l, ← flat_at T.flat fk]; exact rel.val (keyO k))
    exact wpAny_getItem_of (flat_is fk ry) dd.mapOf hw (h w' _ (I.tok _) rw')
  | false =>
    obtain ⟨p, rfl, n, dp, pl⟩ := kk
    cases ref_of ry
    obtain ⟨xs, dd, rel⟩ := dictOfH (P := X.prog) (w := X.w) t T hn
    obtain ⟨w', hw, rw'⟩ := RelO.some_of (v := v) (o := (atKey xs k).map (·.2)) (by rw [← l]; exact ex_at rel k)
    obtain ⟨q, hp, hq⟩ := Option.map_eq_some_iff.mp hw
    refine wpAny_getItem_heap (knd := nestedKind X.prog X.w) (k := k) (show A.units + 1 + 8 < cLine by omega) ⟨n, dp⟩ dd hp ?_
    rw [hq]
    exact h w' _ (I.tok _) rw'
theorem t_in {Q : Value → Shared → Prop} (hu : A.units + 9 < cLine) (I : L2.Inv X pins σ H s) (e : Rd H a (tab a o es)) (T : Ks b s.heap es) (hn : (es.map (·.1)).Nodup) (kk : K1 b s.heap k kv) (ry : RelV kv u)
    (h : ∀ s', L2.Inv X pins σ H s' → Q (.bool (atE es k).isSome) s') : wpAny (model X.prog X.w) A (compareOp .In u (.ref a)) Q E s := by
  have t := tab_at I e
  have y := t.2.1
  cases b with
  | true =>
    obtain ⟨fk, rfl⟩ := kk
    obtain ⟨vs, dd, rel⟩ := dictOf (P := X.prog) (w := X.w) t T.flat hn
    refine wpAny_in_of (flat_is fk ry) y dd.mapOf ?_
    rw [← (rel.val (keyO k)).isSome_eq, flat_at T.flat fk]
    exact h _ (I.tok _)
  | false =>
    obtain ⟨p, rfl, n, dp, pl⟩ := kk
    cases ref_of ry
    obtain ⟨xs, dd, rel⟩ := dictOfH (P := X.prog) (w := X.w) t T hn
    refine wpAny_in_heap (knd := nestedKind X.prog X.w) (k := k) (show A.units + 1 + 8 < cLine by omega) ⟨n, dp⟩ y dd ?_
    have q := (ex_at rel k).isSome_eq
    rw [Option.isSome_map] at q
    rw [← q]
    exact h _ (I.tok _)
theorem t_notIn {Q : Value → Shared → Prop} (hu : A.units + 9 < cLine) (I : L2.Inv X pins σ H s) (e : Rd H a (tab a o es)) (T : Ks b s.heap es) (hn : (es.map (·.1)).Nodup) (kk : K1 b s.heap k kv) (ry : RelV kv u)
    (h : ∀ s', L2.Inv X pins σ H s' → Q (.bool (!(atE es k).isSome)) s') : wpAny (model X.prog X.w) A (compareOp .NotIn u (.ref a)) Q E s := by
  have t := tab_at I e
  have y := t.2.1
  cases b with
  | true =>
    obtain ⟨fk, rfl⟩ := kk
    obtain ⟨vs, dd, rel⟩ := dictOf (P := X.prog) (w := X.w) t T.flat hn
    refine wpAny_notIn_of (flat_is fk ry) y dd.mapOf ?_
    rw [← (rel.val (keyO k)).isSome_eq, flat_at T.flat fk]
    exact h _ (I.tok _)
  | false =>
    obtain ⟨p, rfl, n, dp, pl⟩ := kk
    cases ref_of ry
    obtain ⟨xs, dd, rel⟩ := dictOfH (P := X.prog) (w := X.w) t T hn
    refine wpAny_notIn_heap (knd := nestedKind X.prog X.w) (k := k) (show A.units + 1 + 8 < cLine by omega) ⟨n, dp⟩ y dd ?_
    have q := (ex_at rel k).isSome_eq
    rw [Option.isSome_map] at q
    rw [← q]
    exact h _ (I.tok _)
theorem t_set {Q : Unit → Shared → Prop} (hu : A.units + 9 < cLine) (I : L2.Inv X pins σ H s) (e : H a = some (tab a o es)) (T : Ks b s.heap es) (hn : (es.map (·.1)).Nodup) (kk : K1 b s.heap k kv) (ry : RelV kv u) (rv : RelV v r) (hl : es.length < sizeLine)
    (h : ∀ s' o', L2.Inv X pins σ (upd H a (tab a o' (putE es k kv v))) s' → Q () s') : wpAny (model X.prog X.w) A (setItem (.ref a) u r) Q E s := by
  have t := tab_at I (.inl e)
  obtain ⟨z, y, _, _, _⟩ := id t
  have hz := putE_len es k kv v
  have mu : Mut (H a) := by rw [e]; exact True.intro
  cases b with
  | true =>
    obtain ⟨fk, rfl⟩ := kk
    obtain ⟨vs, dd, rel⟩ := dictOf (P := X.prog) (w := X.w) t T.flat hn
    have hv : vs.length ≤ sizeLine := by rw [← rel.length]; unfold okv; rw [List.length_map]; omega
    refine wpAny_setItem_pairs (hsz := hv) (flat_is fk ry) dd fun h' dd' hs => ?_
    have he : ∃ q, h'.get? a = some q := let ⟨q, _, _, hq, _⟩ := dd'; ⟨q, hq⟩
    have F' : Flat (putE es k (vK k) v) := fun x hx => Ks.put (b := true) T ⟨fk, rfl⟩ x hx
    obtain ⟨o', t'⟩ := tab_of (by omega) y F' dd' (by rw [flat_put T.flat fk]; exact rel.put _ rv)
    exact h _ o' (d_write I mu hs he (tab_obj t'))
  | false =>
    obtain ⟨p, rfl, n, dp, pl⟩ := kk
    cases ref_of ry
    obtain ⟨xs, dd, rel⟩ := dictOfH (P := X.prog) (w := X.w) t T hn
    have hv : xs.length ≤ sizeLine := by rw [← Paired.length rel]; omega
    refine wpAny_setItem_heap (knd := nestedKind X.prog X.w) (k := k) (hsz := hv) (show A.units + 1 + 8 < cLine by omega) ⟨n, dp⟩ dd fun h' dd' hs => ?_
    obtain ⟨q, ds, ep, hq, h2, h3, h4, _, h5⟩ := dd'
    refine h _ q (d_write I mu hs ⟨q, hq⟩ (tab_obj ⟨by omega, y, ds, ep, hq, h2, h3, ?_⟩))
    rw [h4]
    exact tab_back (fun x hx => Ks.put (b := false) T ⟨p, rfl, n, dp, pl⟩ x hx) (ex_put rel k rv)
end
section
variable {X : Cx} {pos : Pos}
def tTabNew : TE := fun _ H Q => ∀ p o, H p = none → Q (.ref p) (upd H p (tab p o []))
theorem tab_empty (h : Heap) (hb : sysModules < h.objs.size) : TabP h.objs.size { cls := .type "dict", data := .dict #[] } [] (h.push { cls := .type "dict", data := .dict #[] }) :=
  ⟨Nat.zero_le _, beq_false_of_ne fun z => absurd hb (by rw [z]; exact Nat.lt_irrefl _), #[], 0, Heap.get?_push_size _ rfl, ⟨rfl, rfl, rfl⟩, rfl, .nil⟩
theorem pe_tabNew : PE X (.Dict [] [] pos) tTabNew := ⟨fun pins s σ H Q I h =>
  wpAny_Dict_empty ⟨.ref s.heap.objs.size, _, I.laid (a := s.heap.objs.size) (o := tab s.heap.objs.size { cls := .type "dict", data := .dict #[] } []) (t' := s.toks) (fun _ _ q => Heap.get?_push_of_some _ q) (Nat.le_refl _) (tab_obj (tab_empty s.heap I.big)), rfl, h _ _ (I.hok.fresh (Nat.le_refl _))⟩⟩
end
end DK

set_option maxHeartbeats 4000000
/-! Data in place of heaps: values by what they are, names by slots that hold data; a def is a function of data. -/
namespace DL
open PySem PySem.Spec PyProof.Rows L2

inductive D where
  | non | bl (b : Bool) | int (i : Int) | str (x : Str)
  | tup (xs : List D) | lst (xs : List D)
  /-- the script -/
  | scr (ns : List Int)
  /-- an instance of the class with this number -/
  | ins (C : Nat) (fs : List (Str × D))
  | dic (kvs : List (D × D))
deriving Inhabited
/-- where the classes of the text lie, by their numbers -/
class CT where ct : Nat → Addr
variable [CT]

/-! keys of dicts -/
mutual
def keyD : D → Option NestedKey
  | .non => some .none
  | .int i => some (.num i)
  | .tup ds => (keyDs ds).map .tup
  | _ => none
def keyDs : List D → Option (List NestedKey)
  | [] => some []
  | d :: ds => match keyD d, keyDs ds with
    | some k, some ks => some (k :: ks)
    | _, _ => none
end
/-- a dict's keys: all flat, or all tuples, no two alike -/
structure Keys (b : Bool) (es : List DK.Ent) : Prop where
  nd : (es.map (·.1)).Nodup
  kind : ∀ e ∈ es, DK.flat e.1 = b ∧ e.1.depth ≤ 8

mutual
inductive Rep (K : PySem.W.Frag) (H : Hp) : V → D → Prop
  | non : Rep K H .non .non
  | bl (b : Bool) : Rep K H (.bl b) (.bl b)
  | int (i : Int) : Rep K H (.int i) (.int i)
  | str (x : Str) : Rep K H (.str x) (.str x)
  | tup {a : Addr} {vs : List V} {ds : List D} : SqT K H a vs → Reps K H vs ds → Rep K H (.ref a) (.tup ds)
  | lst {a : Addr} {vs : List V} {ds : List D} : H a = some (.lst vs) → Reps K H vs ds → Rep K H (.ref a) (.lst ds)
  | scr {a : Addr} {ns : List Int} : SqL K H a (ns.map V.int) → Rep K H (.ref a) (.scr ns)
  | ins {a dx : Addr} {C : Nat} {fs : List (Str × V)} {ds : List (Str × D)} : H a = some (.ins (CT.ct C) dx fs) → RepF K H fs ds → Rep K H (.ref a) (.ins C ds)
  | dic {a : Addr} {o : Obj} {es : List DK.Ent} {ds : List (D × D)} {b : Bool} : H a = some (DK.tab a o es) → RepE K H es ds → Keys b es → Rep K H (.ref a) (.dic ds)
inductive Reps (K : PySem.W.Frag) (H : Hp) : List V → List D → Prop
  | nil : Reps K H [] []
  | cons {v : V} {vs : List V} {d : D} {ds : List D} : Rep K H v d → Reps K H vs ds → Reps K H (v :: vs) (d :: ds)
inductive RepF (K : PySem.W.Frag) (H : Hp) : List (Str × V) → List (Str × D) → Prop
  | nil : RepF K H [] []
  | cons {x : Str} {v : V} {vs : List (Str × V)} {d : D} {ds : List (Str × D)} : Rep K H v d → RepF K H vs ds → RepF K H ((x, v) :: vs) ((x, d) :: ds)
inductive RepE (K : PySem.W.Frag) (H : Hp) : List DK.Ent → List (D × D) → Prop
  | nil : RepE K H [] []
  | cons {k : NestedKey} {kv v : V} {es : List DK.Ent} {x d : D} {ds : List (D × D)} : keyD x = some k → Rep K H kv x → Rep K H v d → RepE K H es ds → RepE K H ((k, kv, v) :: es) ((x, d) :: ds)
end

theorem Same.sqT {K : PySem.W.Frag} {H H' : Hp} {a : Addr} {xs : List V} (e : Same H H') (h : SqT K H a xs) : SqT K H' a xs := by
  rcases h with (h | ⟨o, h⟩) | h
  · exact .inl (.inl (e _ _ h))
  · exact .inl (.inr ⟨o, e _ _ h⟩)
  · exact .inr h

section
variable {K : PySem.W.Frag} {H H' : Hp}
mutual
theorem Rep.same (e : Same H H') : ∀ {v : V} {d : D}, Rep K H v d → Rep K H' v d
  | _, _, .non => .non
  | _, _, .bl b => .bl b
  | _, _, .int i => .int i
  | _, _, .str x => .str x
  | _, _, .tup s r => .tup (Same.sqT e s) (Reps.same e r)
  | _, _, .lst s r => .lst (e _ _ s) (Reps.same e r)
  | _, _, .scr s => .scr (L2.Same.seq e s)
  | _, _, .ins s r => .ins (e _ _ s) (RepF.same e r)
  | _, _, .dic s r k => .dic (e _ _ s) (RepE.same e r) k
theorem Reps.same (e : Same H H') : ∀ {v : List V} {d : List D}, Reps K H v d → Reps K H' v d
  | _, _, .nil => .nil
  | _, _, .cons r s => .cons (Rep.same e r) (Reps.same e s)
theorem RepF.same (e : Same H H') : ∀ {v : List (Str × V)} {d : List (Str × D)}, RepF K H v d → RepF K H' v d
  | _, _, .nil => .nil
  | _, _, .cons r s => .cons (Rep.same e r) (RepF.same e s)
theorem RepE.same (e : Same H H') : ∀ {v : List DK.Ent} {d : List (D × D)}, RepE K H v d → RepE K H' v d
  | _, _, .nil => .nil
  | _, _, .cons k r q s => .cons k (Rep.same e r) (Rep.same e q) (RepE.same e s)
end
theorem Reps.length : ∀ {vs : List V} {ds : List D}, Reps K H vs ds → vs.length = ds.length
  | _, _, .nil => rfl
  | _, _, .cons _ r => by simp [Reps.length r]
theorem Reps.append : ∀ {vs us : List V} {ds es : List D}, Reps K H vs ds → Reps K H us es → Reps K H (vs ++ us) (ds ++ es)
  | _, _, _, _, .nil, s => s
  | _, _, _, _, .cons r t, s => .cons r (Reps.append t s)
theorem Reps.get : ∀ {vs : List V} {ds : List D} {i : Nat} {d : D}, Reps K H vs ds → ds[i]? = some d → ∃ v, vs[i]? = some v ∧ Rep K H v d
  | _, _, _, _, .nil, e => by simp at e
  | _, _, 0, _, .cons r _, e => by simp at e; subst e; exact ⟨_, rfl, r⟩
  | _, _, i + 1, d, .cons _ t, e => by
    obtain ⟨u, h1, h2⟩ := Reps.get (i := i) (d := d) t (by simpa using e)
    exact ⟨u, by simpa using h1, h2⟩
theorem Reps.getV : ∀ {vs : List V} {ds : List D} {i : Nat} {v : V}, Reps K H vs ds → vs[i]? = some v → ∃ d, ds[i]? = some d ∧ Rep K H v d
  | _, _, _, _, .nil, e => by simp at e
  | _, _, 0, _, .cons r _, e => by simp at e; subst e; exact ⟨_, rfl, r⟩
  | _, _, i + 1, v, .cons _ t, e => by
    obtain ⟨u, h1, h2⟩ := Reps.getV (i := i) (v := v) t (by simpa using e)
    exact ⟨u, by simpa using h1, h2⟩
theorem Reps.take : ∀ {vs : List V} {ds : List D} (n : Nat), Reps K H vs ds → Reps K H (vs.take n) (ds.take n)
  | _, _, 0, _ => .nil
  | _, _, _ + 1, .nil => .nil
  | _, _, n + 1, .cons r t => .cons r (Reps.take n t)
theorem Reps.drop : ∀ {vs : List V} {ds : List D} (n : Nat), Reps K H vs ds → Reps K H (vs.drop n) (ds.drop n)
  | _, _, 0, r => r
  | _, _, _ + 1, .nil => .nil
  | _, _, n + 1, .cons _ t => Reps.drop n t
theorem Reps.set {v : V} {d : D} (r : Rep K H v d) : ∀ {vs : List V} {ds : List D} (i : Nat), Reps K H vs ds → Reps K H (vs.set i v) (ds.set i d)
  | _, _, _, .nil => .nil
  | _, _, 0, .cons _ t => .cons r t
  | _, _, i + 1, .cons q t => .cons q (Reps.set r i t)
theorem Reps.rep {vs : List V} {ds : List D} (h : Reps K H vs ds) : ∀ k : Nat, Reps K H (List.replicate k vs).flatten (List.replicate k ds).flatten
  | 0 => .nil
  | k + 1 => by
    rw [List.replicate_succ, List.replicate_succ, List.flatten_cons, List.flatten_cons]
    exact h.append (Reps.rep h k)
theorem RepF.lookup {f : Str} : ∀ {fs : List (Str × V)} {ds : List (Str × D)} {d : D}, RepF K H fs ds → ds.lookup f = some d → ∃ v, fs.lookup f = some v ∧ Rep K H v d
  | _, _, _, .nil, e => by simp at e
  | _, _, d, .cons (x := x) r t, e => by
    simp only [List.lookup_cons] at e ⊢
    cases h : (f == x) with
    | true => rw [h] at e; simp at e; subst e; exact ⟨_, rfl, r⟩
    | false => rw [h] at e; simp at e; exact RepF.lookup t e
theorem RepF.none {f : Str} : ∀ {fs : List (Str × V)} {ds : List (Str × D)}, RepF K H fs ds → ds.lookup f = none → fs.lookup f = none
  | _, _, .nil, e => rfl
  | _, _, .cons (x := x) r t, e => by
    simp only [List.lookup_cons] at e ⊢
    cases h : (f == x) with
    | true => rw [h] at e; simp at e
    | false => rw [h] at e; exact RepF.none t e
end

/-! ### hidden places -/
open Classical in
noncomputable def hide (O : Addr → Prop) (H : Hp) : Hp := fun a => if O a then none else H a
section
variable {O O' : Addr → Prop} {H H' : Hp} {a : Addr} {o : HO}
theorem hide_some : hide O H a = some o ↔ (¬ O a ∧ H a = some o) := by
  unfold hide
  by_cases h : O a <;> simp [h]
theorem hide_same (e : Same H H') : Same (hide O H) (hide O H') := fun b o h => by
  rw [hide_some] at h ⊢
  exact ⟨h.1, e _ _ h.2⟩
theorem hide_sub (h : ∀ a, O' a → O a) : Same (hide O H) (hide O' H) := fun b o q => by
  rw [hide_some] at q ⊢
  exact ⟨fun z => q.1 (h _ z), q.2⟩
theorem hide_le : Same (hide O H) H := fun b o q => (hide_some.mp q).2
theorem hide_upd (ha : O a) : Same (hide O H) (hide O (upd H a o)) := fun b u q => by
  rw [hide_some] at q ⊢
  refine ⟨q.1, ?_⟩
  rw [upd_ne (fun e => q.1 (by rw [e]; exact ha))]
  exact q.2
theorem same_upd (h : H a = none) : Same H (upd H a o) := fun b x e => by
  rw [upd_ne (ne_of_none e h)]
  exact e
end

/-! ### names: what each slot holds -/
/-- none: nothing known; (false, d): the data d; (true, d): d, at an object that this name alone holds -/
abbrev Slot := Option (Bool × D)
abbrev DEnv := List Slot
inductive TopR (K : PySem.W.Frag) (Hh H : Hp) (a : Addr) : D → Prop
  | lst {vs : List V} {ds : List D} : H a = some (.lst vs) → Reps K Hh vs ds → TopR K Hh H a (.lst ds)
  | dic {o : Obj} {es : List DK.Ent} {ds : List (D × D)} {b : Bool} : H a = some (DK.tab a o es) → RepE K Hh es ds → Keys b es → TopR K Hh H a (.dic ds)
theorem TopR.same {K : PySem.W.Frag} {Hh Hh' H H' : Hp} {a : Addr} {d : D} (t : TopR K Hh H a d) (e : Same Hh Hh') (f : H' a = H a) : TopR K Hh' H' a d := by
  cases t with
  | lst h r => exact .lst (f.trans h) (r.same e)
  | dic h r k => exact .dic (f.trans h) (r.same e) k
theorem TopR.some {K : PySem.W.Frag} {Hh H : Hp} {a : Addr} {d : D} (t : TopR K Hh H a d) : ∃ o, H a = some o := by
  cases t with
  | lst h r => exact ⟨_, h⟩
  | dic h r k => exact ⟨_, h⟩
theorem TopR.rep {K : PySem.W.Frag} {Hh H Hk : Hp} {a : Addr} {d : D} (t : TopR K Hh H a d) (e : Same Hh Hk) (f : ∀ o, H a = .some o → Hk a = .some o) : Rep K Hk (.ref a) d := by
  cases t with
  | lst h r => exact .lst (f _ h) (r.same e)
  | dic h r k => exact .dic (f _ h) (r.same e) k
def hid (O0 : Addr → Prop) (ow : Nat → Option Addr) : Addr → Prop := fun a => O0 a ∨ ∃ j, ow j = some a
def SlotR (K : PySem.W.Frag) (Hh H : Hp) (o : Option V) (w : Option Addr) : Slot → Prop
  | none => True
  | some (false, d) => ∃ v, o = some v ∧ Rep K Hh v d
  | some (true, d) => ∃ a, w = some a ∧ o = some (.ref a) ∧ TopR K Hh H a d
structure Sl (K : PySem.W.Frag) (O0 : Addr → Prop) (H : Hp) (σ : L2.St) (ρ : DEnv) (ow : Nat → Option Addr) : Prop where
  len : σ.length = ρ.length
  inj : ∀ i j a, ow i = some a → ow j = some a → i = j
  out : ∀ i a, ow i = some a → ¬ O0 a
  trk : ∀ a, hid O0 ow a → ∃ o, H a = some o
  sl : ∀ (i : Nat) (s : Slot), ρ[i]? = some s → ∃ o, σ[i]? = some o ∧ SlotR K (hide (hid O0 ow) H) H o (ow i) s
section
variable {K : PySem.W.Frag} {O0 : Addr → Prop} {H H' : Hp} {σ : L2.St} {ρ : DEnv} {ow : Nat → Option Addr}
theorem Sl.same (S : Sl K O0 H σ ρ ow) (e : Same H H') : Sl K O0 H' σ ρ ow := by
  refine ⟨S.len, S.inj, S.out, fun a h => ?_, fun i s h => ?_⟩
  · obtain ⟨o, q⟩ := S.trk a h
    exact ⟨o, e _ _ q⟩
  · obtain ⟨o, h1, h2⟩ := S.sl i s h
    refine ⟨o, h1, ?_⟩
    match s, h2 with
    | none, _ => trivial
    | some (false, d), ⟨v, e1, r⟩ => exact ⟨v, e1, r.same (hide_same e)⟩
    | some (true, d), ⟨a, e1, e2, t⟩ =>
      obtain ⟨u, q⟩ := t.some
      exact ⟨a, e1, e2, t.same (hide_same e) (by rw [q, e _ _ q])⟩
end

/-! ### expressions -/
abbrev DE1 := DEnv → Option D
/-- kept values -/
def tDE (K : PySem.W.Frag) (f : DE1) : TE := fun σ H Q => ∃ O0 ow ρ, Sl K O0 H σ ρ ow ∧ ∃ d, f ρ = some d ∧ ∀ v H', Same H H' → Rep K (hide (hid O0 ow) H') v d → Q v H'
/-- values that are looked at, not kept -/
def BV (K : PySem.W.Frag) (Hh H : Hp) (v : V) (d : D) : Prop := Rep K Hh v d ∨ ∃ a, v = .ref a ∧ TopR K Hh H a d
def tDB (K : PySem.W.Frag) (f : DE1) : TE := fun σ H Q => ∃ O0 ow ρ, Sl K O0 H σ ρ ow ∧ ∃ d, f ρ = some d ∧ ∀ v H', Same H H' → BV K (hide (hid O0 ow) H') H' v d → Q v H'
/-- new objects -/
def tDF (K : PySem.W.Frag) (f : DE1) : TE := fun σ H Q => ∃ O0 ow ρ, Sl K O0 H σ ρ ow ∧ ∃ d, f ρ = some d ∧ ∀ a H', Same H H' → H a = none → TopR K (hide (fun b => hid O0 ow b ∨ b = a) H') H' a d → Q (.ref a) H'
def tDA (K : PySem.W.Frag) (f : DEnv → Option (List D)) : TA := fun σ H Q => ∃ O0 ow ρ, Sl K O0 H σ ρ ow ∧ ∃ ds, f ρ = some ds ∧ ∀ vs H', Same H H' → Reps K (hide (hid O0 ow) H') vs ds → Q vs H'
inductive BVs (K : PySem.W.Frag) (Hh H : Hp) : List V → List D → Prop
  | nil : BVs K Hh H [] []
  | cons {v vs d ds} : BV K Hh H v d → BVs K Hh H vs ds → BVs K Hh H (v :: vs) (d :: ds)
def tDAB (K : PySem.W.Frag) (f : DEnv → Option (List D)) : TA := fun σ H Q => ∃ O0 ow ρ, Sl K O0 H σ ρ ow ∧ ∃ ds, f ρ = some ds ∧ ∀ vs H', Same H H' → BVs K (hide (hid O0 ow) H') H' vs ds → Q vs H'
def DE (X : Cx) (e : Expr) (f : DE1) : Prop := PE X e (tDE X.K f)
def DB (X : Cx) (e : Expr) (f : DE1) : Prop := PE X e (tDB X.K f)
def DF (X : Cx) (e : Expr) (f : DE1) : Prop := PE X e (tDF X.K f)
def DA (X : Cx) (e : List Expr) (f : DEnv → Option (List D)) : Prop := PA X e (tDA X.K f)
def DAB (X : Cx) (e : List Expr) (f : DEnv → Option (List D)) : Prop := PA X e (tDAB X.K f)
/-- a test -/
def tDT (K : PySem.W.Frag) (f : DE1) : TT := fun σ H Q => ∃ O0 ow ρ, Sl K O0 H σ ρ ow ∧ ∃ b, f ρ = some (.bl b) ∧ ∀ H', Same H H' → Q b H'
def DT (X : Cx) (e : Expr) (f : DE1) : Prop := PT X e (tDT X.K f)

section
variable {X : Cx} {e a b c : Expr} {es : List Expr} {f g fa fb fc : DE1} {pos : Pos}
theorem PE.imp {t t' : TE} (h : PE X e t) (k : ∀ σ H Q, t' σ H Q → t σ H Q) : PE X e t' := ⟨fun pins s σ H Q I q => h.run pins s σ H Q I (k _ _ _ q)⟩
theorem PT.imp {t t' : TT} (h : PT X e t) (k : ∀ σ H Q, t' σ H Q → t σ H Q) : PT X e t' := ⟨fun pins s σ H Q I q => h.run pins s σ H Q I (k _ _ _ q)⟩
theorem PA.imp {t t' : TA} (h : PA X es t) (k : ∀ σ H Q, t' σ H Q → t σ H Q) : PA X es t' := ⟨fun pos pins s σ H Q I q => h.run pos pins s σ H Q I (k _ _ _ q)⟩
theorem BV.same {K : PySem.W.Frag} {Hh Hh' H H' : Hp} {v : V} {d : D} (h : BV K Hh H v d) (e1 : Same Hh Hh') (e2 : Same H H') : BV K Hh' H' v d := by
  rcases h with h | ⟨a, r, t⟩
  · exact .inl (h.same e1)
  · obtain ⟨o, q⟩ := t.some
    exact .inr ⟨a, r, t.same e1 (by rw [q, e2 _ _ q])⟩
theorem BVs.of {K : PySem.W.Frag} {Hh H : Hp} : ∀ {vs : List V} {ds : List D}, Reps K Hh vs ds → BVs K Hh H vs ds
  | _, _, .nil => .nil
  | _, _, .cons r t => .cons (.inl r) (BVs.of t)
theorem db_of (h : DE X e f) : DB X e f := PE.imp h fun σ H Q ⟨O0, ow, ρ, S, d, e, k⟩ => ⟨O0, ow, ρ, S, d, e, fun v H' s r => k v H' s (.inl r)⟩
theorem de_of (h : DF X e f) : DE X e f := PE.imp h fun σ H Q ⟨O0, ow, ρ, S, d, e, k⟩ => ⟨O0, ow, ρ, S, d, e, fun a H' s n t => k (.ref a) H' s (t.rep (hide_sub fun b z => .inl z) fun o q => hide_some.mpr ⟨fun z => (let ⟨u, w⟩ := S.trk a z; by rw [n] at w; cases w), q⟩)⟩
theorem dab_of (h : DA X es f') : DAB X es f' := PA.imp h fun σ H Q ⟨O0, ow, ρ, S, d, e, k⟩ => ⟨O0, ow, ρ, S, d, e, fun v H' s r => k v H' s (.of r)⟩

def eC (d : D) : DE1 := fun _ => some d
theorem de_int {i j pos} : DE X (.Constant (.int i) j pos) (eC (.int i)) := PE.imp pe_int fun σ H Q ⟨O0, ow, ρ, S, d, e, k⟩ => by
  cases e; exact k _ _ (.refl _) (.int i)
theorem de_bl {i j pos} : DE X (.Constant (.bool i) j pos) (eC (.bl i)) := PE.imp pe_bl fun σ H Q ⟨O0, ow, ρ, S, d, e, k⟩ => by
  cases e; exact k _ _ (.refl _) (.bl i)
theorem de_non {j pos} : DE X (.Constant .none j pos) (eC .non) := PE.imp pe_non fun σ H Q ⟨O0, ow, ρ, S, d, e, k⟩ => by
  cases e; exact k _ _ (.refl _) .non
theorem de_str {i j pos} : DE X (.Constant (.str i) j pos) (eC (.str i)) := PE.imp pe_str fun σ H Q ⟨O0, ow, ρ, S, d, e, k⟩ => by
  cases e; exact k _ _ (.refl _) (.str i)
def eV (i : Nat) : DE1 := fun ρ => match ρ[i]? with
  | some (some (false, d)) => some d
  | _ => none
def eVB (i : Nat) : DE1 := fun ρ => match ρ[i]? with
  | some (some (_, d)) => some d
  | _ => none
theorem de_var (i : Nat) {x : Str} {pos : Pos} (h : PE X (.Name x pos) (tVar i)) : DE X (.Name x pos) (eV i) := PE.imp h fun σ H Q ⟨O0, ow, ρ, S, d, e, k⟩ => by
  unfold eV at e
  split at e
  · rename_i d' h'
    cases e
    obtain ⟨o, h1, v, rfl, r⟩ := S.sl i _ h'
    exact ⟨v, h1, k v H (.refl _) r⟩
  · cases e
theorem db_var (i : Nat) {x : Str} {pos : Pos} (h : PE X (.Name x pos) (tVar i)) : DB X (.Name x pos) (eVB i) := PE.imp h fun σ H Q ⟨O0, ow, ρ, S, d, e, k⟩ => by
  unfold eVB at e
  split at e
  · rename_i fl d' h'
    cases e
    obtain ⟨o, h1, h2⟩ := S.sl i _ h'
    cases fl with
    | false =>
      obtain ⟨v, rfl, r⟩ := h2
      exact ⟨v, h1, k v H (.refl _) (.inl r)⟩
    | true =>
      obtain ⟨a, e1, rfl, t⟩ := h2
      exact ⟨.ref a, h1, k _ H (.refl _) (.inr ⟨a, rfl, t⟩)⟩
  · cases e
/-- a constant of the module -/
theorem de_glob {x : Str} {v : V} {d : D} {pos : Pos} (h : PE X (.Name x pos) (tC v)) (r : ∀ H, Rep X.K H v d) : DE X (.Name x pos) (eC d) := PE.imp h fun σ H Q ⟨O0, ow, ρ, S, d, e, k⟩ => by
  cases e; exact k _ _ (.refl _) (r _)
/-- two things, then an operation on them -/
def OpD (X : Cx) (f : Value → Value → Sem Value) (g : D → D → Option D) : Prop := ∃ r : R2, OpR X f r ∧ ∀ (O : Addr → Prop) (H : Hp) (x y : V) (p q d : D) (Q : VK), BV X.K (hide O H) H x p → BV X.K (hide O H) H y q → g p q = some d →
  (∀ v H', Same H H' → Rep X.K (hide O H') v d → Q v H') → (∀ a, O a → ∃ o, H a = some o) → r x y H Q
def e2 (g : D → D → Option D) (fa fb : DE1) : DE1 := fun ρ => (fa ρ).bind fun x => (fb ρ).bind fun y => g x y
theorem e2_some {g : D → D → Option D} {ρ : DEnv} {d : D} (h : e2 g fa fb ρ = some d) : ∃ x y, fa ρ = some x ∧ fb ρ = some y ∧ g x y = some d := by
  unfold e2 at h
  cases ea : fa ρ with
  | none => rw [ea] at h; cases h
  | some x =>
    cases eb : fb ρ with
    | none => rw [ea, eb] at h; cases h
    | some y => rw [ea, eb] at h; exact ⟨x, y, rfl, rfl, h⟩
theorem tOp_D {f : Value → Value → Sem Value} {g : D → D → Option D} {r : R2} (hr : ∀ (O : Addr → Prop) (H : Hp) (x y : V) (p q d : D) (Q : VK), BV X.K (hide O H) H x p → BV X.K (hide O H) H y q → g p q = some d →
  (∀ v H', Same H H' → Rep X.K (hide O H') v d → Q v H') → (∀ a, O a → ∃ o, H a = some o) → r x y H Q) : ∀ σ H Q, tDE X.K (e2 g fa fb) σ H Q → tOp r (tDB X.K fa) (tDB X.K fb) σ H Q := fun σ H Q ⟨O0, ow, ρ, S, d, e, k⟩ => by
  obtain ⟨p, q, ea, eb, eg⟩ := e2_some e
  refine ⟨O0, ow, ρ, S, p, ea, fun x H1 s1 r1 => ?_⟩
  refine ⟨O0, ow, ρ, S.same s1, q, eb, fun y H2 s2 r2 => ?_⟩
  exact hr _ H2 x y p q d Q (r1.same (hide_same s2) s2) r2 eg (fun v H' s r => k v H' ((s1.trans s2).trans s) r) ((S.same s1).same s2).trk
theorem de_op {op : Operator} {g : D → D → Option D} (ho : OpD X (binaryOp op) g) (ha : DB X a fa) (hb : DB X b fb) : DE X (.BinOp a op b pos) (e2 g fa fb) := by
  obtain ⟨r, o, h⟩ := ho
  exact PE.imp (pe_op o ha hb) (tOp_D (f := binaryOp op) h)
theorem de_cmp {op : CmpOp} {g : D → D → Option D} (ho : OpD X (compareOp op) g) (ha : DB X a fa) (hb : DB X b fb) (hm : behindInMarks op b = false) : DE X (.Compare a [op] [b] pos) (e2 g fa fb) := by
  obtain ⟨r, o, h⟩ := ho
  exact PE.imp (pe_cmpR o ha hb hm) (tOp_D (f := compareOp op) h)
theorem dt_cmp {op : CmpOp} {g : D → D → Option D} (ho : OpD X (compareOp op) g) (ha : DB X a fa) (hb : DB X b fb) (hm : behindInMarks op b = false) : DT X (.Compare a [op] [b] pos) (e2 g fa fb) := by
  obtain ⟨r, o, h⟩ := ho
  refine PT.imp (pt_cmpR o ha hb hm) fun σ H Q ⟨O0, ow, ρ, S, b, e, k⟩ => ?_
  exact tOp_D (f := compareOp op) h σ H _ ⟨O0, ow, ρ, S, _, e, fun v H' s r => by cases r; exact ⟨b, rfl, k H' s⟩⟩
/-- an expression that gives a truth value, as a test -/
theorem dt_val (h : DE X e f) (he : ∀ whole, isTrue e X.env whole = (do let v ← whole; standAt e.pos; holding [v] (truthy v)) := by intro _; rfl) : DT X e f := PT.imp (pt_val h he) fun σ H Q ⟨O0, ow, ρ, S, b, e, k⟩ =>
  ⟨O0, ow, ρ, S, _, e, fun v H' s r => by cases r; exact ⟨b, rfl, k H' s⟩⟩
end
end DL

set_option maxHeartbeats 4000000
namespace DL
open PySem PySem.Spec PyProof.Rows L2
variable [CT]

section
variable {K : PySem.W.Frag} {O0 : Addr → Prop} {H H' : Hp} {σ : L2.St} {ρ : DEnv} {ow : Nat → Option Addr} {i : Nat} {a : Addr} {v : V} {d : D}
theorem getset {α : Type} {l : List α} {i j : Nat} {x y : α} (h : (l.set i x)[j]? = some y) : (j = i ∧ y = x) ∨ (j ≠ i ∧ l[j]? = some y) := by
  by_cases e : j = i
  · subst e
    by_cases hl : j < l.length
    · rw [List.getElem?_set_self hl] at h; exact .inl ⟨rfl, (Option.some.inj h).symm⟩
    · rw [List.getElem?_eq_none (by simp; omega)] at h; cases h
  · rw [List.getElem?_set_ne (Ne.symm e)] at h; exact .inr ⟨e, h⟩
theorem setget {α : Type} {l : List α} {i : Nat} {x y : α} (h : l[i]? = some y) : (l.set i x)[i]? = some x := List.getElem?_set_self (List.getElem?_eq_some_iff.mp h).1
theorem inlen {α β : Type} {l : List α} {m : List β} {i : Nat} {y : α} (e : l.length = m.length) (h : l[i]? = some y) : ∃ x, m[i]? = some x := by
  have := (List.getElem?_eq_some_iff.mp h).1
  exact ⟨m[i]'(by omega), List.getElem?_eq_getElem (by omega)⟩
theorem Sl.set (S : Sl K O0 H σ ρ ow) (r : Rep K (hide (hid O0 ow) H) v d) : Sl K O0 H (σ.set i (some v)) (ρ.set i (some (false, d))) ow := by
  refine ⟨by simp [S.len], S.inj, S.out, S.trk, fun j s h => ?_⟩
  rcases getset h with ⟨rfl, rfl⟩ | ⟨ne, h⟩
  · have hl := (List.getElem?_eq_some_iff.mp h).1
    simp only [List.length_set, ← S.len] at hl
    exact ⟨_, List.getElem?_set_self hl, v, rfl, r⟩
  · obtain ⟨o, h1, h2⟩ := S.sl j s h
    exact ⟨o, by rw [List.getElem?_set_ne (Ne.symm ne)]; exact h1, h2⟩
theorem Sl.forget (S : Sl K O0 H σ ρ ow) : Sl K O0 H (σ.set i none) (ρ.set i none) ow := by
  refine ⟨by simp [S.len], S.inj, S.out, S.trk, fun j s h => ?_⟩
  rcases getset h with ⟨rfl, rfl⟩ | ⟨ne, h⟩
  · have hl := (List.getElem?_eq_some_iff.mp h).1
    simp only [List.length_set, ← S.len] at hl
    exact ⟨_, List.getElem?_set_self hl, trivial⟩
  · obtain ⟨o, h1, h2⟩ := S.sl j s h
    exact ⟨o, by rw [List.getElem?_set_ne (Ne.symm ne)]; exact h1, h2⟩
def owSet (ow : Nat → Option Addr) (i : Nat) (w : Option Addr) : Nat → Option Addr := fun j => if j = i then w else ow j
theorem Sl.setF (S : Sl K O0 H σ ρ ow) (e : Same H H') (n : H a = none) (t : TopR K (hide (fun b => hid O0 ow b ∨ b = a) H') H' a d) :
    Sl K O0 H' (σ.set i (some (.ref a))) (ρ.set i (some (true, d))) (owSet ow i (some a)) := by
  have nh : ¬ hid O0 ow a := fun z => by
    obtain ⟨u, w⟩ := S.trk a z
    rw [n] at w; cases w
  have sub : ∀ b, hid O0 (owSet ow i (some a)) b → hid O0 ow b ∨ b = a := fun b z => by
    rcases z with z | ⟨j, z⟩
    · exact .inl (.inl z)
    · unfold owSet at z
      split at z
      · exact .inr (Option.some.inj z).symm
      · exact .inl (.inr ⟨j, z⟩)
  have sm : Same (hide (hid O0 ow) H) (hide (hid O0 (owSet ow i (some a))) H') := fun b o q => by
    rw [hide_some] at q ⊢
    refine ⟨fun z => ?_, e _ _ q.2⟩
    rcases sub b z with z | z
    · exact q.1 z
    · subst z; rw [n] at q; cases q.2
  obtain ⟨u, hu⟩ := t.some
  refine ⟨by simp [S.len], fun j k b h1 h2 => ?_, fun j b h => ?_, fun b z => ?_, fun j s h => ?_⟩
  · unfold owSet at h1 h2
    split at h1 <;> split at h2
    · omega
    · cases h1; exact absurd (.inr ⟨k, h2⟩) nh
    · cases h2; exact absurd (.inr ⟨j, h1⟩) nh
    · exact S.inj j k b h1 h2
  · unfold owSet at h
    split at h
    · cases h; exact fun z => nh (.inl z)
    · exact S.out j b h
  · rcases sub b z with z | z
    · obtain ⟨o, q⟩ := S.trk b z
      exact ⟨o, e _ _ q⟩
    · subst z; exact ⟨u, hu⟩
  · rcases getset h with ⟨rfl, rfl⟩ | ⟨ne, h⟩
    · have hl := (List.getElem?_eq_some_iff.mp h).1
      simp only [List.length_set, ← S.len] at hl
      refine ⟨_, List.getElem?_set_self hl, a, by simp [owSet], rfl, t.same (hide_sub fun b z => sub b z) rfl⟩
    · obtain ⟨o, h1, h2⟩ := S.sl j s h
      refine ⟨o, by rw [List.getElem?_set_ne (Ne.symm ne)]; exact h1, ?_⟩
      have eo : owSet ow i (some a) j = ow j := by simp [owSet, ne]
      rw [eo]
      match s, h2 with
      | none, _ => trivial
      | some (false, d), ⟨v, e1, r⟩ => exact ⟨v, e1, r.same sm⟩
      | some (true, d), ⟨b, e1, e2, t'⟩ =>
        obtain ⟨u', q⟩ := t'.some
        exact ⟨b, e1, e2, t'.same sm (by rw [q, e _ _ q])⟩
/-- an object that one name alone holds is changed -/
theorem Sl.wr {o : HO} {d' : D} (S : Sl K O0 H σ ρ ow) (hi : ρ[i]? = some (some (true, d))) (ha : ow i = some a)
    (t : ∀ Hh, Same (hide (hid O0 ow) H) Hh → TopR K Hh (upd H a o) a d') : Sl K O0 (upd H a o) σ (ρ.set i (some (true, d'))) ow := by
  have hh : hid O0 ow a := .inr ⟨i, ha⟩
  refine ⟨by simp [S.len], S.inj, S.out, fun b z => ?_, fun j s h => ?_⟩
  · by_cases hb : b = a
    · subst hb; exact ⟨o, upd_same⟩
    · rw [upd_ne hb]; exact S.trk b z
  · rcases getset h with ⟨rfl, rfl⟩ | ⟨ne, h⟩
    · obtain ⟨x, h1, b, e1, e2, _⟩ := S.sl j _ hi
      rw [ha] at e1; cases e1
      exact ⟨x, h1, a, ha, e2, t _ (hide_upd hh)⟩
    · obtain ⟨x, h1, h2⟩ := S.sl j s h
      refine ⟨x, h1, ?_⟩
      match s, h2 with
      | none, _ => trivial
      | some (false, d), ⟨v, e1, r⟩ => exact ⟨v, e1, r.same (hide_upd hh)⟩
      | some (true, d), ⟨b, e1, e2, t'⟩ =>
        refine ⟨b, e1, e2, t'.same (hide_upd hh) ?_⟩
        rw [upd_ne]
        intro z; subst z; exact ne (S.inj _ _ _ e1 ha)
def frz (i : Nat) (ρ : DEnv) : DEnv := match ρ[i]? with
  | some (some (true, d)) => ρ.set i (some (false, d))
  | _ => ρ
theorem Sl.frz (S : Sl K O0 H σ ρ ow) : ∃ ow', Sl K O0 H σ (frz i ρ) ow' ∧ ∀ j b, ow' j = some b → ow j = some b := by
  unfold DL.frz
  split
  · rename_i d hi
    obtain ⟨x, h1, a, ha, e2, t⟩ := S.sl i _ hi
    have sub : ∀ b, hid O0 (owSet ow i none) b → hid O0 ow b := fun b z => by
      rcases z with z | ⟨j, z⟩
      · exact .inl z
      · unfold owSet at z
        split at z
        · cases z
        · exact .inr ⟨j, z⟩
    have ho : ∀ j b, owSet ow i none j = some b → ow j = some b ∧ j ≠ i := fun j b z => by
      unfold owSet at z
      split at z
      · cases z
      · rename_i q; exact ⟨z, q⟩
    have na : ¬ hid O0 (owSet ow i none) a := fun z => by
      rcases z with z | ⟨j, z⟩
      · exact S.out i a ha z
      · obtain ⟨z, q⟩ := ho j a z
        exact q (S.inj _ _ _ z ha)
    refine ⟨owSet ow i none, ⟨by simp [S.len], fun j k b h1 h2 => S.inj j k b (ho _ _ h1).1 (ho _ _ h2).1, fun j b h => S.out j b (ho _ _ h).1, fun b z => S.trk b (sub b z), fun j s h => ?_⟩, fun j b h => (ho j b h).1⟩
    rcases getset h with ⟨rfl, rfl⟩ | ⟨ne, h⟩
    · exact ⟨x, h1, _, e2, t.rep (hide_sub sub) fun o q => hide_some.mpr ⟨na, q⟩⟩
    · obtain ⟨o, h1, h2⟩ := S.sl j s h
      refine ⟨o, h1, ?_⟩
      have eo : owSet ow i none j = ow j := by simp [owSet, ne]
      rw [eo]
      match s, h2 with
      | none, _ => trivial
      | some (false, d), ⟨v, e1, r⟩ => exact ⟨v, e1, r.same (hide_sub sub)⟩
      | some (true, d), ⟨b, e1, e2, t'⟩ => exact ⟨b, e1, e2, t'.same (hide_sub sub) rfl⟩
  · exact ⟨ow, S, fun _ _ h => h⟩
end

/-! ### statements -/
inductive Fl where
  | nx (ρ : DEnv) | rt (d : D) | bk (ρ : DEnv) | ct (ρ : DEnv) | stuck
abbrev DS1 := DEnv → Fl
def Stt (K : PySem.W.Frag) (H0 : Hp) (O0 : Addr → Prop) (σ : L2.St) (H : Hp) (ρ : DEnv) : Prop := Same H0 H ∧ ∃ ow, Sl K O0 H σ ρ ow ∧ ∀ i a, ow i = some a → H0 a = none
def Post (K : PySem.W.Frag) (H0 : Hp) (O0 : Addr → Prop) (N : Ends) : Fl → Prop
  | .nx ρ => ∀ σ H, Stt K H0 O0 σ H ρ → N.nx σ H
  | .bk ρ => ∀ σ H, Stt K H0 O0 σ H ρ → N.bk σ H
  | .ct ρ => ∀ σ H, Stt K H0 O0 σ H ρ → N.ct σ H
  | .rt d => ∀ v H, Same H0 H → Rep K (hide O0 H) v d → N.rt v H
  | .stuck => False
def tDS (K : PySem.W.Frag) (g : DS1) : TS := fun N σ H => ∃ H0 O0 ρ, Stt K H0 O0 σ H ρ ∧ Post K H0 O0 N (g ρ)
def DS (X : Cx) (st : Stmt) (g : DS1) : Prop := PS X st (tDS X.K g)
def DSs (X : Cx) (st : List Stmt) (g : DS1) : Prop := PSs X st (tDS X.K g)
theorem PS.imp {X : Cx} {st : Stmt} {t t' : TS} (h : PS X st t) (k : ∀ N σ H, t' N σ H → t N σ H) : PS X st t' := ⟨fun pins s σ H N I q => h.run pins s σ H N I (k _ _ _ q)⟩
theorem PSs.imp {X : Cx} {st : List Stmt} {t t' : TS} (h : PSs X st t) (k : ∀ N σ H, t' N σ H → t N σ H) : PSs X st t' := ⟨fun pins s σ H N I q => h.run pins s σ H N I (k _ _ _ q)⟩
theorem Stt.same {K : PySem.W.Frag} {H0 H H' : Hp} {O0 : Addr → Prop} {σ : L2.St} {ρ : DEnv} (S : Stt K H0 O0 σ H ρ) (e : Same H H') : Stt K H0 O0 σ H' ρ := by
  obtain ⟨s, ow, S, h⟩ := S
  exact ⟨s.trans e, ow, S.same e, h⟩

section
variable {X : Cx} {st : Stmt} {rest : List Stmt} {g g' : DS1} {e c : Expr} {f fc : DE1} {pos : Pos}
def gNx : DS1 := fun ρ => .nx ρ
def gStuck : DS1 := fun _ => .stuck
def gSeq (g g' : DS1) : DS1 := fun ρ => match g ρ with
  | .nx ρ1 => g' ρ1
  | x => x
theorem dss_nil : DSs X [] gNx := PSs.imp pss_nil fun N σ H ⟨H0, O0, ρ, S, p⟩ => p σ H S
theorem dss_cons (h1 : DS X st g) (h2 : DSs X rest g') : DSs X (st :: rest) (gSeq g g') := PSs.imp (pss_cons h1 h2) fun N σ H ⟨H0, O0, ρ, S, p⟩ => by
  refine ⟨H0, O0, ρ, S, ?_⟩
  unfold gSeq at p
  cases e : g ρ with
  | nx ρ1 => rw [e] at p; exact fun σ' H' S' => ⟨H0, O0, ρ1, S', p⟩
  | rt d => rw [e] at p; exact p
  | bk ρ => rw [e] at p; exact p
  | ct ρ => rw [e] at p; exact p
  | stuck => rw [e] at p; exact p
theorem dss_one (h1 : DS X st g) : DSs X [st] g := pss_one h1
theorem ds_frz (i : Nat) (h : DS X st g) : DS X st (fun ρ => g (frz i ρ)) := PS.imp h fun N σ H ⟨H0, O0, ρ, S, p⟩ => by
  obtain ⟨s, ow, S, h⟩ := S
  obtain ⟨ow', S', k⟩ := S.frz (i := i)
  exact ⟨H0, O0, frz i ρ, ⟨s, ow', S', fun j a q => h j a (k j a q)⟩, p⟩
theorem ds_stuck : DS X st gStuck := PS.imp ps_never fun N σ H ⟨H0, O0, ρ, S, p⟩ => p
theorem dss_stuck {sts : List Stmt} : DSs X sts gStuck := PSs.imp pss_never fun N σ H ⟨H0, O0, ρ, S, p⟩ => p
theorem ds_pass : DS X (.Pass pos) gNx := PS.imp ps_pass fun N σ H ⟨H0, O0, ρ, S, p⟩ => p σ H S
theorem ds_brk : DS X (.Break pos) (fun ρ => .bk ρ) := PS.imp ps_break fun N σ H ⟨H0, O0, ρ, S, p⟩ => p σ H S
theorem ds_cnt : DS X (.Continue pos) (fun ρ => .ct ρ) := PS.imp ps_continue fun N σ H ⟨H0, O0, ρ, S, p⟩ => p σ H S
def gRet (f : DE1) : DS1 := fun ρ => match f ρ with
  | some d => .rt d
  | none => .stuck
theorem ret_post {K : PySem.W.Frag} {t : TE} (ht : ∀ σ H Q, tDE K f σ H Q → t σ H Q) : ∀ N σ H, tDS K (gRet f) N σ H → tRet t N σ H := fun N σ H ⟨H0, O0, ρ, ⟨s, ow, S, h⟩, p⟩ => by
  unfold gRet at p
  cases e : f ρ with
  | none => rw [e] at p; exact p.elim
  | some d =>
    rw [e] at p
    exact ht _ _ _ ⟨O0, ow, ρ, S, d, e, fun v H' s' r => p v H' (s.trans s') (r.same (hide_sub fun b z => .inl z))⟩
theorem ds_ret (he : DE X e f) : DS X (.Return (some e) pos) (gRet f) := PS.imp (ps_ret he) (ret_post fun _ _ _ q => q)
theorem ds_retN : DS X (.Return none pos) (gRet (eC .non)) := PS.imp ps_retN fun N σ H ⟨H0, O0, ρ, ⟨s, ow, S, h⟩, p⟩ => p .non H s .non
def gIf (c : DE1) (g g' : DS1) : DS1 := fun ρ => match c ρ with
  | some (.bl true) => g ρ
  | some (.bl false) => g' ρ
  | _ => .stuck
theorem ds_if {A B : List Stmt} (hc : DT X c fc) (ha : DSs X A g) (hb : DSs X B g') : DS X (.If c A B pos) (gIf fc g g') := PS.imp (ps_if hc ha hb) fun N σ H ⟨H0, O0, ρ, S, p⟩ => by
  obtain ⟨s, ow, S1, h⟩ := id S
  unfold gIf at p
  split at p
  · rename_i e
    exact ⟨O0, ow, ρ, S1, true, e, fun H' s' => iteT ⟨H0, O0, ρ, S.same s', p⟩⟩
  · rename_i e
    exact ⟨O0, ow, ρ, S1, false, e, fun H' s' => iteF ⟨H0, O0, ρ, S.same s', p⟩⟩
  · exact p.elim
def gSet (i : Nat) (f : DE1) : DS1 := fun ρ => match f ρ with
  | some d => .nx (ρ.set i (some (false, d)))
  | none => .stuck
def gSetF (i : Nat) (f : DE1) : DS1 := fun ρ => match f ρ with
  | some d => .nx (ρ.set i (some (true, d)))
  | none => .stuck
theorem set_post {K : PySem.W.Frag} {i : Nat} : ∀ N σ H, tDS K (gSet i f) N σ H → tAsg (tDE K f) (gName i) N σ H := fun N σ H ⟨H0, O0, ρ, ⟨s, ow, S, h⟩, p⟩ => by
  unfold gSet at p
  cases e : f ρ with
  | none => rw [e] at p; exact p.elim
  | some d =>
    rw [e] at p
    exact ⟨O0, ow, ρ, S, d, e, fun v H' s' r => p _ H' ⟨s.trans s', ow, (S.same s').set r, h⟩⟩
theorem setF_post {K : PySem.W.Frag} {i : Nat} : ∀ N σ H, tDS K (gSetF i f) N σ H → tAsg (tDF K f) (gName i) N σ H := fun N σ H ⟨H0, O0, ρ, ⟨s, ow, S, h⟩, p⟩ => by
  unfold gSetF at p
  cases e : f ρ with
  | none => rw [e] at p; exact p.elim
  | some d =>
    rw [e] at p
    refine ⟨O0, ow, ρ, S, d, e, fun a H' s' n t => p _ H' ⟨s.trans s', _, S.setF s' n t, fun j b q => ?_⟩⟩
    unfold owSet at q
    split at q
    · cases q; exact Same.free s n
    · exact h j b q
theorem ds_set (i : Nat) {x : Str} {pos' : Pos} (hN : X.N.Nodup) (he : DE X e f) (hi : X.N[i]? = some x := by rfl) (hx : Loc X.env.scope x := by first | exact .inl rfl | exact .inr rfl)
    (hs : swapsWith e (some (.Name x pos')) pos.line X.env = pure false := by rfl) (hf : X.fn x = true ∨ X.env.scope.names.lookup x = some .local := by first | exact .inl rfl | exact .inr rfl | assumption) :
    DS X (.Assign [.Name x pos'] e pos) (gSet i f) := PS.imp (ps_set hN hi hx he hs hf) set_post
theorem ds_setF (i : Nat) {x : Str} {pos' : Pos} (hN : X.N.Nodup) (he : DF X e f) (hi : X.N[i]? = some x := by rfl) (hx : Loc X.env.scope x := by first | exact .inl rfl | exact .inr rfl)
    (hs : swapsWith e (some (.Name x pos')) pos.line X.env = pure false := by rfl) (hf : X.fn x = true ∨ X.env.scope.names.lookup x = some .local := by first | exact .inl rfl | exact .inr rfl | assumption) :
    DS X (.Assign [.Name x pos'] e pos) (gSetF i f) := PS.imp (ps_set hN hi hx he hs hf) setF_post

/-! ### targets -/
def tDG (K : PySem.W.Frag) (is : List Nat) (b : D → DEnv → Option DEnv) : TG := fun v σ H Q => ∃ O0 ow ρ d, Sl K O0 H σ ρ ow ∧ Rep K (hide (hid O0 ow) H) v d ∧ ∃ ρ', b d ρ = some ρ' ∧
  ∀ σ', Sl K O0 H σ' ρ' ow → (∀ vs, (∀ i ∈ is, i ∈ vs) → wipe σ' vs = wipe σ vs) → Q σ' H
def tDGs (K : PySem.W.Frag) (is : List Nat) (b : List D → DEnv → Option DEnv) : TGs := fun v σ H Q => ∃ O0 ow ρ d, Sl K O0 H σ ρ ow ∧ Reps K (hide (hid O0 ow) H) v d ∧ ∃ ρ', b d ρ = some ρ' ∧
  ∀ σ', Sl K O0 H σ' ρ' ow → (∀ vs, (∀ i ∈ is, i ∈ vs) → wipe σ' vs = wipe σ vs) → Q σ' H
def DG (X : Cx) (tg : Expr) (is : List Nat) (b : D → DEnv → Option DEnv) : Prop := PG X tg (tDG X.K is b)
def DGs (X : Cx) (tg : List Expr) (is : List Nat) (b : List D → DEnv → Option DEnv) : Prop := PGs X tg (tDGs X.K is b)
theorem PG.imp {tg : Expr} {t t' : TG} (h : PG X tg t) (k : ∀ v σ H Q, t' v σ H Q → t v σ H Q) : PG X tg t' := ⟨fun pins s σ H v u Q I r q => h.run pins s σ H v u Q I r (k _ _ _ _ q)⟩
theorem PGs.imp {tg : List Expr} {t t' : TGs} (h : PGs X tg t) (k : ∀ v σ H Q, t' v σ H Q → t v σ H Q) : PGs X tg t' := ⟨fun pins s σ H v u Q I r q => h.run pins s σ H v u Q I r (k _ _ _ _ q)⟩
theorem wipe_set {σ : L2.St} {i : Nat} {o : Option V} : ∀ {vs : List Nat}, i ∈ vs → wipe (σ.set i o) vs = wipe σ vs
  | v :: vs, h => by
    unfold wipe
    by_cases hv : i ∈ vs
    · rw [wipe_set hv]
    · have e : i = v := by simpa [hv] using h
      subst e
      have comm : ∀ (ws : List Nat), (wipe (σ.set i o) ws).set i none = (wipe σ ws).set i none := by
        intro ws
        induction ws with
        | nil => show (σ.set i o).set i none = σ.set i none; rw [List.set_set]
        | cons w ws ih =>
          show ((wipe (σ.set i o) ws).set w none).set i none = ((wipe σ ws).set w none).set i none
          by_cases hw : w = i
          · subst hw; rw [List.set_set, List.set_set]; exact ih
          · rw [List.set_comm _ _ hw, ih, List.set_comm _ _ hw]
      exact comm vs
def bN (i : Nat) : D → DEnv → Option DEnv := fun d ρ => some (ρ.set i (some (false, d)))
def bT (b : List D → DEnv → Option DEnv) : D → DEnv → Option DEnv := fun d ρ => match d with
  | .tup ds => b ds ρ
  | _ => none
def bNil : List D → DEnv → Option DEnv := fun ds ρ => match ds with
  | [] => some ρ
  | _ => none
def bCons (b : D → DEnv → Option DEnv) (bs : List D → DEnv → Option DEnv) : List D → DEnv → Option DEnv := fun ds ρ => match ds with
  | d :: ds => (b d ρ).bind (bs ds)
  | _ => none
theorem dg_name (i : Nat) {x : Str} {pos : Pos} (hN : X.N.Nodup) (hi : X.N[i]? = some x := by rfl) (hx : Loc X.env.scope x := by first | exact .inl rfl | exact .inr rfl) (hf : X.fn x = true ∨ X.env.scope.names.lookup x = some .local := by first | exact .inl rfl | exact .inr rfl | assumption) :
    DG X (.Name x pos) [i] (bN i) := PG.imp (pg_name hN hi hx hf) fun v σ H Q ⟨O0, ow, ρ, d, S, r, ρ', e, k⟩ => by
  cases e
  exact k _ (S.set r) fun vs h => wipe_set (h i (by simp))
theorem dgs_nil : DGs X [] [] bNil := PGs.imp pgs_nil fun v σ H Q ⟨O0, ow, ρ, d, S, r, ρ', e, k⟩ => by
  cases r with
  | nil => cases e; exact ⟨rfl, k _ S fun _ _ => rfl⟩
  | cons _ _ => cases e
theorem dgs_cons {e : Expr} {es : List Expr} {is js : List Nat} {b : D → DEnv → Option DEnv} {bs : List D → DEnv → Option DEnv} (h1 : DG X e is b) (h2 : DGs X es js bs)
    (hs : (assignEach (e :: es) X.env).map (·.2) = assign e X.env :: (assignEach es X.env).map (·.2) := by rfl) : DGs X (e :: es) (is ++ js) (bCons b bs) := PGs.imp (pgs_cons h1 h2 hs) fun v σ H Q ⟨O0, ow, ρ, d, S, r, ρ', e, k⟩ => by
  cases r with
  | nil => cases e
  | @cons v1 vs1 d1 ds1 r rr =>
    have e : (b d1 ρ).bind (bs ds1) = some ρ' := e
    cases eb : b d1 ρ with
    | none => rw [eb] at e; cases e
    | some ρ1 =>
      rw [eb] at e
      exact ⟨_, _, rfl, O0, ow, ρ, d1, S, r, ρ1, eb, fun σ1 S1 w1 => ⟨O0, ow, ρ1, ds1, S1, rr, ρ', e, fun σ2 S2 w2 => k σ2 S2 fun us hu => (w2 us fun i hi => hu i (List.mem_append_right _ hi)).trans (w1 us fun i hi => hu i (List.mem_append_left _ hi))⟩⟩
theorem dg_tup {es : List Expr} {k : Nat} {is : List Nat} {b : List D → DEnv → Option DEnv} (n : Nat) (hc : X.calm = true) (h : DGs X es is b) (hb : ∀ ds ρ ρ', b ds ρ = some ρ' → ds.length = n)
    (hn : (assignEach es X.env).length = n := by rfl) (hst : (assignEach es X.env).findIdx? (·.1) = none := by rfl) : DG X (.Tuple es k pos) is (bT b) := PG.imp (pg_tup hc h hn hst) fun v σ H Q ⟨O0, ow, ρ, d, S, r, ρ', e, q⟩ => by
  unfold bT at e
  cases r with
  | tup s rs => exact ⟨_, _, rfl, Same.sqT hide_le s, (rs.length).trans (hb _ _ _ e), O0, ow, ρ, _, S, rs, ρ', e, q⟩
  | _ => cases e
theorem bNil_len : ∀ ds ρ ρ', bNil ds ρ = some ρ' → ds.length = 0 := fun ds ρ ρ' h => by
  cases ds with
  | nil => rfl
  | cons _ _ => cases h
theorem bCons_len {b : D → DEnv → Option DEnv} {bs : List D → DEnv → Option DEnv} {n : Nat} (h : ∀ ds ρ ρ', bs ds ρ = some ρ' → ds.length = n) : ∀ ds ρ ρ', bCons b bs ds ρ = some ρ' → ds.length = n + 1 := fun ds ρ ρ' e => by
  cases ds with
  | nil => cases e
  | cons d ds =>
    have e : (b d ρ).bind (bs ds) = some ρ' := e
    cases eb : b d ρ with
    | none => rw [eb] at e; cases e
    | some ρ1 => rw [eb] at e; simp [h _ _ _ e]
def gAsg (f : DE1) (b : D → DEnv → Option DEnv) : DS1 := fun ρ => match (f ρ).bind fun d => b d ρ with
  | some ρ' => .nx ρ'
  | none => .stuck
theorem ds_asg {tg : Expr} {is : List Nat} {b : D → DEnv → Option DEnv} (he : DE X e f) (hg : DG X tg is b) (hs : swapsWithSole [tg] e pos.line X.env = pure false := by rfl) (hw : swappedStores [tg] e X.env = pure none := by rfl)
    (h1 : (assignEach [tg] X.env).map (·.2) = [assign tg X.env] := by rfl) : DS X (.Assign [tg] e pos) (gAsg f b) := PS.imp (ps_asg he hg hs hw h1) fun N σ H ⟨H0, O0, ρ, ⟨s, ow, S, h⟩, p⟩ => by
  unfold gAsg at p
  cases e : f ρ with
  | none => rw [e] at p; exact p.elim
  | some d =>
    rw [e] at p
    cases eb : b d ρ with
    | none => simp [eb] at p; exact p.elim
    | some ρ' =>
      simp only [Option.bind_some, eb] at p
      exact ⟨O0, ow, ρ, S, d, e, fun v H' s' r => ⟨O0, ow, ρ, d, S.same s', r, ρ', eb, fun σ' S' _ => p σ' H' ⟨s.trans s', ow, S', h⟩⟩⟩
end
end DL

set_option maxHeartbeats 4000000
namespace DL
open PySem PySem.Spec PyProof.Rows L2
variable [CT]

/-! ### what is walked -/
structure Walks (K : PySem.W.Frag) (O : Addr → Prop) (J : It) (H1 : Hp) (ds : List D) : Prop where
  stop : ∀ H, Same (hide O H1) H → J.stop ds.length H
  go : ∀ i d H, Same (hide O H1) H → ds[i]? = some d → J.go i H
  yld : ∀ i d H x H', Same (hide O H1) H → ds[i]? = some d → J.yld i H x H' → Same H H' ∧ ∀ O' : Addr → Prop, (∀ b, O' b → O b ∨ H1 b = none) → (∀ b, O' b → ∃ o, H b = some o) → Rep K (hide O' H') x d
def tDI (K : PySem.W.Frag) (f : DEnv → Option (List D)) : TI := fun σ H R => ∃ O0 ow ρ, Sl K O0 H σ ρ ow ∧ ∃ ds, f ρ = some ds ∧ ∀ J H1, Same H H1 → Walks K (hid O0 ow) J H1 ds → R J H1
def DI (X : Cx) (tg iter : Expr) (f : DEnv → Option (List D)) : Prop := PI X tg iter (tDI X.K f)
theorem PI.imp {X : Cx} {tg e : Expr} {t t' : TI} (h : PI X tg e t) (k : ∀ σ H Q, t' σ H Q → t σ H Q) : PI X tg e t' := ⟨fun pins s σ H Q I q => h.run pins s σ H Q I (k _ _ _ q)⟩
theorem keepO {O O' : Addr → Prop} {H1 H : Hp} (e : Same (hide O H1) H) (h : ∀ b, O' b → O b ∨ H1 b = none) : Same (hide O H1) (hide O' H) := fun b o q => by
  refine hide_some.mpr ⟨fun z => ?_, e b o q⟩
  rw [hide_some] at q
  rcases h b z with z | z
  · exact q.1 z
  · rw [z] at q; cases q.2
section
variable {X : Cx} {tg e e' : Expr} {f f' : DE1} {p pos tpos : Pos}
def iL (f : DE1) : DEnv → Option (List D) := fun ρ => match f ρ with
  | some (.lst ds) => some ds
  | _ => none
def iT (f : DE1) : DEnv → Option (List D) := fun ρ => match f ρ with
  | some (.tup ds) => some ds
  | _ => none
theorem di_list (h : DE X e f) : DI X tg e (iL f) := PI.imp (pi_list h) fun σ H R ⟨O0, ow, ρ, S, ds, q, k⟩ => by
  unfold iL at q
  split at q
  · rename_i ds' ef
    cases q
    refine ⟨O0, ow, ρ, S, _, ef, fun v H1 s r => ?_⟩
    cases r with
    | lst sq rs =>
      rename_i a vs
      have ln := rs.length
      refine ⟨a, rfl, ⟨vs, SqL.of (hide_le _ _ sq)⟩, k _ H1 s ⟨fun H2 e2 => ⟨vs, SqL.of (e2 _ _ sq), by omega⟩, fun i d H2 e2 hd => ?_, fun i d H2 x H3 e2 hd y => ?_⟩⟩
      · obtain ⟨v, hv, _⟩ := rs.get hd
        exact ⟨vs, v, SqL.of (e2 _ _ sq), hv⟩
      · obtain ⟨v, hv, r⟩ := rs.get hd
        obtain ⟨rfl, y⟩ := y
        have := y vs (SqL.of (e2 _ _ sq))
        rw [hv] at this; cases this
        exact ⟨.refl _, fun O' h1 h2 => r.same (keepO e2 h1)⟩
  · cases q
theorem di_tup (h : DE X e f) : DI X tg e (iT f) := PI.imp (pi_tup h) fun σ H R ⟨O0, ow, ρ, S, ds, q, k⟩ => by
  unfold iT at q
  split at q
  · rename_i ds' ef
    cases q
    refine ⟨O0, ow, ρ, S, _, ef, fun v H1 s r => ?_⟩
    cases r with
    | tup sq rs =>
      rename_i a vs
      have ln := rs.length
      refine ⟨a, rfl, ⟨vs, DL.Same.sqT hide_le sq⟩, k _ H1 s ⟨fun H2 e2 => ⟨vs, DL.Same.sqT e2 sq, by omega⟩, fun i d H2 e2 hd => ?_, fun i d H2 x H3 e2 hd y => ?_⟩⟩
      · obtain ⟨v, hv, _⟩ := rs.get hd
        exact ⟨vs, v, DL.Same.sqT e2 sq, hv⟩
      · obtain ⟨v, hv, r⟩ := rs.get hd
        obtain ⟨rfl, y⟩ := y
        have := y vs (DL.Same.sqT e2 sq)
        rw [hv] at this; cases this
        exact ⟨.refl _, fun O' h1 h2 => r.same (keepO e2 h1)⟩
  · cases q
def rngD (a b : Int) : List D := (List.range (b - a).toNat).map fun i => D.int (a + (i : Nat))
theorem rngD_length (a b : Int) : (rngD a b).length = (b - a).toNat := by simp [rngD]
theorem rngD_get {a b : Int} {i : Nat} {d : D} (h : (rngD a b)[i]? = some d) : d = .int (a + i) ∧ i < (b - a).toNat := by
  unfold rngD at h
  rw [List.getElem?_map] at h
  by_cases hi : i < (b - a).toNat
  · rw [List.getElem?_eq_getElem (by simpa using hi)] at h
    simp at h
    exact ⟨h.symm, hi⟩
  · rw [List.getElem?_eq_none (by simp; omega)] at h; cases h
def rngOk (a b : Int) : Bool := decide (-1000000 ≤ a ∧ a ≤ 1000000 ∧ -1000000 ≤ b ∧ b ≤ 1000000)
def iR1 (f : DE1) : DEnv → Option (List D) := fun ρ => match f ρ with
  | some (.int j) => if rngOk 0 j then some (rngD 0 j) else none
  | _ => none
def iR2 (f g : DE1) : DEnv → Option (List D) := fun ρ => match f ρ, g ρ with
  | some (.int i), some (.int j) => if rngOk i j then some (rngD i j) else none
  | _, _ => none
theorem walks_rng {K : PySem.W.Frag} {O : Addr → Prop} {H1 : Hp} {a b : Int} {n : Nat} (hn : n = (b - a).toNat) : Walks K O (Itr a n) H1 (rngD a b) := by
  subst hn
  refine ⟨fun H2 _ => by rw [rngD_length]; exact Nat.le_refl _, fun i d H2 _ hd => (rngD_get hd).2, fun i d H2 x H3 _ hd y => ?_⟩
  obtain ⟨rfl, rfl⟩ := y
  rw [(rngD_get hd).1]
  exact ⟨.refl _, fun _ _ _ => .int _⟩
theorem di_range1 (hg : Gl X "range") (hm : X.mg "range" = none) (h : DE X e f) (hs : starEach [e] X.env = [(false, eval e X.env)] := by rfl) : DI X tg (.Call (.Name "range" p) [e] [] pos) (iR1 f) :=
  PI.imp (pi_range1 hg hm (pa_cons h pa_nil (hs := hs)) hs) fun σ H R ⟨O0, ow, ρ, S, ds, q, k⟩ => by
  unfold iR1 at q
  split at q
  · rename_i j ef
    split at q
    · rename_i hr
      cases q
      have hb := of_decide_eq_true hr
      refine ⟨O0, ow, ρ, S, _, ef, fun v H1 s r => ?_⟩
      cases r
      exact ⟨j, rfl, by omega, by omega, k _ H1 s (walks_rng (by omega))⟩
    · cases q
  · cases q
theorem di_range2 (hg : Gl X "range") (hm : X.mg "range" = none) (h : DE X e f) (h' : DE X e' f') (hs : starEach [e, e'] X.env = [(false, eval e X.env), (false, eval e' X.env)] := by rfl) (hs2 : starEach [e'] X.env = [(false, eval e' X.env)] := by rfl) :
    DI X tg (.Call (.Name "range" p) [e, e'] [] pos) (iR2 f f') :=
  PI.imp (pi_range2 hg hm (pa_cons h (pa_cons h' pa_nil hs2) (by rw [hs, hs2])) hs hs2) fun σ H R ⟨O0, ow, ρ, S, ds, q, k⟩ => by
  unfold iR2 at q
  split at q
  · rename_i i j ef ef'
    split at q
    · rename_i hr
      cases q
      have hb := of_decide_eq_true hr
      refine ⟨O0, ow, ρ, S, _, ef, fun v H1 s r => ?_⟩
      cases r
      refine ⟨O0, ow, ρ, S.same s, _, ef', fun v H2 s2 r => ?_⟩
      cases r
      exact ⟨i, j, rfl, by omega, k _ H2 (s.trans s2) (walks_rng rfl)⟩
    · cases q
  · cases q
def zipD : List D → List D → List D
  | x :: xs, y :: ys => .tup [x, y] :: zipD xs ys
  | _, _ => []
theorem zipD_length : ∀ xs ys : List D, (zipD xs ys).length = min xs.length ys.length
  | [], _ => by simp [zipD]
  | _ :: _, [] => by simp [zipD]
  | x :: xs, y :: ys => by simp [zipD, zipD_length xs ys]
theorem zipD_get : ∀ {xs ys : List D} {i : Nat} {d : D}, (zipD xs ys)[i]? = some d → ∃ x y, xs[i]? = some x ∧ ys[i]? = some y ∧ d = .tup [x, y]
  | [], ys, i, d, h => by simp [zipD] at h
  | _ :: _, [], i, d, h => by simp [zipD] at h
  | x :: xs, y :: ys, 0, d, h => by simp [zipD] at h; exact ⟨x, y, rfl, rfl, h.symm⟩
  | x :: xs, y :: ys, i + 1, d, h => by
    obtain ⟨a, b, h1, h2, h3⟩ := zipD_get (xs := xs) (ys := ys) (i := i) (by simpa [zipD] using h)
    exact ⟨a, b, by simpa using h1, by simpa using h2, h3⟩
def iZ (f g : DE1) : DEnv → Option (List D) := fun ρ => match f ρ, g ρ with
  | some (.lst xs), some (.lst ys) => some (zipD xs ys)
  | some (.tup xs), some (.tup ys) => some (zipD xs ys)
  | _, _ => none
/-- a new pair of two that stand -/
theorem pair_rep {K : PySem.W.Frag} {O O' : Addr → Prop} {H1 H2 : Hp} {T : Addr} {x y : V} {p q : D} (e2 : Same (hide O H1) H2) (nT : H2 T = none) (h1 : ∀ b, O' b → O b ∨ H1 b = none) (h2 : ∀ b, O' b → ∃ o, H2 b = some o)
    (rx : Rep K (hide O H1) x p) (ry : Rep K (hide O H1) y q) : Rep K (hide O' (upd H2 T (.tup [x, y]))) (.ref T) (.tup [p, q]) := by
  have sm : Same (hide O H1) (hide O' (upd H2 T (.tup [x, y]))) := keepO (e2.trans (same_upd nT)) h1
  have nO : ¬ O' T := fun z => by
    obtain ⟨o, w⟩ := h2 T z
    rw [nT] at w; cases w
  exact .tup (SqT.of (hide_some.mpr ⟨nO, upd_same⟩)) (.cons (rx.same sm) (.cons (ry.same sm) .nil))
theorem di_zip {elts : List Expr} {kk : Nat} (hg : Gl X "zip") (hm : X.mg "zip" = none) (h : DE X e f) (h' : DE X e' f') (hs : starEach [e, e'] X.env = (false, eval e X.env) :: starEach [e'] X.env := by rfl) (hpl : (backTo pos (starEach [e'] X.env)).any (·.1) = false := by rfl) (hs2 : starEach [e'] X.env = (false, eval e' X.env) :: starEach [] X.env := by rfl) :
    DI X (.Tuple elts kk tpos) (.Call (.Name "zip" p) [e, e'] [] pos) (iZ f f') :=
  PI.imp (RZ.pi_zipA hg hm (pa_cons h (pa_cons h' pa_nil hs2) hs) hs hpl) fun σ H R ⟨O0, ow, ρ, S, ds, q, k⟩ => by
  unfold iZ at q
  split at q
  · rename_i xs ys ef ef'
    cases q
    refine ⟨O0, ow, ρ, S, _, ef, fun v H1 s r => ⟨O0, ow, ρ, S.same s, _, ef', fun v' H2 s2 r' => ?_⟩⟩
    replace r := r.same (hide_same s2)
    cases r with
    | lst sq rs =>
      cases r' with
      | lst sq' rs' =>
        rename_i a vs b us
        refine ⟨a, b, vs, us, rfl, .inl ⟨SqL.of (hide_le _ _ sq), SqL.of (hide_le _ _ sq'), k _ H2 (s.trans s2) ⟨fun H3 e2 => ⟨vs, us, SqL.of (e2 _ _ sq), SqL.of (e2 _ _ sq'), ?_⟩, fun i d H3 e2 hd => ?_, fun i d H3 x H4 e2 hd y => ?_⟩⟩⟩
        · have := rs.length; have := rs'.length
          rw [zipD_length]; omega
        · obtain ⟨p, q, hp, hq, rfl⟩ := zipD_get hd
          obtain ⟨v1, hv1, _⟩ := rs.get hp
          obtain ⟨v2, hv2, _⟩ := rs'.get hq
          exact ⟨vs, us, v1, v2, SqL.of (e2 _ _ sq), SqL.of (e2 _ _ sq'), hv1, hv2⟩
        · obtain ⟨p, q, hp, hq, rfl⟩ := zipD_get hd
          obtain ⟨v1, hv1, r1⟩ := rs.get hp
          obtain ⟨v2, hv2, r2⟩ := rs'.get hq
          obtain ⟨T, x1, x2, rfl, nT, rfl, f1, f2⟩ := y
          have e1 := f1 _ (SqL.of (e2 _ _ sq))
          have e3 := f2 _ (SqL.of (e2 _ _ sq'))
          rw [hv1] at e1; cases e1
          rw [hv2] at e3; cases e3
          exact ⟨same_upd nT, fun O' h1 h2 => pair_rep e2 nT h1 h2 r1 r2⟩
  · rename_i xs ys ef ef'
    cases q
    refine ⟨O0, ow, ρ, S, _, ef, fun v H1 s r => ⟨O0, ow, ρ, S.same s, _, ef', fun v' H2 s2 r' => ?_⟩⟩
    replace r := r.same (hide_same s2)
    cases r with
    | tup sq rs =>
      cases r' with
      | tup sq' rs' =>
        rename_i a vs b us
        refine ⟨a, b, vs, us, rfl, .inr ⟨DL.Same.sqT hide_le sq, DL.Same.sqT hide_le sq', k _ H2 (s.trans s2) ⟨fun H3 e2 => ⟨vs, us, DL.Same.sqT e2 sq, DL.Same.sqT e2 sq', ?_⟩, fun i d H3 e2 hd => ?_, fun i d H3 x H4 e2 hd y => ?_⟩⟩⟩
        · have := rs.length; have := rs'.length
          rw [zipD_length]; omega
        · obtain ⟨p, q, hp, hq, rfl⟩ := zipD_get hd
          obtain ⟨v1, hv1, _⟩ := rs.get hp
          obtain ⟨v2, hv2, _⟩ := rs'.get hq
          exact ⟨vs, us, v1, v2, DL.Same.sqT e2 sq, DL.Same.sqT e2 sq', hv1, hv2⟩
        · obtain ⟨p, q, hp, hq, rfl⟩ := zipD_get hd
          obtain ⟨v1, hv1, r1⟩ := rs.get hp
          obtain ⟨v2, hv2, r2⟩ := rs'.get hq
          obtain ⟨T, x1, x2, rfl, nT, rfl, f1, f2⟩ := y
          have e1 := f1 _ (DL.Same.sqT e2 sq)
          have e3 := f2 _ (DL.Same.sqT e2 sq')
          rw [hv1] at e1; cases e1
          rw [hv2] at e3; cases e3
          exact ⟨same_upd nT, fun O' h1 h2 => pair_rep e2 nT h1 h2 r1 r2⟩
  · cases q
end

/-! ### for, while -/
def forL (b : D → DEnv → Option DEnv) (g : DS1) : List D → DEnv → Fl
  | [], ρ => .nx ρ
  | d :: ds, ρ => match b d ρ with
    | none => .stuck
    | some ρ1 => match g ρ1 with
      | .nx ρ2 => forL b g ds ρ2
      | .ct ρ2 => forL b g ds ρ2
      | .bk ρ2 => .nx ρ2
      | x => x
def gFor (it : DEnv → Option (List D)) (b : D → DEnv → Option DEnv) (g : DS1) : DS1 := fun ρ => match it ρ with
  | some ds => forL b g ds ρ
  | none => .stuck
def whL (c : DE1) (g : DS1) : Nat → DEnv → Fl
  | 0, _ => .stuck
  | n + 1, ρ => match c ρ with
    | some (.bl true) => match g ρ with
      | .nx ρ2 => whL c g n ρ2
      | .ct ρ2 => whL c g n ρ2
      | .bk ρ2 => .nx ρ2
      | x => x
    | some (.bl false) => .nx ρ
    | _ => .stuck
def gWh (fu : DEnv → Nat) (c : DE1) (g : DS1) : DS1 := fun ρ => whL c g (fu ρ) ρ
section
variable {X : Cx} {tg iter c : Expr} {body : List Stmt} {it : DEnv → Option (List D)} {b : D → DEnv → Option DEnv} {g : DS1} {fc : DE1} {is : List Nat} {pos : Pos}
theorem Stt.up {K : PySem.W.Frag} {H0 H1 H : Hp} {O0 : Addr → Prop} {σ : L2.St} {ρ : DEnv} (S : Stt K H1 O0 σ H ρ) (e : Same H0 H1) : Stt K H0 O0 σ H ρ := by
  obtain ⟨s, ow, S, h⟩ := S
  exact ⟨e.trans s, ow, S, fun i a q => Same.free e (h i a q)⟩
theorem ds_for (hp : PassesOwn (model X.prog X.w) X.A X.env X.xe) (hc : X.calm = true) (hi : DI X tg iter it) (hg : DG X tg is b) (hb : DSs X body g)
    (hs : ∀ x, foldedSetIterable iter X.env x = pure x := by intro _; rfl) : DS X (.For tg iter body [] pos) (gFor it b g) := PS.imp (ps_for hp hc hi hg hb hs) fun N σ H ⟨H0, O0, ρ, S, p⟩ => by
  unfold gFor at p
  cases ei : it ρ with
  | none => rw [ei] at p; exact p.elim
  | some ds =>
    rw [ei] at p
    obtain ⟨s, ow, S1, h⟩ := S
    refine ⟨O0, ow, ρ, S1, ds, ei, fun J H1 s1 Wk => ?_⟩
    have hH : Same H0 (hide (fun b => ∃ j, ow j = some b) H1) := fun b o q => hide_some.mpr ⟨fun ⟨j, z⟩ => (by rw [h j b z] at q; cases q), s1 _ _ (s _ _ q)⟩
    refine ⟨fun i m σ H => m = ds.length - i ∧ i ≤ ds.length ∧ ∃ ρ, Stt X.K (hide (fun b => ∃ j, ow j = some b) H1) O0 σ H ρ ∧ Post X.K H0 O0 N (forL b g (ds.drop i) ρ), ⟨ds.length, by simp, Nat.zero_le _, ρ, ⟨hide_le, ow, S1.same s1, fun i a q => ?_⟩, p⟩, ?_⟩
    · cases e : hide (fun b => ∃ j, ow j = some b) H1 a with
      | none => rfl
      | some o => exact absurd ⟨i, q⟩ (hide_some.mp e).1
    · rintro i m σ' H' ⟨rfl, hi', ρ', S', p'⟩
      have hsm : Same (hide (hid O0 ow) H1) H' := fun b o q => S'.1 b o (by
        rw [hide_some] at q ⊢
        exact ⟨fun z => q.1 (.inr z), q.2⟩)
      by_cases hlt : i < ds.length
      · obtain ⟨d, hd⟩ : ∃ d, ds[i]? = some d := ⟨_, List.getElem?_eq_getElem hlt⟩
        have hdr : ds.drop i = d :: ds.drop (i + 1) := by
          rw [List.getElem?_eq_getElem hlt] at hd; cases hd
          exact List.drop_eq_getElem_cons hlt
        rw [hdr] at p'
        unfold forL at p'
        refine .inr ⟨Wk.go i d H' hsm hd, fun σ2 H2 => ∃ ρ2, Stt X.K (hide (fun b => ∃ j, ow j = some b) H1) O0 σ2 H2 ρ2 ∧ Post X.K H0 O0 N (forL b g (ds.drop (i + 1)) ρ2), fun σ2 H2 ⟨ρ2, h1, h2⟩ => ⟨_, by omega, rfl, hlt, ρ2, h1, h2⟩, fun x H2 y => ?_⟩
        obtain ⟨s3, rp⟩ := Wk.yld i d H' x H2 hsm hd y
        have S2 := S'.same s3
        obtain ⟨sa, ow2, S3, h3⟩ := id S'
        have r := rp (hid O0 ow2) (fun b z => by
          rcases z with z | ⟨j, z⟩
          · exact .inl (.inl z)
          · have := h3 j b z
            cases e : H1 b with
            | none => exact .inr rfl
            | some o =>
              refine .inl (.inr ?_)
              apply Classical.byContradiction
              intro nj
              rw [hide_some.mpr ⟨nj, e⟩] at this
              cases this) S3.trk
        cases eb : b d ρ' with
        | none => rw [eb] at p'; exact p'.elim
        | some ρ1 =>
          rw [eb] at p'
          dsimp only at p'
          refine ⟨O0, ow2, ρ', d, S3.same s3, r, ρ1, eb, fun σ3 S4 _ => ⟨_, O0, ρ1, ⟨sa.trans s3, ow2, S4, h3⟩, ?_⟩⟩
          cases eg : g ρ1 with
          | nx ρ2 => rw [eg] at p'; exact fun σ4 H4 S5 => ⟨ρ2, S5, p'⟩
          | ct ρ2 => rw [eg] at p'; exact fun σ4 H4 S5 => ⟨ρ2, S5, p'⟩
          | bk ρ2 => rw [eg] at p'; exact fun σ4 H4 S5 => p' σ4 H4 (S5.up hH)
          | rt d => rw [eg] at p'; exact fun v H4 s4 r4 => p' v H4 (hH.trans s4) r4
          | stuck => rw [eg] at p'; exact p'.elim
      · have e : i = ds.length := by omega
        subst e
        rw [List.drop_length] at p'
        exact .inl ⟨Wk.stop H' hsm, p' σ' H' (S'.up hH)⟩
theorem ds_while (fu : DEnv → Nat) (hp : PassesOwn (model X.prog X.w) X.A X.env X.xe) (hc : DT X c fc) (hb : DSs X body g) : DS X (.While c body [] pos) (gWh fu fc g) := PS.imp (ps_while hp hc hb) fun N σ H ⟨H0, O0, ρ, S, p⟩ => by
  refine ⟨fun m σ H => ∃ ρ, Stt X.K H0 O0 σ H ρ ∧ Post X.K H0 O0 N (whL fc g m ρ), ⟨fu ρ, ρ, S, p⟩, ?_⟩
  rintro m σ1 H1 ⟨ρ1, S1, p1⟩
  cases m with
  | zero => exact p1.elim
  | succ m =>
    unfold whL at p1
    obtain ⟨s, ow, S2, h⟩ := id S1
    split at p1
    · rename_i ec
      refine ⟨O0, ow, ρ1, S2, true, ec, fun H2 s2 => iteT ⟨fun σ' H' => ∃ ρ', Stt X.K H0 O0 σ' H' ρ' ∧ Post X.K H0 O0 N (whL fc g m ρ'), fun σ' H' h' => ⟨m, by omega, h'⟩, H0, O0, ρ1, S1.same s2, ?_⟩⟩
      cases eg : g ρ1 with
      | nx ρ2 => rw [eg] at p1; exact fun σ4 H4 S5 => ⟨ρ2, S5, p1⟩
      | ct ρ2 => rw [eg] at p1; exact fun σ4 H4 S5 => ⟨ρ2, S5, p1⟩
      | bk ρ2 => rw [eg] at p1; exact p1
      | rt d => rw [eg] at p1; exact p1
      | stuck => rw [eg] at p1; exact p1.elim
    · rename_i ec
      exact ⟨O0, ow, ρ1, S2, false, ec, fun H2 s2 => iteF (p1 σ1 H2 (S1.same s2))⟩
    · exact p1.elim
end

/-! ### comprehensions -/
def wipeD (ρ : DEnv) : List Nat → DEnv
  | [] => ρ
  | v :: vs => (wipeD ρ vs).set v none
def compL (b : D → DEnv → Option DEnv) (t f : DE1) (ρ : DEnv) : List D → Option (List D)
  | [] => some []
  | d :: ds => match b d ρ with
    | none => none
    | some ρ1 => match t ρ1 with
      | some (.bl true) => match f ρ1 with
        | some x => (compL b t f ρ ds).map (x :: ·)
        | none => none
      | some (.bl false) => compL b t f ρ ds
      | _ => none
def eLc (it : DEnv → Option (List D)) (vs : List Nat) (b : D → DEnv → Option DEnv) (t f : DE1) : DE1 := fun ρ => match it ρ with
  | some ds => if ds.length ≤ 1000 then (compL b t f (wipeD ρ vs) ds).map D.lst else none
  | none => none
def DTs (X : Cx) (ifs : List Expr) (f : DE1) : Prop := PTs X ifs (tDT X.K f)
section
variable {X : Cx} {tg iter elt : Expr} {it : DEnv → Option (List D)} {b : D → DEnv → Option DEnv} {t f : DE1} {is : List Nat} {pos : Pos}
theorem dts_nil : DTs X [] (eC (.bl true)) := ⟨fun pins s σ H Q I h => pts_nil.run pins s σ H Q I (by
  obtain ⟨O0, ow, ρ, S, d, e, k⟩ := h
  cases e
  exact k H (.refl _))⟩
theorem dts_one {c : Expr} (h : DT X c t) : DTs X [c] t := pts_one h
theorem Sl.wipe {K : PySem.W.Frag} {O0 : Addr → Prop} {H : Hp} {σ : L2.St} {ρ : DEnv} {ow : Nat → Option Addr} (S : Sl K O0 H σ ρ ow) : ∀ vs : List Nat, Sl K O0 H (L2.wipe σ vs) (wipeD ρ vs) ow
  | [] => S
  | v :: vs => (Sl.wipe S vs).forget
theorem wipe_wipe {σ : L2.St} {vs : List Nat} : ∀ {us : List Nat}, (∀ i ∈ us, i ∈ vs) → L2.wipe (L2.wipe σ us) vs = L2.wipe σ vs
  | [], _ => rfl
  | u :: us, h => by
    show L2.wipe ((L2.wipe σ us).set u none) vs = L2.wipe σ vs
    rw [wipe_set (h u List.mem_cons_self)]
    exact wipe_wipe fun i hi => h i (List.mem_cons_of_mem _ hi)
/-- one more place is hidden, a new one -/
theorem Sl.more {K : PySem.W.Frag} {O0 : Addr → Prop} {H H' : Hp} {σ : L2.St} {ρ : DEnv} {ow : Nat → Option Addr} {a : Addr} (S : Sl K O0 H σ ρ ow) (e : Same H H') (n : H a = none) (h : ∃ o, H' a = some o) : Sl K (fun b => O0 b ∨ b = a) H' σ ρ ow := by
  have na : ∀ j, ow j ≠ some a := fun j z => by
    obtain ⟨o, w⟩ := S.trk a (.inr ⟨j, z⟩)
    rw [n] at w; cases w
  have sm : Same (hide (hid O0 ow) H) (hide (hid (fun b => O0 b ∨ b = a) ow) H') := fun b o q => by
    rw [hide_some] at q ⊢
    refine ⟨fun z => ?_, e _ _ q.2⟩
    rcases z with (z | z) | z
    · exact q.1 (.inl z)
    · subst z; rw [n] at q; cases q.2
    · exact q.1 (.inr z)
  refine ⟨S.len, S.inj, fun i b hb z => ?_, fun b z => ?_, fun i s hi => ?_⟩
  · rcases z with z | z
    · exact S.out i b hb z
    · subst z; exact na i hb
  · rcases z with (z | z) | z
    · obtain ⟨o, q⟩ := S.trk b (.inl z)
      exact ⟨o, e _ _ q⟩
    · subst z; exact h
    · obtain ⟨o, q⟩ := S.trk b (.inr z)
      exact ⟨o, e _ _ q⟩
  · obtain ⟨o, h1, h2⟩ := S.sl i s hi
    refine ⟨o, h1, ?_⟩
    match s, h2 with
    | none, _ => trivial
    | some (false, d), ⟨v, e1, r⟩ => exact ⟨v, e1, r.same sm⟩
    | some (true, d), ⟨b, e1, e2, t⟩ =>
      obtain ⟨u, q⟩ := t.some
      exact ⟨b, e1, e2, t.same sm (by rw [q, e _ _ q])⟩
theorem tLc_D {K : PySem.W.Frag} {vs : List Nat} (his : ∀ i ∈ is, i ∈ vs) : ∀ σ H Q, tDF K (eLc it vs b t f) σ H Q → tLc (tDI K it) (tDG K is b) (tDT K t) (tDE K f) vs σ H Q := fun σ H Q ⟨O0, ow, ρ, S, d, e, k⟩ => by
  unfold eLc at e
  cases ei : it ρ with
  | none => rw [ei] at e; cases e
  | some ds =>
    rw [ei] at e
    simp only at e
    split at e
    · rename_i hlen
      cases ec : compL b t f (wipeD ρ vs) ds with
      | none => rw [ec] at e; cases e
      | some out =>
        rw [ec] at e
        cases e
        refine ⟨O0, ow, ρ, S, ds, ei, fun J H1 s1 Wk Dd nD => ?_⟩
        have SW := (S.same s1).wipe vs
        refine ⟨fun i m H => m = ds.length - i ∧ i ≤ ds.length ∧ Same H1 H ∧ ∃ accV accD, H Dd = some (.lst accV) ∧ accV.length ≤ i ∧ Reps K (hide (hid (fun b => O0 b ∨ b = Dd) ow) H) accV accD ∧
          ∃ r, compL b t f (wipeD ρ vs) (ds.drop i) = some r ∧ accD ++ r = out, ⟨ds.length, by simp, Nat.zero_le _, same_upd nD, [], [], upd_same, Nat.zero_le _, .nil, out, ec, rfl⟩, ?_⟩
        rintro i m H2 ⟨rfl, hi, sm, accV, accD, hD, hl, ra, r, er, eo⟩
        have hsm : Same (hide (hid O0 ow) H1) H2 := Same.trans hide_le sm
        by_cases hlt : i < ds.length
        · obtain ⟨d, hd⟩ : ∃ d, ds[i]? = some d := ⟨_, List.getElem?_eq_getElem hlt⟩
          have hdr : ds.drop i = d :: ds.drop (i + 1) := by
            rw [List.getElem?_eq_getElem hlt] at hd; cases hd
            exact List.drop_eq_getElem_cons hlt
          rw [hdr] at er
          unfold compL at er
          cases eb : b d (wipeD ρ vs) with
          | none => rw [eb] at er; cases er
          | some ρ1 =>
            rw [eb] at er
            refine .inr ⟨Wk.go i d H2 hsm hd, fun H' => i + 1 ≤ ds.length ∧ Same H1 H' ∧ ∃ accV accD, H' Dd = some (.lst accV) ∧ accV.length ≤ i + 1 ∧ Reps K (hide (hid (fun b => O0 b ∨ b = Dd) ow) H') accV accD ∧
              ∃ r, compL b t f (wipeD ρ vs) (ds.drop (i + 1)) = some r ∧ accD ++ r = out, fun H' h' => ⟨_, by omega, rfl, h'⟩, fun x H3 y => ?_⟩
            obtain ⟨s3, rp⟩ := Wk.yld i d H2 x H3 hsm hd y
            have SM := SW.more sm nD ⟨_, hD⟩
            have rx := rp (hid (fun b => O0 b ∨ b = Dd) ow) (fun b z => by
              rcases z with (z | z) | z
              · exact .inl (.inl z)
              · subst z; exact .inr nD
              · exact .inl (.inr z)) SM.trk
            refine ⟨_, ow, _, d, SM.same s3, rx, ρ1, eb, fun σ2 S2 hw => ⟨(hw vs his).trans (wipe_wipe (fun _ h => h)), ?_⟩⟩
            simp only at er
            split at er
            · rename_i et
              refine ⟨_, ow, ρ1, S2, true, et, fun H4 s4 => iteT ?_⟩
              cases ef : f ρ1 with
              | none => rw [ef] at er; cases er
              | some z =>
                rw [ef] at er
                refine ⟨_, ow, ρ1, S2.same s4, z, ef, fun v H5 s5 rv => ?_⟩
                have s25 : Same H2 H5 := (s3.trans s4).trans s5
                refine ⟨accV, s25 _ _ hD, small1000 (by omega), hlt, fun b o q => ?_, accV ++ [v], accD ++ [z], upd_same, by simp; omega, ?_, ?_⟩
                · rw [upd_ne (ne_of_none q nD)]; exact s25 _ _ (sm _ _ q)
                · have hh : hid (fun b => O0 b ∨ b = Dd) ow Dd := .inl (.inr rfl)
                  exact ((ra.same (hide_same s25)).append (.cons rv .nil)).same (hide_upd hh)
                · cases er2 : compL b t f (wipeD ρ vs) (ds.drop (i + 1)) with
                  | none => rw [er2] at er; cases er
                  | some r2 =>
                    rw [er2] at er
                    cases er
                    exact ⟨r2, rfl, by simpa using eo⟩
            · rename_i et
              refine ⟨_, ow, ρ1, S2, false, et, fun H4 s4 => iteF ?_⟩
              have s25 : Same H2 H4 := s3.trans s4
              exact ⟨hlt, sm.trans s25, accV, accD, s25 _ _ hD, by omega, ra.same (hide_same s25), r, er, eo⟩
            · cases er
        · have e : i = ds.length := by omega
          subst e
          rw [List.drop_length] at er
          cases er
          rw [List.append_nil] at eo
          subst eo
          refine .inl ⟨Wk.stop H2 hsm, k Dd H2 (s1.trans sm) (Same.free s1 nD) (.lst hD (ra.same (hide_sub fun b z => ?_)))⟩
          rcases z with (z | z) | z
          · exact .inl (.inl z)
          · exact .inr z
          · exact .inl (.inr z)
    · cases e
theorem df_lc {scope : Scope} (own : List (Str × Nat)) (hc : X.calm = true) (hN : X.N.Nodup) (hi : DI X tg iter it) {ifs : List Expr} (ok : BlkOk X.N X.env.scope scope own)
    (hg : ∀ (s : Shared) (H : Hp) (C : Addr) (cl : List (Str × Addr)) (fp : List Addr), DG (X.blk s H scope (compEnvC scope cl C X.env) fp) tg is b) (ht : ∀ (s : Shared) (H : Hp) (C : Addr) (cl : List (Str × Addr)) (fp : List Addr), DTs (X.blk s H scope (compEnvC scope cl C X.env) fp) ifs t)
    (he : ∀ (s : Shared) (H : Hp) (C : Addr) (cl : List (Str × Addr)) (fp : List Addr), DE (X.blk s H scope (compEnvC scope cl C X.env) fp) elt f) (his : ∀ i ∈ is, i ∈ own.map (·.2) := by decide) (hs : ∀ x, foldedSetIterable iter X.env x = pure x := by intro _; rfl) :
    DF X (.ListComp elt [⟨tg, iter, ifs, 0⟩] scope pos) (eLc it (own.map (·.2)) b t f) := PE.imp (pe_lc (g := tDG X.K is b) (tt := tDT X.K t) (te := tDE X.K f) hc hN hi ok hg ht he hs) (tLc_D his)
theorem ds_setLc (i : Nat) {y : Str} {py spos : Pos} {scope : Scope} (own : List (Str × Nat)) (hc : X.calm = true) (hN : X.N.Nodup) (hy : X.N[i]? = some y) (hyl : X.env.scope.names.lookup y = some .local) {ifs : List Expr}
    (hsw : swapsWith (.ListComp elt [⟨tg, iter, ifs, 0⟩] scope pos) (some (.Name y py)) spos.line X.env = pure true) (hi : DI X tg iter it) (ok : BlkOk X.N X.env.scope scope own)
    (hg : ∀ (s : Shared) (H : Hp) (C : Addr) (cl : List (Str × Addr)) (fp : List Addr), DG (X.blk s H scope (compEnvC scope cl C X.env) fp) tg is b) (ht : ∀ (s : Shared) (H : Hp) (C : Addr) (cl : List (Str × Addr)) (fp : List Addr), DTs (X.blk s H scope (compEnvC scope cl C X.env) fp) ifs t)
    (he : ∀ (s : Shared) (H : Hp) (C : Addr) (cl : List (Str × Addr)) (fp : List Addr), DE (X.blk s H scope (compEnvC scope cl C X.env) fp) elt f) (his : ∀ i ∈ is, i ∈ own.map (·.2) := by decide) (hs : ∀ x, foldedSetIterable iter X.env x = pure x := by intro _; rfl) :
    DS X (.Assign [.Name y py] (.ListComp elt [⟨tg, iter, ifs, 0⟩] scope pos) spos) (gSetF i (eLc it (own.map (·.2)) b t f)) := PS.imp (ps_setLc (g := tDG X.K is b) (tt := tDT X.K t) (te := tDE X.K f) hc hN hy hyl hsw hi ok hg ht he hs) fun N σ H h => by
  obtain ⟨H0, O0, ρ, S, p⟩ := h
  have := setF_post (K := X.K) (i := i) (f := eLc it (own.map (·.2)) b t f) N σ H ⟨H0, O0, ρ, S, p⟩
  exact tLc_D his σ H _ this
end
end DL

set_option maxHeartbeats 4000000
namespace DL
open PySem PySem.Spec PyProof.Rows L2
variable [CT]

def isNon : D → Bool
  | .non => true
  | _ => false
section
variable {K : PySem.W.Frag} {Hh H : Hp} {v : V}
theorem BV.int {i : Int} (h : BV K Hh H v (.int i)) : v = .int i := by
  rcases h with h | ⟨a, _, t⟩
  · cases h; rfl
  · cases t
theorem BV.bl {b : Bool} (h : BV K Hh H v (.bl b)) : v = .bl b := by
  rcases h with h | ⟨a, _, t⟩
  · cases h; rfl
  · cases t
theorem BV.str {x : Str} (h : BV K Hh H v (.str x)) : v = .str x := by
  rcases h with h | ⟨a, _, t⟩
  · cases h; rfl
  · cases t
theorem BV.non (h : BV K Hh H v .non) : v = .non := by
  rcases h with h | ⟨a, _, t⟩
  · cases h; rfl
  · cases t
theorem BV.lst {ds : List D} (h : BV K Hh H v (.lst ds)) (e : Same Hh H) : ∃ a vs, v = .ref a ∧ H a = some (.lst vs) ∧ Reps K Hh vs ds := by
  rcases h with h | ⟨a, rfl, t⟩
  · cases h with
    | lst s r => exact ⟨_, _, rfl, e _ _ s, r⟩
  · cases t with
    | lst s r => exact ⟨_, _, rfl, s, r⟩
theorem BV.tup {ds : List D} (h : BV K Hh H v (.tup ds)) (e : Same Hh H) : ∃ a vs, v = .ref a ∧ SqT K H a vs ∧ Reps K Hh vs ds := by
  rcases h with h | ⟨a, rfl, t⟩
  · cases h with
    | tup s r => exact ⟨_, _, rfl, DL.Same.sqT e s, r⟩
  · cases t
theorem BV.scr {ns : List Int} (h : BV K Hh H v (.scr ns)) (e : Same Hh H) : ∃ a, v = .ref a ∧ SqL K H a (ns.map V.int) := by
  rcases h with h | ⟨a, rfl, t⟩
  · cases h with
    | scr s => exact ⟨_, rfl, L2.Same.seq e s⟩
  · cases t
theorem BV.ins {C : Nat} {fs : List (Str × D)} (h : BV K Hh H v (.ins C fs)) (e : Same Hh H) : ∃ a dx vs, v = .ref a ∧ H a = some (.ins (CT.ct C) dx vs) ∧ RepF K Hh vs fs := by
  rcases h with h | ⟨a, rfl, t⟩
  · cases h with
    | ins s r => exact ⟨_, _, _, rfl, e _ _ s, r⟩
  · cases t
theorem BV.not_non {d : D} (h : BV K Hh H v d) : (decide (v = .non) = isNon d) := by
  rcases h with h | ⟨a, rfl, t⟩
  · cases h <;> rfl
  · cases t <;> rfl
end

/-! ### operations -/
theorem OpD.or {X : Cx} {f : Value → Value → Sem Value} {g g' : D → D → Option D} (h : OpD X f g) (h' : OpD X f g') : OpD X f (fun x y => (g x y).or (g' x y)) := by
  obtain ⟨r, o, k⟩ := h
  obtain ⟨r', o', k'⟩ := h'
  refine ⟨_, o.or o', fun O H x y p q d Q hx hy e c t => ?_⟩
  replace e : (g p q).or (g' p q) = some d := e
  cases eg : g p q with
  | some z => rw [eg] at e; cases e; exact .inl (k O H x y p q _ Q hx hy eg c t)
  | none => rw [eg] at e; exact .inr (k' O H x y p q d Q hx hy (by simpa using e) c t)
def gI (f : Int → Int → Option D) : D → D → Option D
  | .int i, .int j => f i j
  | _, _ => none
section
variable {X : Cx}
theorem od_int {f : Value → Value → Sem Value} {C : Int → Int → Prop} {g : Int → Int → V} {m : Int → Int → Option D} (o : OpR X f (rI C g)) (h : ∀ i j d, m i j = some d → C i j ∧ ∀ H, Rep X.K H (g i j) d) : OpD X f (gI m) :=
  ⟨_, o, fun O H x y p q d Q hx hy e c _ => by
    unfold gI at e
    split at e
    · rename_i i j
      obtain ⟨h1, h2⟩ := h i j d e
      exact ⟨i, j, hx.int, hy.int, h1, c _ _ (.refl _) (h2 _)⟩
    · cases e⟩
theorem od_int0 {f : Value → Value → Sem Value} {g : Int → Int → V} {m : Int → Int → D} (o : OpR X f (rI0 g)) (h : ∀ i j H, Rep X.K H (g i j) (m i j)) : OpD X f (gI fun i j => some (m i j)) :=
  ⟨_, o, fun O H x y p q d Q hx hy e c _ => by
    unfold gI at e
    split at e
    · rename_i i j
      cases e
      exact ⟨i, j, hx.int, hy.int, c _ _ (.refl _) (h i j _)⟩
    · cases e⟩
def sz (i : Int) : Bool := decide (i.natAbs.log2 < 8000)
def mMul (i j : Int) : Option D := if sz i && sz j then some (.int (i * j)) else none
def mDiv (i j : Int) : Option D := if 0 < j && sz j then some (.int (i / j)) else none
def mMod (i j : Int) : Option D := if 0 < j then some (.int (i % j)) else none
theorem od_sub : OpD X (binaryOp .Sub) (gI fun i j => some (.int (i - j))) := od_int0 op_sub fun i j H => .int _
theorem od_addI : OpD X (binaryOp .Add) (gI fun i j => some (.int (i + j))) := od_int0 op_add fun i j H => .int _
theorem od_mulI : OpD X (binaryOp .Mult) (gI mMul) := od_int op_mulW fun i j d e => by
  unfold mMul at e
  split at e
  · rename_i h
    cases e
    rw [Bool.and_eq_true] at h
    have h1 := of_decide_eq_true h.1
    have h2 := of_decide_eq_true h.2
    exact ⟨(by show _ + _ < _; omega), fun H => .int _⟩
  · cases e
theorem od_div : OpD X (binaryOp .FloorDiv) (gI mDiv) := od_int op_fdivW fun i j d e => by
  unfold mDiv at e
  split at e
  · rename_i h
    cases e
    rw [Bool.and_eq_true] at h
    have h1 := of_decide_eq_true h.1
    have h2 := of_decide_eq_true h.2
    exact ⟨⟨h1, by omega⟩, fun H => .int _⟩
  · cases e
theorem od_mod : OpD X (binaryOp .Mod) (gI mMod) := od_int op_mod fun i j d e => by
  unfold mMod at e
  split at e
  · rename_i h
    cases e
    exact ⟨h, fun H => .int _⟩
  · cases e
theorem od_lt : OpD X (compareOp .Lt) (gI fun i j => some (.bl (decide (i < j)))) := ⟨_, op_lt, fun O H x y p q d Q hx hy e c _ => by
    unfold gI at e
    split at e
    · rename_i i j
      cases e
      exact ⟨i, j, hx.int, hy.int, c _ _ (.refl _) (.bl _)⟩
    · cases e⟩
theorem od_le : OpD X (compareOp .LtE) (gI fun i j => some (.bl (decide (i ≤ j)))) := ⟨_, op_le, fun O H x y p q d Q hx hy e c _ => by
    unfold gI at e
    split at e
    · rename_i i j
      cases e
      exact ⟨i, j, hx.int, hy.int, c _ _ (.refl _) (.bl _)⟩
    · cases e⟩
theorem od_gt : OpD X (compareOp .Gt) (gI fun i j => some (.bl (decide (j < i)))) := ⟨_, op_gt, fun O H x y p q d Q hx hy e c _ => by
    unfold gI at e
    split at e
    · rename_i i j
      cases e
      exact ⟨i, j, hx.int, hy.int, c _ _ (.refl _) (.bl _)⟩
    · cases e⟩
theorem od_ge : OpD X (compareOp .GtE) (gI fun i j => some (.bl (decide (j ≤ i)))) := ⟨_, op_ge, fun O H x y p q d Q hx hy e c _ => by
    unfold gI at e
    split at e
    · rename_i i j
      cases e
      exact ⟨i, j, hx.int, hy.int, c _ _ (.refl _) (.bl _)⟩
    · cases e⟩
/-! is None -/
def gIsN (neg : Bool) : D → D → Option D := fun x y => if isNon y then some (.bl (if neg then !isNon x else isNon x)) else none
theorem od_isN : OpD X (compareOp .Is) (gIsN false) := ⟨_, op_isN, fun O H x y p q d Q hx hy e c _ => by
    unfold gIsN at e
    split at e
    · rename_i h
      cases e
      cases q <;> first | cases h | skip
      refine ⟨hy.non, ?_⟩
      have := hx.not_non
      rw [this]
      exact c _ _ (.refl _) (.bl (isNon p))
    · cases e⟩
theorem od_notN : OpD X (compareOp .IsNot) (gIsN true) := ⟨_, op_notN, fun O H x y p q d Q hx hy e c _ => by
    unfold gIsN at e
    split at e
    · rename_i h
      cases e
      cases q <;> first | cases h | skip
      refine ⟨hy.non, ?_⟩
      have := hx.not_non
      rw [this]
      exact c _ _ (.refl _) (.bl (!isNon p))
    · cases e⟩
/-! == of data -/
end
mutual
def toPy : D → Option PyData
  | .non => some .none
  | .bl b => some (.bool b)
  | .int i => some (.int i)
  | .str x => some (.str x)
  | .tup xs => (toPys xs).map .tuple
  | .lst xs => (toPys xs).map .list
  | .scr ns => some (.list (ns.map .int))
  | .ins _ _ => none
  | .dic _ => none
def toPys : List D → Option (List PyData)
  | [] => some []
  | x :: xs => (toPy x).bind fun a => (toPys xs).map (a :: ·)
end
theorem dp_ints {K : PySem.W.Frag} {H : Hp} : ∀ ns : List Int, DpAll K H (ns.map V.int) (ns.map PyData.int)
  | [] => .nil
  | n :: ns => .cons (.int n) (dp_ints ns)
mutual
theorem Rep.dp {K : PySem.W.Frag} {H : Hp} : ∀ {v : V} {d : D} {p : PyData}, Rep K H v d → toPy d = some p → Dp K H v p
  | _, _, _, .non, e => by cases e; exact .non
  | _, _, _, .bl b, e => by cases e; exact .bl b
  | _, _, _, .int b, e => by cases e; exact .int b
  | _, _, _, .str b, e => by cases e; exact .str b
  | _, _, _, .tup (ds := ds) s r, e => by
    simp only [toPy, Option.map_eq_some_iff] at e
    obtain ⟨ps, e, rfl⟩ := e
    exact .tup s (Reps.dp r e)
  | _, _, _, .lst (ds := ds) s r, e => by
    simp only [toPy, Option.map_eq_some_iff] at e
    obtain ⟨ps, e, rfl⟩ := e
    exact .lst (SqL.of s) (Reps.dp r e)
  | _, _, _, .scr s, e => by cases e; exact .lst s (dp_ints _)
  | _, _, _, .ins s r, e => by simp [toPy] at e
  | _, _, _, .dic s r q, e => by simp [toPy] at e
theorem Reps.dp {K : PySem.W.Frag} {H : Hp} : ∀ {v : List V} {d : List D} {p : List PyData}, Reps K H v d → toPys d = some p → DpAll K H v p
  | _, _, _, .nil, e => by cases e; exact .nil
  | _, _, _, .cons r s, e => by
    simp only [toPys, Option.bind_eq_some_iff, Option.map_eq_some_iff] at e
    obtain ⟨a, e1, as, e2, rfl⟩ := e
    exact .cons (Rep.dp r e1) (Reps.dp s e2)
end
theorem BV.dp {K : PySem.W.Frag} {Hh H : Hp} {v : V} {d : D} {p : PyData} (h : BV K Hh H v d) (s : Same Hh H) (e : toPy d = some p) : Dp K H v p := by
  rcases h with h | ⟨a, rfl, t⟩
  · exact (h.same s).dp e
  · exact (t.rep s fun o q => q).dp e
def eqD (neg : Bool) (x y : D) : Option D := (toPy x).bind fun a => (toPy y).bind fun b => if SeqAt.shaped a && SeqAt.shaped b then some (.bl (if neg then !PyData.eqv a b else PyData.eqv a b)) else none
section
variable {X : Cx}
theorem od_eq (hu : X.A.units + 64 < cLine) : OpD X (compareOp .Eq) (eqD false) := ⟨_, op_eqD hu, fun O H x y p q d Q hx hy e c _ => by
  unfold eqD at e
  simp only [Option.bind_eq_some_iff] at e
  obtain ⟨a, ea, b, eb, e⟩ := e
  split at e
  · rename_i h
    cases e
    rw [Bool.and_eq_true] at h
    exact ⟨a, b, hx.dp hide_le ea, hy.dp hide_le eb, h.1, h.2, c _ _ (.refl _) (.bl _)⟩
  · cases e⟩
theorem od_ne (hu : X.A.units + 64 < cLine) : OpD X (compareOp .NotEq) (eqD true) := ⟨_, op_neD hu, fun O H x y p q d Q hx hy e c _ => by
  unfold eqD at e
  simp only [Option.bind_eq_some_iff] at e
  obtain ⟨a, ea, b, eb, e⟩ := e
  split at e
  · rename_i h
    cases e
    rw [Bool.and_eq_true] at h
    exact ⟨a, b, hx.dp hide_le ea, hy.dp hide_le eb, h.1, h.2, c _ _ (.refl _) (.bl _)⟩
  · cases e⟩
/-! lists and tuples together -/
def gCat : D → D → Option D
  | .lst xs, .lst ys => if xs.length + ys.length ≤ 1000 then some (.lst (xs ++ ys)) else none
  | _, _ => none
theorem new_rep {K : PySem.W.Frag} {O : Addr → Prop} {H : Hp} {p : Addr} (t : ∀ a, O a → ∃ o, H a = some o) (n : H p = none) : ¬ O p := fun z => by
  obtain ⟨o, w⟩ := t p z
  rw [n] at w; cases w
theorem small1000' {n : Nat} (h : n ≤ 1000) : n ≤ sizeLine := Nat.le_of_lt (small1000 h)
theorem od_cat : OpD X (binaryOp .Add) gCat := ⟨_, op_cat, fun O H x y p q d Q hx hy e c t => by
  unfold gCat at e
  split at e
  · rename_i xs ys
    split at e
    · rename_i h
      cases e
      obtain ⟨a, vs, rfl, ha, ra⟩ := hx.lst hide_le
      obtain ⟨b, us, rfl, hb, rb⟩ := hy.lst hide_le
      refine ⟨a, b, vs, us, rfl, rfl, ha, hb, small1000' (by rw [ra.length, rb.length]; exact h), fun l nl => c _ _ (same_upd nl) ?_⟩
      have nO := new_rep (K := X.K) t nl
      exact .lst (hide_some.mpr ⟨nO, upd_same⟩) ((ra.append rb).same (hide_same (same_upd nl)))
    · cases e
  · cases e⟩
def gCatT : D → D → Option D
  | .tup (x :: xs), .tup ys => if xs.length + ys.length ≤ 900 then some (.tup (x :: xs ++ ys)) else none
  | _, _ => none
theorem od_catT : OpD X (binaryOp .Add) gCatT := ⟨_, op_catT, fun O H x y p q d Q hx hy e c t => by
  unfold gCatT at e
  split at e
  · rename_i x xs ys
    split at e
    · rename_i h
      cases e
      obtain ⟨a, vs, rfl, ha, ra⟩ := hx.tup hide_le
      obtain ⟨b, us, rfl, hb, rb⟩ := hy.tup hide_le
      have h1 := ra.length
      have h2 := rb.length
      simp only [List.length_cons] at h1
      refine ⟨a, b, vs, us, rfl, rfl, ha, hb, fun z => by subst z; simp at h1, small1000' (by omega), fun z => ?_, fun z l nl => c _ _ (same_upd nl) ?_⟩
      · subst z
        cases rb
        rw [List.append_nil] at c
        refine c _ _ (.refl _) ?_
        rcases hx with hx | ⟨_, _, hx⟩
        · exact hx
        · cases hx
      · have nO := new_rep (K := X.K) t nl
        exact .tup (SqT.of (hide_some.mpr ⟨nO, upd_same⟩)) ((ra.append rb).same (hide_same (same_upd nl)))
    · cases e
  · cases e⟩
end
end DL

set_option maxHeartbeats 4000000
namespace DL
open PySem PySem.Spec PyProof.Rows L2
variable [CT]

section
variable {X : Cx} {e a b c : Expr} {es : List Expr} {f g fa fb fc ft : DE1} {fs : DEnv → Option (List D)} {pos p : Pos}
/-! ### lists of expressions, displays -/
def aNil : DEnv → Option (List D) := fun _ => some []
def aCons (f : DE1) (fs : DEnv → Option (List D)) : DEnv → Option (List D) := fun ρ => (f ρ).bind fun x => (fs ρ).map (x :: ·)
theorem aCons_some {ρ : DEnv} {ds : List D} (h : aCons f fs ρ = some ds) : ∃ x xs, f ρ = some x ∧ fs ρ = some xs ∧ ds = x :: xs := by
  unfold aCons at h
  simp only [Option.bind_eq_some_iff, Option.map_eq_some_iff] at h
  obtain ⟨x, h1, xs, h2, rfl⟩ := h
  exact ⟨x, xs, h1, h2, rfl⟩
theorem da_nil : DA X [] aNil := PA.imp pa_nil fun σ H Q ⟨O0, ow, ρ, S, d, e, k⟩ => by cases e; exact k _ _ (.refl _) .nil
theorem da_cons (h : DE X e f) (hr : DA X es fs) (hs : starEach (e :: es) X.env = (false, eval e X.env) :: starEach es X.env := by rfl) : DA X (e :: es) (aCons f fs) := PA.imp (pa_cons h hr hs) fun σ H Q ⟨O0, ow, ρ, S, d, e, k⟩ => by
  obtain ⟨x, xs, e1, e2, rfl⟩ := aCons_some e
  exact ⟨O0, ow, ρ, S, x, e1, fun v H1 s1 r1 => ⟨O0, ow, ρ, S.same s1, xs, e2, fun vs H2 s2 r2 => k _ H2 (s1.trans s2) (.cons (r1.same (hide_same s2)) r2)⟩⟩
theorem dab_nil : DAB X [] aNil := PA.imp pa_nil fun σ H Q ⟨O0, ow, ρ, S, d, e, k⟩ => by cases e; exact k _ _ (.refl _) .nil
theorem dab_cons (h : DB X e f) (hr : DAB X es fs) (hs : starEach (e :: es) X.env = (false, eval e X.env) :: starEach es X.env := by rfl) : DAB X (e :: es) (aCons f fs) := PA.imp (pa_cons h hr hs) fun σ H Q ⟨O0, ow, ρ, S, d, e, k⟩ => by
  obtain ⟨x, xs, e1, e2, rfl⟩ := aCons_some e
  exact ⟨O0, ow, ρ, S, x, e1, fun v H1 s1 r1 => ⟨O0, ow, ρ, S.same s1, xs, e2, fun vs H2 s2 r2 => k _ H2 (s1.trans s2) (.cons (r1.same (hide_same s2) s2) r2)⟩⟩
def eTup (fs : DEnv → Option (List D)) : DE1 := fun ρ => (fs ρ).bind fun ds => if ds.length ≤ 1000 then some (.tup ds) else none
def eLst (fs : DEnv → Option (List D)) : DE1 := fun ρ => (fs ρ).bind fun ds => if ds.length ≤ 1000 then some (.lst ds) else none
theorem de_tup {x1} (h : DA X es fs) : DE X (.Tuple es x1 pos) (eTup fs) := PE.imp (pe_tup h) fun σ H Q ⟨O0, ow, ρ, S, d, e, k⟩ => by
  unfold eTup at e
  simp only [Option.bind_eq_some_iff] at e
  obtain ⟨ds, e1, e⟩ := e
  split at e
  · rename_i hl
    cases e
    refine ⟨O0, ow, ρ, S, ds, e1, fun vs H1 s1 r1 => ⟨small1000' (by rw [r1.length]; exact hl), fun p np => k _ _ (s1.trans (same_upd np)) ?_⟩⟩
    exact .tup (SqT.of (hide_some.mpr ⟨new_rep (K := X.K) (S.same s1).trk np, upd_same⟩)) (r1.same (hide_same (same_upd np)))
  · cases e
theorem df_lst (h : DA X es fs) : DF X (.List es pos) (eLst fs) := PE.imp (pe_lst h) fun σ H Q ⟨O0, ow, ρ, S, d, e, k⟩ => by
  unfold eLst at e
  simp only [Option.bind_eq_some_iff] at e
  obtain ⟨ds, e1, e⟩ := e
  split at e
  · rename_i hl
    cases e
    refine ⟨O0, ow, ρ, S, ds, e1, fun vs H1 s1 r1 => ⟨small1000' (by rw [r1.length]; exact hl), fun p np => k _ _ (s1.trans (same_upd np)) (Same.free s1 np) (.lst upd_same (r1.same fun b o q => ?_))⟩⟩
    rw [hide_some] at q ⊢
    exact ⟨fun z => z.elim q.1 fun z => (by subst z; rw [np] at q; cases q.2), same_upd np _ _ q.2⟩
  · cases e
/-- an operation that lays a new list -/
def OpF (X : Cx) (f : Value → Value → Sem Value) (g : D → D → Option D) : Prop := ∃ r : R2, OpR X f r ∧ ∀ (O : Addr → Prop) (H : Hp) (x y : V) (p q d : D) (Q : VK), BV X.K (hide O H) H x p → BV X.K (hide O H) H y q → g p q = some d →
  (∀ a H', Same H H' → H a = none → TopR X.K (hide (fun b => O b ∨ b = a) H') H' a d → Q (.ref a) H') → (∀ a, O a → ∃ o, H a = some o) → r x y H Q
theorem fresh_reps {K : PySem.W.Frag} {O : Addr → Prop} {H : Hp} {a : Addr} {o : HO} {vs : List V} {ds : List D} (n : H a = none) (r : Reps K (hide O H) vs ds) : Reps K (hide (fun b => O b ∨ b = a) (upd H a o)) vs ds := r.same fun b u q => by
  rw [hide_some] at q ⊢
  exact ⟨fun z => z.elim q.1 fun z => (by subst z; rw [n] at q; cases q.2), same_upd n _ _ q.2⟩
theorem of_cat : OpF X (binaryOp .Add) gCat := ⟨_, op_cat, fun O H x y p q d Q hx hy e c t => by
  unfold gCat at e
  split at e
  · rename_i xs ys
    split at e
    · rename_i h
      cases e
      obtain ⟨a, vs, rfl, ha, ra⟩ := hx.lst hide_le
      obtain ⟨b, us, rfl, hb, rb⟩ := hy.lst hide_le
      exact ⟨a, b, vs, us, rfl, rfl, ha, hb, small1000' (by rw [ra.length, rb.length]; exact h), fun l nl => c _ _ (same_upd nl) nl (.lst upd_same (fresh_reps nl (ra.append rb)))⟩
    · cases e
  · cases e⟩
def gRep : D → D → Option D
  | .lst xs, .int k => if decide (-1000 ≤ k ∧ k ≤ 1000) && decide (xs.length ≤ 1000) then some (.lst (List.replicate k.toNat xs).flatten) else none
  | _, _ => none
theorem of_rep : OpF X (binaryOp .Mult) gRep := ⟨_, op_rep, fun O H x y p q d Q hx hy e c t => by
  unfold gRep at e
  split at e
  · rename_i xs k
    split at e
    · rename_i h
      cases e
      rw [Bool.and_eq_true] at h
      have h1 := of_decide_eq_true h.1
      have h2 := of_decide_eq_true h.2
      obtain ⟨a, vs, rfl, ha, ra⟩ := hx.lst hide_le
      have hl := ra.length
      refine ⟨a, k, vs, rfl, hy.int, ha, by omega, by omega, ?_, fun l nl => c _ _ (same_upd nl) nl (.lst upd_same (fresh_reps nl (ra.rep _)))⟩
      have : vs.length * k.toNat ≤ 1000 * 1000 := Nat.mul_le_mul (by omega) (by omega)
      exact Nat.le_trans this (by decide)
    · cases e
  · cases e⟩
def gRepT : D → D → Option D
  | .tup (x :: xs), .int k => if decide (2 ≤ k ∧ k ≤ 1000) && decide (xs.length ≤ 900) then some (.tup (List.replicate k.toNat (x :: xs)).flatten) else none
  | _, _ => none
theorem od_repT : OpD X (binaryOp .Mult) gRepT := ⟨_, op_repT, fun O H x y p q d Q hx hy e c t => by
  unfold gRepT at e
  split at e
  · rename_i x xs k
    split at e
    · rename_i h
      cases e
      rw [Bool.and_eq_true] at h
      have h1 := of_decide_eq_true h.1
      have h2 := of_decide_eq_true h.2
      obtain ⟨a, vs, rfl, ha, ra⟩ := hx.tup hide_le
      have hl := ra.length
      simp only [List.length_cons] at hl
      refine ⟨a, k, vs, rfl, hy.int, ha, fun z => by subst z; simp at hl, h1.1, h1.2, by omega, fun l nl => c _ _ (same_upd nl) ?_⟩
      exact .tup (SqT.of (hide_some.mpr ⟨new_rep (K := X.K) t nl, upd_same⟩)) ((ra.rep _).same (hide_same (same_upd nl)))
    · cases e
  · cases e⟩
theorem df_op {op : Operator} {g : D → D → Option D} (ho : OpF X (binaryOp op) g) (ha : DB X a fa) (hb : DB X b fb) : DF X (.BinOp a op b pos) (e2 g fa fb) := by
  obtain ⟨r, o, h⟩ := ho
  refine PE.imp (pe_op o ha hb) fun σ H Q ⟨O0, ow, ρ, S, d, e, k⟩ => ?_
  obtain ⟨p, q, ea, eb, eg⟩ := e2_some e
  refine ⟨O0, ow, ρ, S, p, ea, fun x H1 s1 r1 => ⟨O0, ow, ρ, S.same s1, q, eb, fun y H2 s2 r2 => ?_⟩⟩
  exact h _ H2 x y p q d Q (r1.same (hide_same s2) s2) r2 eg (fun l H' s n t => k l H' ((s1.trans s2).trans s) (Same.free (s1.trans s2) n) t) ((S.same s1).same s2).trk
/-- minus -/
def eNeg (f : DE1) : DE1 := fun ρ => match f ρ with
  | some (.int i) => some (.int (-i))
  | _ => none
theorem de_neg (h : DB X e f) : DE X (.UnaryOp .USub e pos) (eNeg f) := PE.imp (pe_un un_neg h) fun σ H Q ⟨O0, ow, ρ, S, d, e, k⟩ => by
  unfold eNeg at e
  split at e
  · rename_i i ef
    cases e
    exact ⟨O0, ow, ρ, S, _, ef, fun v H1 s r => ⟨i, r.int, k _ H1 s (.int _)⟩⟩
  · cases e
/-! ### and, or, not, if else, chains -/
def eAnd (fa fb : DE1) : DE1 := fun ρ => match fa ρ with
  | some (.bl true) => fb ρ
  | some (.bl false) => some (.bl false)
  | _ => none
def eOr (fa fb : DE1) : DE1 := fun ρ => match fa ρ with
  | some (.bl true) => some (.bl true)
  | some (.bl false) => fb ρ
  | _ => none
def eNot (f : DE1) : DE1 := fun ρ => match f ρ with
  | some (.bl b) => some (.bl (!b))
  | _ => none
def eIf (c f g : DE1) : DE1 := fun ρ => match c ρ with
  | some (.bl true) => f ρ
  | some (.bl false) => g ρ
  | _ => none
theorem de_and1 {op} (h : DE X a f) : DE X (.BoolOp op [a] pos) f := pe_one h
theorem de_and {rest : List Expr} (ha : DE X a fa) (hb : DE X (.BoolOp .And (b :: rest) pos) fb) : DE X (.BoolOp .And (a :: b :: rest) pos) (eAnd fa fb) := PE.imp (pe_and ha hb) fun σ H Q ⟨O0, ow, ρ, S, d, e, k⟩ => by
  unfold eAnd at e
  split at e
  · rename_i ef
    exact ⟨O0, ow, ρ, S, _, ef, fun v H1 s r => by cases r; exact ⟨true, rfl, iteT ⟨O0, ow, ρ, S.same s, d, e, fun v H2 s2 r => k v H2 (s.trans s2) r⟩⟩⟩
  · rename_i ef
    cases e
    exact ⟨O0, ow, ρ, S, _, ef, fun v H1 s r => by cases r; exact ⟨false, rfl, iteF (k _ _ s (.bl _))⟩⟩
  · cases e
theorem de_or {rest : List Expr} (ha : DE X a fa) (hb : DE X (.BoolOp .Or (b :: rest) pos) fb) : DE X (.BoolOp .Or (a :: b :: rest) pos) (eOr fa fb) := PE.imp (pe_or ha hb) fun σ H Q ⟨O0, ow, ρ, S, d, e, k⟩ => by
  unfold eOr at e
  split at e
  · rename_i ef
    cases e
    exact ⟨O0, ow, ρ, S, _, ef, fun v H1 s r => by cases r; exact ⟨true, rfl, iteT (k _ _ s (.bl _))⟩⟩
  · rename_i ef
    exact ⟨O0, ow, ρ, S, _, ef, fun v H1 s r => by cases r; exact ⟨false, rfl, iteF ⟨O0, ow, ρ, S.same s, d, e, fun v H2 s2 r => k v H2 (s.trans s2) r⟩⟩⟩
  · cases e
theorem de_not (h : DE X a f) : DE X (.UnaryOp .Not a pos) (eNot f) := PE.imp (pe_not h) fun σ H Q ⟨O0, ow, ρ, S, d, e, k⟩ => by
  unfold eNot at e
  split at e
  · rename_i b ef
    cases e
    exact ⟨O0, ow, ρ, S, _, ef, fun v H1 s r => by cases r; exact ⟨b, rfl, k _ _ s (.bl _)⟩⟩
  · cases e
/-- tests -/
def DW (X : Cx) (e : Expr) (f : DE1) : Prop := PW X e (tDT X.K f)
theorem PW.imp {t t' : TT} (h : PW X e t) (k : ∀ σ H Q, t' σ H Q → t σ H Q) : PW X e t' := ⟨fun wh pins s σ H Q I q => h.run wh pins s σ H Q I (k _ _ _ q)⟩
theorem dt_w (h : DW X e f) : DT X e f := PW.pt h
theorem dw_and1 (h : DT X a f) : DW X (.BoolOp .And [a] pos) f := pw_and1 h
theorem dw_or1 (h : DT X a f) : DW X (.BoolOp .Or [a] pos) f := pw_or1 h
theorem dw_and {rest : List Expr} (ha : DT X a fa) (hb : DW X (.BoolOp .And (b :: rest) pos) fb) : DW X (.BoolOp .And (a :: b :: rest) pos) (eAnd fa fb) := PW.imp (pw_and ha hb) fun σ H Q ⟨O0, ow, ρ, S, d, e, k⟩ => by
  unfold eAnd at e
  split at e
  · rename_i ef
    exact ⟨O0, ow, ρ, S, _, ef, fun H1 s => iteT ⟨O0, ow, ρ, S.same s, d, e, fun H2 s2 => k H2 (s.trans s2)⟩⟩
  · rename_i ef
    cases e
    exact ⟨O0, ow, ρ, S, _, ef, fun H1 s => iteF (k _ s)⟩
  · cases e
theorem dw_or {rest : List Expr} (ha : DT X a fa) (hb : DW X (.BoolOp .Or (b :: rest) pos) fb) : DW X (.BoolOp .Or (a :: b :: rest) pos) (eOr fa fb) := PW.imp (pw_or ha hb) fun σ H Q ⟨O0, ow, ρ, S, d, e, k⟩ => by
  unfold eOr at e
  split at e
  · rename_i ef
    cases e
    exact ⟨O0, ow, ρ, S, _, ef, fun H1 s => iteT (k _ s)⟩
  · rename_i ef
    exact ⟨O0, ow, ρ, S, _, ef, fun H1 s => iteF ⟨O0, ow, ρ, S.same s, d, e, fun H2 s2 => k H2 (s.trans s2)⟩⟩
  · cases e
theorem dt_not (h : DT X a f) : DT X (.UnaryOp .Not a pos) (eNot f) := PT.imp (pt_not h) fun σ H Q ⟨O0, ow, ρ, S, d, e, k⟩ => by
  unfold eNot at e
  split at e
  · rename_i b ef
    cases e
    exact ⟨O0, ow, ρ, S, _, ef, fun H1 s => k _ s⟩
  · cases e
theorem de_if (hc : DT X c fc) (ha : DE X a fa) (hb : DE X b fb) : DE X (.IfExp c a b pos) (eIf fc fa fb) := PE.imp (pe_ifExp hc ha hb) fun σ H Q ⟨O0, ow, ρ, S, d, e, k⟩ => by
  unfold eIf at e
  split at e
  · rename_i ef
    exact ⟨O0, ow, ρ, S, _, ef, fun H1 s => iteT ⟨O0, ow, ρ, S.same s, d, e, fun v H2 s2 r => k v H2 (s.trans s2) r⟩⟩
  · rename_i ef
    exact ⟨O0, ow, ρ, S, _, ef, fun H1 s => iteF ⟨O0, ow, ρ, S.same s, d, e, fun v H2 s2 r => k v H2 (s.trans s2) r⟩⟩
  · cases e
def eCh (g g' : D → D → Option D) (fa fb fc : DE1) : DE1 := fun ρ => (fa ρ).bind fun x => (fb ρ).bind fun y => match g x y with
  | some (.bl true) => (fc ρ).bind fun z => g' y z
  | some (.bl false) => some (.bl false)
  | _ => none
theorem tChain_D {op op' : CmpOp} {g g' : D → D → Option D} (ho : OpD X (compareOp op) g) (ho' : OpD X (compareOp op') g') (ha : DB X a fa) (hb : DB X b fb) (hc : DB X c fc) : ∃ r r', OpR X (compareOp op) r ∧ OpR X (compareOp op') r' ∧
    ∀ σ H Q, tDE X.K (eCh g g' fa fb fc) σ H Q → tChain r r' (tDB X.K fa) (tDB X.K fb) (tDB X.K fc) σ H Q := by
  obtain ⟨r, o, h⟩ := ho
  obtain ⟨r', o', h'⟩ := ho'
  refine ⟨r, r', o, o', fun σ H Q ⟨O0, ow, ρ, S, d, e, k⟩ => ?_⟩
  unfold eCh at e
  simp only [Option.bind_eq_some_iff] at e
  obtain ⟨x, ex, y, ey, e⟩ := e
  refine ⟨O0, ow, ρ, S, x, ex, fun vx H1 s1 r1 => ⟨O0, ow, ρ, S.same s1, y, ey, fun vy H2 s2 r2 => ?_⟩⟩
  split at e
  · rename_i eg
    simp only [Option.bind_eq_some_iff] at e
    obtain ⟨z, ez, e⟩ := e
    refine h _ H2 vx vy x y _ _ (r1.same (hide_same s2) s2) r2 eg (fun v H3 s3 rv => ?_) ((S.same s1).same s2).trk
    cases rv
    refine ⟨true, rfl, iteT ⟨O0, ow, ρ, ((S.same s1).same s2).same s3, z, ez, fun vz H4 s4 r4 => ?_⟩⟩
    exact h' _ H4 vy vz y z d Q (r2.same (hide_same (s3.trans s4)) (s3.trans s4)) r4 e (fun v H5 s5 rv => k v H5 (((s1.trans s2).trans (s3.trans s4)).trans s5) rv) ((((S.same s1).same s2).same s3).same s4).trk
  · rename_i eg
    cases e
    refine h _ H2 vx vy x y _ _ (r1.same (hide_same s2) s2) r2 eg (fun v H3 s3 rv => ?_) ((S.same s1).same s2).trk
    cases rv
    exact ⟨false, rfl, iteF (k _ _ ((s1.trans s2).trans s3) (.bl _))⟩
  · cases e
theorem de_chain {op op' : CmpOp} {g g' : D → D → Option D} (ho : OpD X (compareOp op) g) (ho' : OpD X (compareOp op') g') (ha : DB X a fa) (hb : DB X b fb) (hc : DB X c fc)
    (hm : lastMarks [op, op'] [b, c] = false := by with_unfolding_all rfl) : DE X (.Compare a [op, op'] [b, c] pos) (eCh g g' fa fb fc) := by
  obtain ⟨r, r', o, o', h⟩ := tChain_D ho ho' ha hb hc
  exact PE.imp (pe_chain o o' ha hb hc hm) h
theorem dt_chain {op op' : CmpOp} {g g' : D → D → Option D} (ho : OpD X (compareOp op) g) (ho' : OpD X (compareOp op') g') (ha : DB X a fa) (hb : DB X b fb) (hc : DB X c fc)
    (hm : lastMarks [op, op'] [b, c] = false := by with_unfolding_all rfl) : DT X (.Compare a [op, op'] [b, c] pos) (eCh g g' fa fb fc) := by
  obtain ⟨r, r', o, o', h⟩ := tChain_D ho ho' ha hb hc
  refine PT.imp (pt_chain o o' ha hb hc hm) fun σ H Q ⟨O0, ow, ρ, S, b, e, k⟩ => h σ H _ ⟨O0, ow, ρ, S, _, e, fun v H' s r => by cases r; exact ⟨b, rfl, k H' s⟩⟩

/-! ### items, slices -/
def ixD (xs : List D) (i : Int) : Option D := atI xs i
def gIx : D → D → Option D
  | .lst xs, .int i => atI xs i
  | .tup xs, .int i => atI xs i
  | .scr ns, .int i => (atI ns i).map .int
  | _, _ => none
theorem atI_reps {K : PySem.W.Frag} {H : Hp} {vs : List V} {ds : List D} {i : Int} {d : D} (r : Reps K H vs ds) (h : atI ds i = some d) : ∃ v, atI vs i = some v ∧ Rep K H v d := by
  unfold atI at h ⊢
  rw [r.length]
  cases e : ixN ds.length i with
  | none => rw [e] at h; cases h
  | some j =>
    rw [e] at h
    exact r.get h
theorem atI_map {ns : List Int} {i n : Int} (h : atI ns i = some n) : atI (ns.map V.int) i = some (.int n) := by
  unfold atI at h ⊢
  rw [List.length_map]
  cases e : ixN ns.length i with
  | none => rw [e] at h; cases h
  | some j =>
    rw [e] at h
    show (ns.map V.int)[j]? = _
    rw [List.getElem?_map, show ns[j]? = some n from h]
    rfl
theorem de_ix (ha : DB X a fa) (hb : DB X b fb) (hs : PlainIx b := by exact fun _ _ => rfl) : DE X (.Subscript a b pos) (e2 gIx fa fb) := PE.imp (pe_ix (ix_list.or ix_tup) ha hb hs) fun σ H Q ⟨O0, ow, ρ, S, d, e, k⟩ => by
  obtain ⟨p, q, ea, eb, eg⟩ := e2_some e
  refine ⟨O0, ow, ρ, S, p, ea, fun x H1 s1 r1 => ⟨O0, ow, ρ, S.same s1, q, eb, fun y H2 s2 r2 => ?_⟩⟩
  replace r1 := r1.same (hide_same s2) s2
  unfold gIx at eg
  split at eg
  · obtain ⟨l, vs, rfl, hl, rs⟩ := r1.lst hide_le
    obtain ⟨v, hv, rv⟩ := atI_reps rs eg
    exact .inl ⟨l, vs, _, v, rfl, r2.int, SqL.of hl, hv, k v H2 (s1.trans s2) rv⟩
  · obtain ⟨l, vs, rfl, hl, rs⟩ := r1.tup hide_le
    obtain ⟨v, hv, rv⟩ := atI_reps rs eg
    exact .inr ⟨l, vs, _, v, rfl, r2.int, hl, hv, k v H2 (s1.trans s2) rv⟩
  · rename_i ns i
    rw [Option.map_eq_some_iff] at eg
    obtain ⟨n, en, rfl⟩ := eg
    obtain ⟨l, rfl, hl⟩ := r1.scr hide_le
    exact .inl ⟨l, _, i, .int n, rfl, r2.int, hl, atI_map en, k _ H2 (s1.trans s2) (.int n)⟩
  · cases eg
/-- bounds of a slice -/
def tDO (K : PySem.W.Frag) (f : DEnv → Option (Option Int)) : TO := fun σ H Q => ∃ O0 ow ρ, Sl K O0 H σ ρ ow ∧ ∃ o, f ρ = some o ∧ ∀ H', Same H H' → Q o H'
def DO (X : Cx) (e : Option Expr) (f : DEnv → Option (Option Int)) : Prop := PO X e (tDO X.K f)
def oNone : DEnv → Option (Option Int) := fun _ => some none
def oSome (f : DE1) : DEnv → Option (Option Int) := fun ρ => match f ρ with
  | some (.int i) => some (some i)
  | _ => none
theorem PO.imp {e : Option Expr} {t t' : TO} (h : PO X e t) (k : ∀ σ H Q, t' σ H Q → t σ H Q) : PO X e t' := ⟨fun pins s σ H Q I q => h.run pins s σ H Q I (k _ _ _ q)⟩
theorem do_none : DO X none oNone := PO.imp po_none fun σ H Q ⟨O0, ow, ρ, S, o, e, k⟩ => by cases e; exact k H (.refl _)
theorem do_some (h : DE X e f) : DO X (some e) (oSome f) := PO.imp (po_some h) fun σ H Q ⟨O0, ow, ρ, S, o, e, k⟩ => by
  unfold oSome at e
  split at e
  · rename_i i ef
    cases e
    exact ⟨O0, ow, ρ, S, _, ef, fun v H1 s r => by cases r; exact ⟨i, rfl, k H1 s⟩⟩
  · cases e
def cutD {α : Type} (xs : List α) (lo hi : Option Int) : List α := (xs.drop (HT.sIx xs.length 0 lo)).take (HT.sIx xs.length xs.length hi - HT.sIx xs.length 0 lo)
theorem cut_reps {K : PySem.W.Frag} {H : Hp} {vs : List V} {ds : List D} (r : Reps K H vs ds) (lo hi : Option Int) : Reps K H (cutV vs lo hi) (cutD ds lo hi) := by
  unfold cutV cutD
  rw [r.length]
  exact (r.drop _).take _
theorem cut_map (ns : List Int) (lo hi : Option Int) : cutV (ns.map V.int) lo hi = (cutD ns lo hi).map V.int := by
  unfold cutV cutD
  rw [List.length_map, ← List.map_drop, ← List.map_take]
theorem reps_ints {K : PySem.W.Frag} {H : Hp} : ∀ ns : List Int, Reps K H (ns.map V.int) (ns.map D.int)
  | [] => .nil
  | n :: ns => .cons (.int n) (reps_ints ns)
def gSl (x : D) (lo hi : Option Int) : Option D := match x with
  | .lst xs => some (.lst (cutD xs lo hi))
  | .scr ns => some (.lst ((cutD ns lo hi).map D.int))
  | _ => none
def eSl (f : DE1) (l h : DEnv → Option (Option Int)) : DE1 := fun ρ => (f ρ).bind fun x => (l ρ).bind fun a => (h ρ).bind fun b => gSl x a b
theorem df_sl {lo hi : Option Expr} {l h : DEnv → Option (Option Int)} {p2 : Pos} (he : DB X e f) (hl : DO X lo l) (hh : DO X hi h) : DF X (.Subscript e (.Slice lo hi none p2) pos) (eSl f l h) := PE.imp (pe_slice sl_list he hl hh) fun σ H Q ⟨O0, ow, ρ, S, d, e, k⟩ => by
  unfold eSl at e
  simp only [Option.bind_eq_some_iff] at e
  obtain ⟨x, ex, lo', el, hi', eh, eg⟩ := e
  refine ⟨O0, ow, ρ, S, x, ex, fun v H1 s1 r1 => ⟨O0, ow, ρ, S.same s1, lo', el, fun H2 s2 => ⟨O0, ow, ρ, (S.same s1).same s2, hi', eh, fun H3 s3 => ?_⟩⟩⟩
  replace r1 := r1.same (hide_same (s2.trans s3)) (s2.trans s3)
  have s13 := s1.trans (s2.trans s3)
  unfold gSl at eg
  split at eg
  · cases eg
    obtain ⟨a, vs, rfl, ha, rs⟩ := r1.lst hide_le
    exact ⟨a, vs, rfl, SqL.of ha, fun q nq => k q _ (s13.trans (same_upd nq)) (Same.free s13 nq) (.lst upd_same (fresh_reps nq (cut_reps rs lo' hi')))⟩
  · rename_i ns
    cases eg
    obtain ⟨a, rfl, ha⟩ := r1.scr hide_le
    refine ⟨a, _, rfl, ha, fun q nq => k q _ (s13.trans (same_upd nq)) (Same.free s13 nq) (.lst upd_same ?_)⟩
    rw [cut_map]
    exact reps_ints _
  · cases eg
def gSlT (x : D) (lo hi : Option Int) : Option D := match x with
  | .tup xs => some (.tup (cutD xs lo hi))
  | _ => none
end
end DL

set_option maxHeartbeats 4000000
namespace DL
open PySem PySem.Spec PyProof.Rows L2
variable [CT]

section
variable {X : Cx} {e a b c : Expr} {es : List Expr} {f g fa fb fc ft : DE1} {fs : DEnv → Option (List D)} {pos p : Pos}
/-! ### lists that one name holds -/
def gApp (i : Nat) (f : DE1) : DS1 := fun ρ => match f ρ, ρ[i]? with
  | some d, some (some (true, .lst ds)) => if ds.length < 1000 then .nx (ρ.set i (some (true, .lst (ds ++ [d])))) else .stuck
  | _, _ => .stuck
theorem ds_app (i : Nat) {x : Str} {p1 apos cpos spos : Pos} (hv : PE X (.Name x p1) (tVar i)) (he : DE X e f)
    (h : PE X (.Name x p1) (tVar i) → PE X e (tDE X.K f) → PS X (.Expr (.Call (.Attribute (.Name x p1) "append" apos) [e] [] cpos) spos) (tDrop (tBM X.K "list" rAppend (tVar i) (tCons (tDE X.K f) tNil)))) :
    DS X (.Expr (.Call (.Attribute (.Name x p1) "append" apos) [e] [] cpos) spos) (gApp i f) := PS.imp (h hv he) fun N σ H ⟨H0, O0, ρ, ⟨s, ow, S, hn⟩, p⟩ => by
  unfold gApp at p
  split at p
  · rename_i d ds ef ei
    split at p
    · rename_i hl
      obtain ⟨o, h1, l, hw, rfl, t⟩ := S.sl i _ ei
      cases t with
      | lst hL rs =>
        rename_i vs
        refine ⟨.ref l, h1, .inl ⟨rfl, _, SqL.of hL⟩, O0, ow, ρ, S, d, ef, fun v H1 s1 r1 => ?_⟩
        have hL1 := s1 _ _ hL
        refine ⟨l, vs, v, rfl, rfl, hL1, small1000 (by rw [rs.length]; omega), p _ _ ⟨fun b u q => ?_, ow, (S.same s1).wr ei hw fun Hh sm => .lst upd_same (((rs.same (hide_same s1)).append (.cons r1 .nil)).same sm), hn⟩⟩
        have := hn i l hw
        rw [upd_ne (fun z => by subst z; rw [this] at q; cases q)]
        exact s1 _ _ (s _ _ q)
    · exact p.elim
  · exact p.elim
def gSetI (i : Nat) (fi f : DE1) : DS1 := fun ρ => match f ρ, fi ρ, ρ[i]? with
  | some d, some (.int k), some (some (true, .lst ds)) => match ixN ds.length k with
    | some j => .nx (ρ.set i (some (true, .lst (ds.set j d))))
    | none => .stuck
  | _, _, _ => .stuck
theorem ds_setI (i : Nat) {x : Str} {p1 spos tpos : Pos} {ie : Expr} {fi : DE1} (hv : PE X (.Name x p1) (tVar i)) (hi : DE X ie fi) (he : DE X e f)
    (h : PS X (.Assign [.Subscript (.Name x p1) ie tpos] e spos) (tAsg (tDE X.K f) (gSub (tVar i) (tDE X.K fi) rSetL))) : DS X (.Assign [.Subscript (.Name x p1) ie tpos] e spos) (gSetI i fi f) := PS.imp h fun N σ H ⟨H0, O0, ρ, ⟨s, ow, S, hn⟩, p⟩ => by
  unfold gSetI at p
  split at p
  · rename_i d k ds ef efi ei
    split at p
    · rename_i j hj
      obtain ⟨o, h1, l, hw, rfl, t⟩ := S.sl i _ ei
      cases t with
      | lst hL rs =>
        rename_i vs
        refine ⟨O0, ow, ρ, S, d, ef, fun v H1 s1 r1 => ⟨.ref l, h1, O0, ow, ρ, S.same s1, _, efi, fun vi H2 s2 r2 => ?_⟩⟩
        cases r2
        have s12 := s1.trans s2
        have hL1 := s12 _ _ hL
        refine ⟨l, vs, k, j, rfl, rfl, hL1, by rw [rs.length]; exact hj, p _ _ ⟨fun b u q => ?_, ow, (S.same s12).wr ei hw fun Hh sm => .lst upd_same (((rs.same (hide_same s12)).set (r1.same (hide_same s2)) j).same sm), hn⟩⟩
        have := hn i l hw
        rw [upd_ne (fun z => by subst z; rw [this] at q; cases q)]
        exact s12 _ _ (s _ _ q)
    · exact p.elim
  · exact p.elim

/-! ### calls of built-ins -/
def CallD (X : Cx) (f : Value) (g : List D → Option D) : Prop := ∃ r, CallR X f r ∧ ∀ (O : Addr → Prop) (H : Hp) (xs : List V) (ds : List D) (d : D) (Q : VK), BVs X.K (hide O H) H xs ds → g ds = some d → (∀ v H', Same H H' → Rep X.K (hide O H') v d → Q v H') →
  (∀ a, O a → ∃ o, H a = some o) → r xs H Q
def CallF (X : Cx) (f : Value) (g : List D → Option D) : Prop := ∃ r, CallR X f r ∧ ∀ (O : Addr → Prop) (H : Hp) (xs : List V) (ds : List D) (d : D) (Q : VK), BVs X.K (hide O H) H xs ds → g ds = some d →
  (∀ a H', Same H H' → H a = none → TopR X.K (hide (fun b => O b ∨ b = a) H') H' a d → Q (.ref a) H') → (∀ a, O a → ∃ o, H a = some o) → r xs H Q
def eCB (g : List D → Option D) (fs : DEnv → Option (List D)) : DE1 := fun ρ => (fs ρ).bind g
theorem tCB_D {v : Value} {g : List D → Option D} (h : CallD X v g) : ∃ r, CallR X v r ∧ ∀ σ H Q, tDE X.K (eCB g fs) σ H Q → tCB r (tDAB X.K fs) σ H Q := by
  obtain ⟨r, c, k⟩ := h
  refine ⟨r, c, fun σ H Q ⟨O0, ow, ρ, S, d, e, q⟩ => ?_⟩
  unfold eCB at e
  simp only [Option.bind_eq_some_iff] at e
  obtain ⟨ds, e1, e⟩ := e
  exact ⟨O0, ow, ρ, S, ds, e1, fun vs H1 s1 r1 => k _ H1 vs ds d Q r1 e (fun v H2 s2 r => q v H2 (s1.trans s2) r) (S.same s1).trk⟩
theorem tCB_F {v : Value} {g : List D → Option D} (h : CallF X v g) : ∃ r, CallR X v r ∧ ∀ σ H Q, tDF X.K (eCB g fs) σ H Q → tCB r (tDAB X.K fs) σ H Q := by
  obtain ⟨r, c, k⟩ := h
  refine ⟨r, c, fun σ H Q ⟨O0, ow, ρ, S, d, e, q⟩ => ?_⟩
  unfold eCB at e
  simp only [Option.bind_eq_some_iff] at e
  obtain ⟨ds, e1, e⟩ := e
  exact ⟨O0, ow, ρ, S, ds, e1, fun vs H1 s1 r1 => k _ H1 vs ds d Q r1 e (fun a H2 s2 n r => q a H2 (s1.trans s2) (Same.free s1 n) r) (S.same s1).trk⟩
theorem de_callB {id : String} {x : Str} {g : List D → Option D} (hc : CallD X (.builtin id) g) (hg : Gl X x) (hm : X.mg x = none) (hv : bootBuiltins x = some (.builtin id)) (ha : DAB X (e :: es) fs) (hn : x ≠ "__name__" := by decide) (hdb : (x == ("__debug__" : Str)) = false := by decide)
    (he : starEach (e :: es) X.env = (false, eval e X.env) :: starEach es X.env := by rfl) (hpl : (backTo pos (starEach es X.env)).any (·.1) = false := by rfl) : DE X (.Call (.Name x p) (e :: es) [] pos) (eCB g fs) := by
  obtain ⟨r, c, k⟩ := tCB_D (fs := fs) hc
  exact PE.imp (pe_callB c hg hm hv ha hn hdb he hpl) k
theorem de_callTy {T : String} {x : Str} {g : List D → Option D} (hc : CallD X (.type T) g) (hg : Gl X x) (hm : X.mg x = none) (hv : bootBuiltins x = some (.type T)) (ha : DAB X (e :: es) fs) (hn : x ≠ "__name__" := by decide) (hdb : (x == ("__debug__" : Str)) = false := by decide)
    (he : starEach (e :: es) X.env = (false, eval e X.env) :: starEach es X.env := by rfl) (hpl : (backTo pos (starEach es X.env)).any (·.1) = false := by rfl) : DE X (.Call (.Name x p) (e :: es) [] pos) (eCB g fs) := by
  obtain ⟨r, c, k⟩ := tCB_D (fs := fs) hc
  exact PE.imp (pe_callTy c hg hm hv ha hn hdb he hpl) k
theorem df_callTy {T : String} {x : Str} {g : List D → Option D} (hc : CallF X (.type T) g) (hg : Gl X x) (hm : X.mg x = none) (hv : bootBuiltins x = some (.type T)) (ha : DAB X (e :: es) fs) (hn : x ≠ "__name__" := by decide) (hdb : (x == ("__debug__" : Str)) = false := by decide)
    (he : starEach (e :: es) X.env = (false, eval e X.env) :: starEach es X.env := by rfl) (hpl : (backTo pos (starEach es X.env)).any (·.1) = false := by rfl) : DF X (.Call (.Name x p) (e :: es) [] pos) (eCB g fs) := by
  obtain ⟨r, c, k⟩ := tCB_F (fs := fs) hc
  exact PE.imp (pe_callTy c hg hm hv ha hn hdb he hpl) k
theorem de_callFun {id : String} {x : Str} {g : List D → Option D} (hc : CallD X (.builtin id) g) (hg : Gl X x) (hm : X.mg x = some (.builtin id)) (ha : DAB X (e :: es) fs)
    (h : ∀ {r} {t : TA}, CallR X (.builtin id) r → PA X (e :: es) t → PE X (.Call (.Name x p) (e :: es) [] pos) (tCB r t)) : DE X (.Call (.Name x p) (e :: es) [] pos) (eCB g fs) := by
  obtain ⟨r, c, k⟩ := tCB_D (fs := fs) hc
  exact PE.imp (h c ha) k
theorem BVs.one {K : PySem.W.Frag} {Hh H : Hp} {vs : List V} {d : D} (h : BVs K Hh H vs [d]) : ∃ v, vs = [v] ∧ BV K Hh H v d := by
  cases h with
  | cons a b => cases b; exact ⟨_, rfl, a⟩
theorem BVs.two {K : PySem.W.Frag} {Hh H : Hp} {vs : List V} {d e : D} (h : BVs K Hh H vs [d, e]) : ∃ v u, vs = [v, u] ∧ BV K Hh H v d ∧ BV K Hh H u e := by
  cases h with
  | cons a b =>
    obtain ⟨u, rfl, r⟩ := b.one
    exact ⟨_, _, rfl, a, r⟩
def gAbs : List D → Option D
  | [.int i] => some (.int (if i < 0 then -i else i))
  | _ => none
theorem cd_abs : CallD X (.builtin "abs") gAbs := ⟨_, call_abs, fun O H xs ds d Q r e k _ => by
  unfold gAbs at e
  split at e
  · rename_i i
    cases e
    obtain ⟨v, rfl, h⟩ := r.one
    cases h.int
    exact ⟨i, rfl, k _ _ (.refl _) (.int _)⟩
  · cases e⟩
def gInt : List D → Option D
  | [.int i] => some (.int i)
  | _ => none
theorem cd_int : CallD X (.type "int") gInt := ⟨_, call_int1, fun O H xs ds d Q r e k _ => by
  unfold gInt at e
  split at e
  · rename_i i
    cases e
    obtain ⟨v, rfl, h⟩ := r.one
    cases h.int
    exact .inl ⟨i, rfl, k _ _ (.refl _) (.int _)⟩
  · cases e⟩
def gGcd : List D → Option D
  | [.int i, .int j] => some (.int (Nat.gcd i.natAbs j.natAbs : Nat))
  | _ => none
theorem cd_gcd : CallD X (.builtin "math.gcd") gGcd := ⟨_, cr_gcd, fun O H xs ds d Q r e k _ => by
  unfold gGcd at e
  split at e
  · rename_i i j
    cases e
    obtain ⟨v, u, rfl, h1, h2⟩ := r.two
    cases h1.int
    cases h2.int
    exact ⟨i, j, rfl, k _ _ (.refl _) (.int _)⟩
  · cases e⟩
def gLen : List D → Option D
  | [.lst xs] => some (.int xs.length)
  | [.tup xs] => some (.int xs.length)
  | [.scr xs] => some (.int xs.length)
  | _ => none
theorem cd_len : CallD X (.builtin "len") gLen := ⟨_, call_len, fun O H xs ds d Q r e k _ => by
  unfold gLen at e
  split at e
  · cases e
    obtain ⟨v, rfl, h⟩ := r.one
    obtain ⟨a, vs, rfl, ha, rs⟩ := h.lst hide_le
    exact ⟨_, _, rfl, .inl ⟨vs, SqL.of ha, rfl⟩, k _ _ (.refl _) (by rw [rs.length]; exact .int _)⟩
  · cases e
    obtain ⟨v, rfl, h⟩ := r.one
    obtain ⟨a, vs, rfl, ha, rs⟩ := h.tup hide_le
    exact ⟨_, _, rfl, .inr ⟨vs, ha, rfl⟩, k _ _ (.refl _) (by rw [rs.length]; exact .int _)⟩
  · cases e
    obtain ⟨v, rfl, h⟩ := r.one
    obtain ⟨a, rfl, ha⟩ := h.scr hide_le
    exact ⟨_, _, rfl, .inl ⟨_, ha, rfl⟩, k _ _ (.refl _) (by rw [List.length_map]; exact .int _)⟩
  · cases e⟩
/-- sums -/
def intsOf : List D → Option (List Int)
  | [] => some []
  | .int i :: ds => (intsOf ds).map (i :: ·)
  | _ => none
theorem intsOf_V {K : PySem.W.Frag} {H : Hp} : ∀ {vs : List V} {ds : List D} {ns : List Int}, Reps K H vs ds → intsOf ds = some ns → vs = ns.map V.int
  | _, _, _, .nil, e => by cases e; rfl
  | _, _, _, .cons (d := d) r s, e => by
    cases d with
    | int i =>
      simp only [intsOf, Option.map_eq_some_iff] at e
      obtain ⟨ns, e, rfl⟩ := e
      cases r
      rw [intsOf_V s e]
      rfl
    | _ => simp [intsOf] at e
def blsOf : List D → Option (List Bool)
  | [] => some []
  | .bl i :: ds => (blsOf ds).map (i :: ·)
  | _ => none
theorem blsOf_V {K : PySem.W.Frag} {H : Hp} : ∀ {vs : List V} {ds : List D} {ns : List Bool}, Reps K H vs ds → blsOf ds = some ns → vs = ns.map V.bl
  | _, _, _, .nil, e => by cases e; rfl
  | _, _, _, .cons (d := d) r s, e => by
    cases d with
    | bl i =>
      simp only [blsOf, Option.map_eq_some_iff] at e
      obtain ⟨ns, e, rfl⟩ := e
      cases r
      rw [blsOf_V s e]
      rfl
    | _ => simp [blsOf] at e
theorem preSumT (xs : Array (Int × Tok)) (ns : List Int) (h : PyProof.Rows.IntsAre (intItems xs).toList ns) : preSum (numAt xs) xs.size = ns.sum := by
  have hn := h.numsOf
  rw [nums_intItems] at hn
  rw [preSum_eq, List.take_of_length_le (by simp), hn]
theorem cr_sumT (hc : X.calm = true) : CallR X (.builtin "sum") (fun vs H Q => ∃ (a : Addr) (ns : List Int), vs = [V.ref a] ∧ SqT X.K H a (ns.map V.int) ∧ Q (.int ns.sum) H) := by
  intro pins s σ H vs us Q I r h
  obtain ⟨a, ns, rfl, hs, q⟩ := h
  obtain ⟨its, rv, ht, _⟩ := I.tuple hs
  rw [Vals.ref1 r]
  have hi := rv.ints
  obtain ⟨xs, hx⟩ := hi.allInts.items
  rw [hx] at ht
  have hi2 : PyProof.Rows.IntsAre (intItems xs).toList ns := by rw [← hx]; exact hi
  refine PySem.W.ktm_sumG (I.ok.hd hc) ht fun h' tk t' hk => ?_
  rw [preSumT xs ns hi2]
  exact ⟨.int _, H, I.kept hk, ⟨_, rfl⟩, q⟩
def gSum : List D → Option D
  | [.lst xs] => (intsOf xs).map fun ns => .int ns.sum
  | [.tup xs] => (intsOf xs).map fun ns => .int ns.sum
  | _ => none
theorem CallR.or2 {f : Value} {r r' : List V → Hp → VK → Prop} (h : CallR X f r) (h' : CallR X f r') : CallR X f (fun xs H Q => r xs H Q ∨ r' xs H Q) := CallR.or h h'
theorem cd_sum (hc : X.calm = true) : CallD X (.builtin "sum") gSum := ⟨_, (cr_sum hc).or (cr_sumT hc), fun O H xs ds d Q r e k _ => by
  unfold gSum at e
  split at e
  · rw [Option.map_eq_some_iff] at e
    obtain ⟨ns, e1, rfl⟩ := e
    obtain ⟨v, rfl, h⟩ := r.one
    obtain ⟨a, vs, rfl, ha, rs⟩ := h.lst hide_le
    have := intsOf_V rs e1
    subst this
    exact .inl ⟨a, ns, rfl, SqL.of ha, k _ _ (.refl _) (.int _)⟩
  · rw [Option.map_eq_some_iff] at e
    obtain ⟨ns, e1, rfl⟩ := e
    obtain ⟨v, rfl, h⟩ := r.one
    obtain ⟨a, vs, rfl, ha, rs⟩ := h.tup hide_le
    have := intsOf_V rs e1
    subst this
    exact .inr ⟨a, ns, rfl, ha, k _ _ (.refl _) (.int _)⟩
  · cases e⟩
def gAll : List D → Option D
  | [.lst xs] => (blsOf xs).map fun bs => .bl (bs.all id)
  | _ => none
def gAny : List D → Option D
  | [.lst xs] => (blsOf xs).map fun bs => .bl (bs.any id)
  | _ => none
theorem cd_all (hc : X.calm = true) : CallD X (.builtin "all") gAll := ⟨_, cr_all hc, fun O H xs ds d Q r e k _ => by
  unfold gAll at e
  split at e
  · rw [Option.map_eq_some_iff] at e
    obtain ⟨ns, e1, rfl⟩ := e
    obtain ⟨v, rfl, h⟩ := r.one
    obtain ⟨a, vs, rfl, ha, rs⟩ := h.lst hide_le
    have := blsOf_V rs e1
    subst this
    exact ⟨a, ns, rfl, SqL.of ha, k _ _ (.refl _) (.bl _)⟩
  · cases e⟩
theorem cd_any (hc : X.calm = true) : CallD X (.builtin "any") gAny := ⟨_, cr_any hc, fun O H xs ds d Q r e k _ => by
  unfold gAny at e
  split at e
  · rw [Option.map_eq_some_iff] at e
    obtain ⟨ns, e1, rfl⟩ := e
    obtain ⟨v, rfl, h⟩ := r.one
    obtain ⟨a, vs, rfl, ha, rs⟩ := h.lst hide_le
    have := blsOf_V rs e1
    subst this
    exact ⟨a, ns, rfl, SqL.of ha, k _ _ (.refl _) (.bl _)⟩
  · cases e⟩
def gTupOf : List D → Option D
  | [.lst xs] => some (.tup xs)
  | [.tup xs] => some (.tup xs)
  | _ => none
theorem cd_tuple : CallD X (.type "tuple") gTupOf := ⟨_, call_tuple_of, fun O H xs ds d Q r e k t => by
  unfold gTupOf at e
  split at e
  · cases e
    obtain ⟨v, rfl, h⟩ := r.one
    obtain ⟨a, vs, rfl, ha, rs⟩ := h.lst hide_le
    exact ⟨a, vs, rfl, .inl ⟨SqL.of ha, fun l nl => k _ _ (same_upd nl) (.tup (SqT.of (hide_some.mpr ⟨new_rep (K := X.K) t nl, upd_same⟩)) (rs.same (hide_same (same_upd nl))))⟩⟩
  · cases e
    obtain ⟨v, rfl, h⟩ := r.one
    obtain ⟨a, vs, rfl, ha, rs⟩ := h.tup hide_le
    refine ⟨a, vs, rfl, .inr ⟨ha, k _ _ (.refl _) ?_⟩⟩
    rcases h with h | ⟨_, _, h⟩
    · exact h
    · cases h
  · cases e⟩
def gListOf : List D → Option D
  | [.lst xs] => some (.lst xs)
  | [.tup xs] => some (.lst xs)
  | _ => none
theorem cf_list : CallF X (.type "list") gListOf := ⟨_, call_list_of, fun O H xs ds d Q r e k t => by
  unfold gListOf at e
  split at e
  · cases e
    obtain ⟨v, rfl, h⟩ := r.one
    obtain ⟨a, vs, rfl, ha, rs⟩ := h.lst hide_le
    exact ⟨a, vs, rfl, .inl (SqL.of ha), fun l nl => k _ _ (same_upd nl) nl (.lst upd_same (fresh_reps nl rs))⟩
  · cases e
    obtain ⟨v, rfl, h⟩ := r.one
    obtain ⟨a, vs, rfl, ha, rs⟩ := h.tup hide_le
    exact ⟨a, vs, rfl, .inr ha, fun l nl => k _ _ (same_upd nl) nl (.lst upd_same (fresh_reps nl rs))⟩
  · cases e⟩
/-- list(range(n)) -/
def eLr (f : DE1) : DE1 := fun ρ => match f ρ with
  | some (.int n) => if rngOk 0 n then some (.lst (rngD 0 n)) else none
  | _ => none
def eLr2 (f g : DE1) : DE1 := fun ρ => match f ρ, g ρ with
  | some (.int m), some (.int n) => if rngOk m n then some (.lst (rngD m n)) else none
  | _, _ => none
theorem reps_rng {K : PySem.W.Frag} {H : Hp} (a b : Int) : Reps K H (rgV a b) (rngD a b) := by
  unfold rgV rngD
  generalize (b - a).toNat = n
  have : ∀ l : List Nat, Reps K H (l.map fun i => V.int (a + (i : Nat))) (l.map fun i => D.int (a + (i : Nat))) := fun l => by
    induction l with
    | nil => exact .nil
    | cons x l ih => exact .cons (.int _) ih
  exact this _
theorem df_listRg {p1 pos1 p2 pos2 : Pos} (hc : X.calm = true) (hg : Gl X "list") (hm : X.mg "list" = none) (hg2 : Gl X "range") (hm2 : X.mg "range" = none) (h : DE X e f)
    (na : starEach [.Call (.Name "range" p2) [e] [] pos2] X.env = (false, eval (.Call (.Name "range" p2) [e] [] pos2) X.env) :: starEach [] X.env := by rfl) (na2 : starEach [e] X.env = (false, eval e X.env) :: starEach [] X.env := by rfl) :
    DF X (.Call (.Name "list" p1) [.Call (.Name "range" p2) [e] [] pos2] [] pos1) (eLr f) := PE.imp (pe_listRg hc hg hm (prg_1 hg2 hm2 h na2) na) fun σ H Q ⟨O0, ow, ρ, S, d, e, k⟩ => by
  unfold eLr at e
  split at e
  · rename_i n ef
    split at e
    · rename_i hr
      cases e
      have hb := of_decide_eq_true hr
      refine ⟨O0, ow, ρ, S, _, ef, fun v H1 s1 r => ⟨n, (by cases r; rfl), (by unfold RgOk; omega), fun q nq => k q _ (s1.trans (same_upd nq)) (Same.free s1 nq) (.lst upd_same (reps_rng 0 n))⟩⟩
    · cases e
  · cases e
end
end DL

set_option maxHeartbeats 4000000
namespace DL
open PySem PySem.Spec PyProof.Rows L2
variable [CT]

/-! ### defs -/
def spD (K : PySem.W.Frag) (n : Nat) (F : List D → Option D) : Sp := fun vs H Q _ => vs.length = n ∧ ∃ (O0 : Addr → Prop) (ds : List D), (∀ a, O0 a → ∃ o, H a = some o) ∧ Reps K (hide O0 H) vs ds ∧ ∃ d, F ds = some d ∧ ∀ v H', Same H H' → Rep K (hide O0 H') v d → Q v H'
def startD (m : Nat) (ds : List D) : DEnv := ds.map (fun d => some (false, d)) ++ List.replicate (m - ds.length) none
/-- what a body gives back -/
def backD : Fl → Option D
  | .rt d => some d
  | .nx _ => some .non
  | _ => none
def mkF (m : Nat) (g : DS1) : List D → Option D := fun ds => backD (g (startD m ds))
theorem start_sl {K : PySem.W.Frag} {O0 : Addr → Prop} {H : Hp} {N : List Str} {vs : List V} {ds : List D} (t : ∀ a, O0 a → ∃ o, H a = some o) (r : Reps K (hide O0 H) vs ds) : Sl K O0 H (L2.start N vs) (startD N.length ds) fun _ => none := by
  have hh : ∀ a, hid O0 (fun _ => none) a → O0 a := fun a z => z.elim (fun z => z) fun ⟨_, z⟩ => by cases z
  refine ⟨(by simp [L2.start, startD, r.length]), fun i j a z => (by cases z), fun i a z => (by cases z), fun a z => t a (hh a z), fun i s h => ?_⟩
  unfold startD at h
  unfold L2.start
  have hl := r.length
  by_cases hi : i < ds.length
  · rw [List.getElem?_append_left (by simpa using hi), List.getElem?_map] at h
    obtain ⟨d, hd⟩ : ∃ d, ds[i]? = some d := ⟨_, List.getElem?_eq_getElem hi⟩
    rw [hd] at h
    cases h
    obtain ⟨v, hv, rv⟩ := r.get hd
    refine ⟨some v, by rw [List.getElem?_append_left (by simp; omega), List.getElem?_map, hv]; rfl, v, rfl, rv.same (hide_sub hh)⟩
  · rw [List.getElem?_append_right (by simp; omega)] at h
    simp only [List.length_map] at h
    have h2 := List.getElem?_eq_some_iff.mp h
    obtain ⟨h2, h3⟩ := h2
    simp only [List.length_replicate] at h2
    simp only [List.getElem_replicate] at h3
    subst h3
    refine ⟨none, ?_, trivial⟩
    rw [List.getElem?_append_right (by simp; omega), List.getElem?_eq_getElem (by simp; omega)]
    simp
section
variable {P : Program} {w : World} {K : PySem.W.Frag} {mg : Str → Option Value} {base : Heap}
theorem def_ok {x qual : Str} {st : Stmt} {f : Addr} {fd : FuncData} {N ps : List Str} {k : Nat} {g : DS1} (F : Fun K x qual st f fd) (S : FnScope N ps (defScope st))
    (h : ∀ (cdv : Value) (A : Around) (outer : List Env) (s : Shared) (H : Hp) (E : XK), Room k (A.deeper (envOfC qual (defScope st) s.heap.objs.size f cdv)) → DSs (cxOf CX0 P w K mg base N qual (defScope st) f cdv A outer s H E).nox (defBody st) g) :
    FnOk P w K mg base CX0 (k + 1) f fd ps (spD K ps.length (mkF N.length g)) := by
  refine F.ok S (fun vs H Q E h => h.1) (fun cdv A outer s H vs Q E hr h' => ?_)
  refine ⟨_, h cdv A outer s H E hr, ?_⟩
  obtain ⟨hn, O0, ds, t, r, d, e, q⟩ := h'
  refine ⟨H, O0, _, ⟨.refl _, _, start_sl t r, fun i a z => (by cases z)⟩, ?_⟩
  unfold mkF at e
  cases eg : g (startD N.length ds) with
  | rt d' => rw [eg] at e; cases e; exact q
  | nx ρ => rw [eg] at e; cases e; exact fun σ H' S' => q .non H' S'.1 .non
  | bk ρ => rw [eg] at e; cases e
  | ct ρ => rw [eg] at e; cases e
  | stuck => rw [eg] at e; cases e
end
section
variable {X : Cx} {e a b : Expr} {es : List Expr} {f fa fb : DE1} {fs : DEnv → Option (List D)} {pos p : Pos}
/-! ### calls of defs -/
def eCall (n : Nat) (F : List D → Option D) (fs : DEnv → Option (List D)) : DE1 := fun ρ => (fs ρ).bind fun ds => if ds.length = n then F ds else none
theorem tCall_D {n : Nat} {F : List D → Option D} {E : XK} : ∀ σ H Q, tDE X.K (eCall n F fs) σ H Q → tCall (spD X.K n F) [] E (tDA X.K fs) σ H Q := fun σ H Q ⟨O0, ow, ρ, S, d, e, k⟩ => by
  unfold eCall at e
  simp only [Option.bind_eq_some_iff] at e
  obtain ⟨ds, e1, e⟩ := e
  split at e
  · rename_i hl
    refine ⟨O0, ow, ρ, S, ds, e1, fun vs H1 s1 r1 => ⟨by rw [List.append_nil, r1.length]; exact hl, hid O0 ow, ds, (S.same s1).trk, by rw [List.append_nil]; exact r1, d, e, fun v H2 s2 r => k v H2 (s1.trans s2) r⟩⟩
  · cases e
theorem de_call {fa : Addr} {fd : FuncData} {ps : List Str} {k n : Nat} {x : Str} {F : List D → Option D} (Fk : FnOk X.prog X.w X.K X.mg X.base CX0 k fa fd ps (spD X.K n F)) (hr : Room k X.A) (hg : Gl X x) (hm : X.mg x = some (.ref fa)) (hk : PySem.W.keepIn X.K (.ref fa) = true) (hb : Binds X.K fd ps [])
    (ha : DA X (e :: es) fs) (hdb : (x == ("__debug__" : Str)) = false := by decide) (he : starEach (e :: es) X.env = (false, eval e X.env) :: starEach es X.env := by rfl) (hpl : (backTo pos (starEach es X.env)).any (·.1) = false := by rfl) :
    DE X (.Call (.Name x p) (e :: es) [] pos) (eCall n F fs) := PE.imp (pe_call Fk hr hg hm hk hb .nil pass0 ha hdb he hpl) tCall_D

/-! ### two names at once -/
def gPar (i j : Nat) (fs : DEnv → Option (List D)) : DS1 := fun ρ => match fs ρ with
  | some [x, y] => .nx ((ρ.set i (some (false, x))).set j (some (false, y)))
  | _ => .stuck
theorem ds_par (i j : Nat) {x y : Str} {px py pt : Pos} {kt k2 pt2} (hc : X.calm = true) (hN : X.N.Nodup) (ha : DA X [a, b] fs) (hi : X.N[i]? = some x := by rfl) (hj : X.N[j]? = some y := by rfl) (hij : i ≠ j := by decide)
    (hx : X.env.scope.names.lookup x = some .local := by rfl) (hy : X.env.scope.names.lookup y = some .local := by rfl)
    (hw : swappedStores [.Tuple [.Name x px, .Name y py] kt pt] (.Tuple [a, b] k2 pt2) X.env = pure (some [x, y]) := by rfl)
    (hs : swapsWithSole [.Tuple [.Name x px, .Name y py] kt pt] (.Tuple [a, b] k2 pt2) pos.line X.env = pure false := by rfl) :
    DS X (.Assign [.Tuple [.Name x px, .Name y py] kt pt] (.Tuple [a, b] k2 pt2) pos) (gPar i j fs) := PS.imp (ps_par hc hN hi hj hij hx hy ha hw hs) fun N σ H ⟨H0, O0, ρ, ⟨s, ow, S, h⟩, p⟩ => by
  unfold gPar at p
  split at p
  · rename_i d1 d2 ef
    refine ⟨O0, ow, ρ, S, _, ef, fun vs H1 s1 r1 => ?_⟩
    cases r1 with
    | cons r1 r2 =>
      cases r2 with
      | cons r2 r3 =>
        cases r3
        exact ⟨_, _, rfl, p _ H1 ⟨s.trans s1, ow, ((S.same s1).set r1).set r2, h⟩⟩
  · exact p.elim
def gParF (i j : Nat) (f g : DE1) : DS1 := fun ρ => match f ρ, g ρ with
  | some x, some y => .nx ((ρ.set i (some (true, x))).set j (some (true, y)))
  | _, _ => .stuck
theorem ds_parF (i j : Nat) {x y : Str} {px py pt : Pos} {kt k2 pt2} (hc : X.calm = true) (hN : X.N.Nodup) (ha : DF X a fa) (hb : DF X b fb) (hs1 : starEach [a, b] X.env = (false, eval a X.env) :: starEach [b] X.env := by rfl) (hs2 : starEach [b] X.env = (false, eval b X.env) :: starEach [] X.env := by rfl)
    (hi : X.N[i]? = some x := by rfl) (hj : X.N[j]? = some y := by rfl) (hij : i ≠ j := by decide)
    (hx : X.env.scope.names.lookup x = some .local := by rfl) (hy : X.env.scope.names.lookup y = some .local := by rfl)
    (hw : swappedStores [.Tuple [.Name x px, .Name y py] kt pt] (.Tuple [a, b] k2 pt2) X.env = pure (some [x, y]) := by rfl)
    (hs : swapsWithSole [.Tuple [.Name x px, .Name y py] kt pt] (.Tuple [a, b] k2 pt2) pos.line X.env = pure false := by rfl) :
    DS X (.Assign [.Tuple [.Name x px, .Name y py] kt pt] (.Tuple [a, b] k2 pt2) pos) (gParF i j fa fb) := PS.imp (ps_par hc hN hi hj hij hx hy (pa_cons ha (pa_cons hb pa_nil hs2) hs1) hw hs) fun N σ H ⟨H0, O0, ρ, ⟨s, ow, S, h⟩, p⟩ => by
  unfold gParF at p
  split at p
  · rename_i d1 d2 ef1 ef2
    refine ⟨O0, ow, ρ, S, _, ef1, fun a1 H1 s1 n1 t1 => ?_⟩
    obtain ⟨o1, ho1⟩ := t1.some
    refine ⟨fun b => O0 b ∨ b = a1, ow, ρ, S.more s1 n1 ⟨o1, ho1⟩, _, ef2, fun a2 H2 s2 n2 t2 => ⟨_, _, rfl, p _ H2 ?_⟩⟩
    have S1 := S.setF (i := i) s1 n1 t1
    have sub : ∀ b, hid O0 (owSet ow i (some a1)) b ∨ b = a2 → hid (fun b => O0 b ∨ b = a1) ow b ∨ b = a2 := fun b z => by
      rcases z with (z | ⟨j, z⟩) | z
      · exact .inl (.inl (.inl z))
      · unfold owSet at z
        split at z
        · cases z; exact .inl (.inl (.inr rfl))
        · exact .inl (.inr ⟨j, z⟩)
      · exact .inr z
    refine ⟨s.trans (s1.trans s2), _, S1.setF (i := j) s2 n2 (t2.same (hide_sub sub) rfl), fun l b q => ?_⟩
    unfold owSet at q
    split at q
    · cases q; exact Same.free (s.trans s1) n2
    · split at q
      · cases q; exact Same.free s n1
      · exact h l b q
  · exact p.elim

/-! ### instances -/
def eFld (ks : List Nat) (x : Str) (f : DE1) : DE1 := fun ρ => match f ρ with
  | some (.ins k fs) => if ks.contains k then fs.lookup x else none
  | _ => none
/-- the classes with these numbers have the field, and nothing of that name of their own -/
def Flds (K : PySem.W.Frag) (ks : List Nat) (x : Str) : Prop := ∀ k, ks.contains k = true → Cls K (CT.ct k) ∧ NoAttr K (CT.ct k) x
theorem de_fld {x : Str} {ks : List Nat} (c : Flds X.K ks x) (he : DE X e f) (hb : attributeBase e x X.env (eval e X.env) = eval e X.env := by rfl) : DE X (.Attribute e x pos) (eFld ks x f) := PE.imp (pe_fld he hb) fun σ H Q ⟨O0, ow, ρ, S, d, e, k⟩ => by
  unfold eFld at e
  split at e
  · rename_i C fs ef
    split at e
    · rename_i hC
      obtain ⟨c1, n⟩ := c C hC
      refine ⟨O0, ow, ρ, S, _, ef, fun v H1 s1 r1 => ?_⟩
      cases r1 with
      | ins hI rf =>
        obtain ⟨v, hv, rv⟩ := rf.lookup e
        exact ⟨_, _, _, _, v, rfl, hide_le _ _ hI, c1, n, hv, k v H1 s1 rv⟩
    · cases e
  · cases e
/-- a property -/
def eProp (C : Nat) (F : List D → Option D) (f : DE1) : DE1 := fun ρ => match f ρ with
  | some (.ins C' fs) => if C' = C then F [.ins C' fs] else none
  | _ => none
theorem de_prop {x : Str} {C : Nat} {pa g : Addr} {fd : FuncData} {ps : List Str} {k : Nat} {F : List D → Option D} (c : Cls X.K (CT.ct C)) (hp : PropOf X.K (CT.ct C) x pa g) (Fk : FnOk X.prog X.w X.K X.mg X.base CX0 k g fd ps (spD X.K 1 F)) (hr : Room (k + 1) X.A) (hb : Binds X.K fd ps []) (he : DE X e f)
    (hab : attributeBase e x X.env (eval e X.env) = eval e X.env := by rfl) : DE X (.Attribute e x pos) (eProp C F f) := PE.imp (pe_prop he c hp Fk hr hb .nil pass0 hab) fun σ H Q ⟨O0, ow, ρ, S, d, e, q⟩ => by
  unfold eProp at e
  split at e
  · rename_i C' fs ef
    split at e
    · rename_i hC
      subst hC
      refine ⟨O0, ow, ρ, S, _, ef, fun v H1 s1 r1 => ?_⟩
      have r1' := r1
      cases r1 with
      | ins hI rf =>
        exact ⟨_, _, _, rfl, hide_le _ _ hI, rfl, hid O0 ow, _, (S.same s1).trk, .cons r1' .nil, d, e, fun v H2 s2 r => q v H2 (s1.trans s2) r⟩
    · cases e
  · cases e
/-- len of an instance -/
theorem call_len_own {C g : Addr} {fd : FuncData} {ps : List Str} {k : Nat} {F : List D → Option D} (c : Cls X.K C) (hm : Meth X.K C "__len__" g) (Fk : FnOk X.prog X.w X.K X.mg X.base CX0 k g fd ps (spD X.K 1 F)) (hr : Room (k + 1) X.A) (hb : Binds X.K fd ps []) :
    CallR X (.builtin "len") (fun xs H Q => ∃ a dx fs, xs = [.ref a] ∧ H a = some (.ins C dx fs) ∧ ∃ n : Int, 0 ≤ n ∧ n < 2 ^ 63 ∧ spD X.K 1 F [.ref a] H (fun v H' => v = .int n ∧ Q v H') E0) := by
  intro pins s σ H xs us Q I r h
  obtain ⟨a, dx, fs, rfl, ea, n, h0, h1, h⟩ := h
  rw [Vals.ref1 r]
  obtain ⟨mA, O, _, _, _, _⟩ := ins_get I.hok ea
  obtain ⟨od, J, _⟩ := O.look
  obtain ⟨m, Fm⟩ := I.fr
  refine PySem.W.len_K Fm I.mod.kin J hm.at_ hm.fn (wpAny_call ?_)
  have hl : ([Value.ref a] ++ ([] : List Value)).length = ps.length := by rw [← Fk.len _ _ _ _ h]; rfl
  refine codeAny_mono (Fk.run X.A.in1 X.stack s H ⟨[.ref a], []⟩ ([Value.ref a] ++ ([] : List Value)) [.ref a] _ E0 hr.in1 I.env0.in1 (hb _ [.ref a] I.kIn hl) (show Vals [V.ref a] [Value.ref a] from .cons rfl .nil) h) fun r s' hq => ?_
  cases r with
  | error er => exact pass0 (X := X) pins σ H s er s' I hq
  | ok fl =>
    cases fl with
    | ret u =>
      obtain ⟨v, H', I3, rv, rfl, q3⟩ := I.after hq
      obtain ⟨t, rfl⟩ := rv
      exact ⟨⟨h0, h1⟩, .int n, H', I3.tok _, ⟨_, rfl⟩, q3⟩
    | next => exact False.elim hq
    | brk => exact False.elim hq
    | cont => exact False.elim hq
def gLenO (C : Nat) (F : List D → Option D) : List D → Option D
  | [.ins C' fs] => if C' = C then (match F [.ins C' fs] with
    | some (.int n) => if 0 ≤ n ∧ n < 2 ^ 63 then some (.int n) else none
    | _ => none) else none
  | _ => none
theorem cd_lenO {C : Nat} {g : Addr} {fd : FuncData} {ps : List Str} {k : Nat} {F : List D → Option D} (c : Cls X.K (CT.ct C)) (hm : Meth X.K (CT.ct C) "__len__" g) (Fk : FnOk X.prog X.w X.K X.mg X.base CX0 k g fd ps (spD X.K 1 F)) (hr : Room (k + 1) X.A) (hb : Binds X.K fd ps []) :
    CallD X (.builtin "len") (gLenO C F) := ⟨_, call_len_own c hm Fk hr hb, fun O H xs ds d Q r e q t => by
  unfold gLenO at e
  split at e
  · rename_i C' fs
    split at e
    · rename_i hC
      subst hC
      split at e
      · rename_i n en
        split at e
        · rename_i hn
          cases e
          obtain ⟨v, rfl, h⟩ := r.one
          have hh : Rep X.K (hide O H) v (.ins C' fs) := by
            rcases h with h | ⟨_, _, h⟩
            · exact h
            · cases h
          obtain ⟨a, dx, vs, rfl, ha, rf⟩ := h.ins hide_le
          exact ⟨a, dx, vs, rfl, ha, n, hn.1, hn.2, rfl, O, _, t, .cons hh .nil, _, en, fun v H' s r => by cases r; exact ⟨rfl, q _ H' s (.int n)⟩⟩
        · cases e
      · cases e
    · cases e
  · cases e⟩
theorem CallD.or {v : Value} {g g' : List D → Option D} (h : CallD X v g) (h' : CallD X v g') : CallD X v (fun x => (g x).or (g' x)) := by
  obtain ⟨r, o, k⟩ := h
  obtain ⟨r', o', k'⟩ := h'
  refine ⟨_, CallR.or2 o o', fun O H xs ds d Q hx e c t => ?_⟩
  replace e : (g ds).or (g' ds) = some d := e
  cases eg : g ds with
  | some z => rw [eg] at e; cases e; exact .inl (k O H xs ds _ Q hx eg c t)
  | none => rw [eg] at e; exact .inr (k' O H xs ds d Q hx (by simpa using e) c t)
/-! ### isinstance -/
def tyName : D → Option String
  | .non => some "NoneType"
  | .bl _ => some "bool"
  | .int _ => some "int"
  | .str _ => some "str"
  | .tup _ => some "tuple"
  | .lst _ => some "list"
  | .scr _ => some "list"
  | _ => none
theorem tyX_of {K : PySem.W.Frag} {Hh H : Hp} {v : V} {d : D} {n : String} (h : BV K Hh H v d) (s : Same Hh H) (e : tyName d = some n) : TyX K H v (.type n) := by
  rcases h with h | ⟨a, rfl, t⟩
  · cases h with
    | non => cases e; exact .base .non
    | bl b => cases e; exact .base (.bl b)
    | int b => cases e; exact .base (.int b)
    | str b => cases e; exact .base (.str b)
    | tup q r =>
      cases e
      rcases q with (q | ⟨o, q⟩) | ⟨o, its, m, q1, q2, _⟩
      · exact .base (.tup (s _ _ q))
      · exact .fTuple (s _ _ q)
      · exact .kTuple q1 q2
    | lst q r => cases e; exact .base (.lst (s _ _ q))
    | scr q =>
      cases e
      rcases q with (q | ⟨o, q⟩) | ⟨o, its, m, q1, q2, _⟩
      · exact .base (.lst (s _ _ q))
      · exact .base (.frz (s _ _ q))
      · exact .kList q1 q2
    | ins q r => cases e
    | dic q r k => cases e
  · cases t with
    | lst q r => cases e; exact .base (.lst q)
    | dic q r k => cases e
def gIsi (n : String) (d : D) : Option D := (tyName d).bind fun m => (kitB m n).map .bl
def eIsi (n : String) (f : DE1) : DE1 := fun ρ => (f ρ).bind (gIsi n)
theorem de_isi {T : String} {x y : Str} {p2 : Pos} (hg : Gl X x) (hm : X.mg x = none) (hv : bootBuiltins x = some (.builtin "isinstance")) (ha : DB X e f) (hT : PE X (.Name y p2) (tC (.ty T))) (hn : x ≠ "__name__" := by decide) (hdb : (x == ("__debug__" : Str)) = false := by decide)
    (he : starEach [e, .Name y p2] X.env = (false, eval e X.env) :: starEach [.Name y p2] X.env := by rfl) (he2 : starEach [.Name y p2] X.env = (false, eval (.Name y p2) X.env) :: starEach [] X.env := by rfl) (hpl : (backTo pos (starEach [.Name y p2] X.env)).any (·.1) = false := by rfl) :
    DE X (.Call (.Name x p) [e, .Name y p2] [] pos) (eIsi T f) := PE.imp (pe_callB call_isi hg hm hv (pa_cons ha (pa_cons hT pa_nil he2) he) hn hdb he hpl) fun σ H Q ⟨O0, ow, ρ, S, d, e, k⟩ => by
  unfold eIsi gIsi at e
  simp only [Option.bind_eq_some_iff, Option.map_eq_some_iff] at e
  obtain ⟨z, ez, m, em, b, eb, rfl⟩ := e
  refine ⟨O0, ow, ρ, S, z, ez, fun v H1 s1 r1 => ⟨v, .ty T, _, _, b, rfl, .ty T, tyX_of r1 hide_le em, kit_ty eb, k _ H1 s1 (.bl b)⟩⟩
/-- isinstance(o, C) of an instance of C itself -/
def eIsC (ks : List Nat) (C : Nat) (f : DE1) : DE1 := fun ρ => match f ρ with
  | some (.ins k _) => if ks.contains k then some (.bl (k == C)) else none
  | _ => none
structure IsaOk (K : PySem.W.Frag) (ks : List Nat) (C : Nat) : Prop where
  cls : ∀ k, ks.contains k = true → Cls K (CT.ct k) ∧ PySem.W.findIn K (.ref (CT.ct k)) "__class__" = some (some (.builtin "object.__class__")) ∧ PySem.W.mroIn K (CT.ct k) (.type "object") = some true ∧ PySem.W.kitOne K (.ref (CT.ct k)) (.ref (CT.ct C)) = some (k == C)
  g2 : PySem.W.specialIn K (.builtin "object.__class__") "__get__" = some (some (.builtin "getset_descriptor.__get__"))
  g3 : PySem.W.takesIn K (.builtin "object.__class__") = some true
theorem de_isC {ks : List Nat} {C : Nat} {x y : Str} {p2 : Pos} (c : IsaOk X.K ks C)
    (hg : Gl X x) (hm : X.mg x = none) (hv : bootBuiltins x = some (.builtin "isinstance")) (ha : DE X e f) (hT : PE X (.Name y p2) (tC (.ref (CT.ct C)))) (hn : x ≠ "__name__" := by decide) (hdb : (x == ("__debug__" : Str)) = false := by decide)
    (he : starEach [e, .Name y p2] X.env = (false, eval e X.env) :: starEach [.Name y p2] X.env := by rfl) (he2 : starEach [.Name y p2] X.env = (false, eval (.Name y p2) X.env) :: starEach [] X.env := by rfl) (hpl : (backTo pos (starEach [.Name y p2] X.env)).any (·.1) = false := by rfl) :
    DE X (.Call (.Name x p) [e, .Name y p2] [] pos) (eIsC ks C f) := PE.imp (pe_callB call_isi hg hm hv (pa_cons ha (pa_cons hT pa_nil he2) he) hn hdb he hpl) fun σ H Q ⟨O0, ow, ρ, S, d, e, k⟩ => by
  unfold eIsC at e
  split at e
  · rename_i C' fs ef
    split at e
    · rename_i hC
      obtain ⟨cl, h1, h4, h5⟩ := c.cls C' hC
      cases e
      refine ⟨O0, ow, ρ, S, _, ef, fun v H1 s1 r1 => ?_⟩
      cases r1 with
      | ins hI rf => exact ⟨_, .ref (CT.ct C), _, _, (C' == C), rfl, .own (CT.ct C), .base (.ins (hide_le _ _ hI) cl h1 c.g2 c.g3 h4), h5, k _ H1 s1 (.bl _)⟩
    · cases e
  · cases e
end
end DL

set_option maxHeartbeats 4000000
namespace DL
open PySem PySem.Spec PyProof.Rows L2
variable [CT]

/-! ### instances made -/
def putD (x : Str) (d : D) : List (Str × D) → List (Str × D)
  | [] => [(x, d)]
  | (g, y) :: r => if g = x then (g, d) :: r else (g, y) :: putD x d r
theorem RepF.put {K : PySem.W.Frag} {H : Hp} {x : Str} {v : V} {d : D} (r : Rep K H v d) : ∀ {fs : List (Str × V)} {ds : List (Str × D)}, RepF K H fs ds → RepF K H (putF x v fs) (putD x d ds)
  | _, _, .nil => .cons r .nil
  | _, _, .cons (x := g) q t => by
    unfold putF putD
    by_cases h : g = x
    · rw [if_pos h, if_pos h]; exact .cons r t
    · rw [if_neg h, if_neg h]; exact .cons q (RepF.put r t)
theorem RepF.length {K : PySem.W.Frag} {H : Hp} : ∀ {fs : List (Str × V)} {ds : List (Str × D)}, RepF K H fs ds → fs.length = ds.length
  | _, _, .nil => rfl
  | _, _, .cons _ r => by simp [RepF.length r]
section
variable {X : Cx} {e a b : Expr} {es : List Expr} {f fa fb : DE1} {fs : DEnv → Option (List D)} {pos p : Pos}
/-! the body of an __init__: what it leaves in the object's fields -/
abbrev DI1 := DEnv → List (Str × D) → Option (List (Str × D))
def tIN (K : PySem.W.Frag) (C : Nat) (G : DI1) : TS := fun N σ H => ∃ (x dx : Addr) (O1 : Addr → Prop) (ρ : DEnv) (vs : List (Str × V)) (fs : List (Str × D)), O1 x ∧ Sl K O1 H σ ρ (fun _ => none) ∧ σ[0]? = some (some (.ref x)) ∧ H x = some (.ins (CT.ct C) dx vs) ∧ RepF K (hide O1 H) vs fs ∧
  ∃ gs, G ρ fs = some gs ∧ ∀ σ' H' fv, (∀ b o, b ≠ x → H b = some o → H' b = some o) → H' x = some (.ins (CT.ct C) dx fv) → RepF K (hide O1 H') fv gs → N.nx σ' H'
def DIN (X : Cx) (C : Nat) (st : List Stmt) (G : DI1) : Prop := PSs X st (tIN X.K C G)
theorem hid_none {O1 : Addr → Prop} : hid O1 (fun _ => none) = O1 := funext fun a => propext ⟨fun z => z.elim (fun z => z) fun ⟨_, z⟩ => (by cases z), fun z => .inl z⟩
theorem Sl.upHid {K : PySem.W.Frag} {O1 : Addr → Prop} {H : Hp} {σ : L2.St} {ρ : DEnv} {x : Addr} {o : HO} (S : Sl K O1 H σ ρ fun _ => none) (hx : O1 x) : Sl K O1 (upd H x o) σ ρ fun _ => none := by
  refine ⟨S.len, S.inj, S.out, fun a z => ?_, fun i s h => ?_⟩
  · by_cases e : a = x
    · subst e; exact ⟨o, upd_same⟩
    · obtain ⟨u, q⟩ := S.trk a z
      exact ⟨u, by rw [upd_ne e]; exact q⟩
  · obtain ⟨u, h1, h2⟩ := S.sl i s h
    refine ⟨u, h1, ?_⟩
    match s, h2 with
    | none, _ => trivial
    | some (false, d), ⟨v, e1, r⟩ => exact ⟨v, e1, r.same (hide_upd (.inl hx))⟩
    | some (true, d), ⟨a, e1, _⟩ => cases e1
theorem din_nil {C : Nat} : DIN X C [] (fun _ fs => some fs) := PSs.imp pss_nil fun N σ H ⟨x, dx, O1, ρ, vs, fs, ox, S, s0, hx, rf, gs, e, k⟩ => by
  cases e; exact k σ H vs (fun b o _ q => q) hx rf
def iFld (x : Str) (f : DE1) (G : DI1) : DI1 := fun ρ fs => if fs.length < 900 then (f ρ).bind fun d => G ρ (putD x d fs) else none
theorem din_fld {C : Nat} {y f : Str} {p1 pos' : Pos} {G : DI1} {rest : List Stmt} (c : Cls X.K (CT.ct C)) (n : NoAttr X.K (CT.ct C) f) (hv : PE X (.Name y p1) (tVar 0)) (he : DE X e fa) (hr : DIN X C rest G) (hs : swapsWith e (some (.Attribute (.Name y p1) f pos')) pos.line X.env = pure false := by rfl) :
    DIN X C (.Assign [.Attribute (.Name y p1) f pos'] e pos :: rest) (iFld f fa G) := PSs.imp (pss_cons (ps_fld hv he hs) hr) fun N σ H ⟨x, dx, O1, ρ, vs, fs, ox, S, s0, hx, rf, gs, e, k⟩ => by
  unfold iFld at e
  split at e
  · rename_i hl
    simp only [Option.bind_eq_some_iff] at e
    obtain ⟨d, ed, eg⟩ := e
    refine ⟨O1, _, ρ, S, d, ed, fun v H1 s1 r1 => ⟨.ref x, s0, x, CT.ct C, dx, vs, rfl, s1 _ _ hx, c, n, by rw [rf.length]; omega, x, dx, O1, ρ, _, _, ox, (S.same s1).upHid ox, s0, upd_same, RepF.put ?_ ?_, gs, eg, fun σ' H' fv h1 h2 h3 => k σ' H' fv (fun b o nb q => h1 b o nb (by rw [upd_ne nb]; exact s1 _ _ q)) h2 h3⟩⟩
    · rw [hid_none] at r1; exact r1.same (hide_upd ox)
    · exact rf.same (fun b o q => hide_upd ox _ _ (hide_same s1 _ _ q))
  · cases e
def iIf (f : DE1) (G : DI1) : DI1 := fun ρ fs => match f ρ with
  | some (.bl false) => G ρ fs
  | _ => none
theorem din_if {C : Nat} {c : Expr} {A : List Stmt} {G : DI1} {rest : List Stmt} (hc : DT X c fa) (hr : DIN X C rest G) : DIN X C (.If c A [] pos :: rest) (iIf fa G) := PSs.imp (pss_cons (ps_if hc pss_never pss_nil) hr) fun N σ H ⟨x, dx, O1, ρ, vs, fs, ox, S, s0, hx, rf, gs, e, k⟩ => by
  unfold iIf at e
  split at e
  · rename_i ef
    exact ⟨O1, _, ρ, S, false, ef, fun H1 s1 => iteF ⟨x, dx, O1, ρ, vs, fs, ox, S.same s1, s0, s1 _ _ hx, rf.same (hide_same s1), gs, e, fun σ' H' fv h1 h2 h3 => k σ' H' fv (fun b o nb q => h1 b o nb (s1 _ _ q)) h2 h3⟩⟩
  · cases e
end
/-- an __init__: the fields that it gives -/
def spI (K : PySem.W.Frag) (C : Nat) (n : Nat) (F : List D → Option (List (Str × D))) : Sp := fun vs H Q _ => ∃ (x dx : Addr) (us : List V), vs = .ref x :: us ∧ us.length = n ∧ H x = some (.ins (CT.ct C) dx []) ∧ ∃ (O0 : Addr → Prop) (ds : List D), ¬ O0 x ∧ (∀ a, O0 a → ∃ o, H a = some o) ∧
  Reps K (hide (fun b => O0 b ∨ b = x) H) us ds ∧ ∃ gs, F ds = some gs ∧ ∀ H' fv, (∀ b o, b ≠ x → H b = some o → H' b = some o) → H' x = some (.ins (CT.ct C) dx fv) → RepF K (hide (fun b => O0 b ∨ b = x) H') fv gs → Q .non H'
def mkI (m : Nat) (G : DI1) : List D → Option (List (Str × D)) := fun ds => G (none :: startD m ds) []
theorem Sl.cons_no {K : PySem.W.Frag} {O1 : Addr → Prop} {H : Hp} {σ : L2.St} {ρ : DEnv} {o : Option V} (S : Sl K O1 H σ ρ fun _ => none) : Sl K O1 H (o :: σ) (none :: ρ) fun _ => none := by
  refine ⟨by simp [S.len], S.inj, S.out, S.trk, fun i s h => ?_⟩
  cases i with
  | zero => cases h; exact ⟨_, rfl, trivial⟩
  | succ i => simpa using S.sl i s (by simpa using h)
section
variable {P : Program} {w : World} {K : PySem.W.Frag} {mg : Str → Option Value} {base : Heap}
theorem init_ok {x qual : Str} {f : Addr} {C : Nat} {fd : FuncData} (st : Stmt) (N ps : List Str) (k m n : Nat) (G : DI1) (F : Fun K x qual st f fd) (S : FnScope N ps (defScope st)) (hp : ps.length = n + 1) (hN : N.length = m + 1)
    (h : ∀ (cdv : Value) (A : Around) (outer : List Env) (s : Shared) (H : Hp) (E : XK), Room k (A.deeper (envOfC qual (defScope st) s.heap.objs.size f cdv)) → DIN (cxOf CX0 P w K mg base N qual (defScope st) f cdv A outer s H E).nox C (defBody st) G) :
    FnOk P w K mg base CX0 (k + 1) f fd ps (spI K C n (mkI m G)) := by
  refine F.ok S (fun vs H Q E h => ?_) (fun cdv A outer s H vs Q E hr h' => ?_)
  · obtain ⟨x, dx, us, rfl, hn, _⟩ := h
    simp [hn, hp]
  · refine ⟨_, h cdv A outer s H E hr, ?_⟩
    obtain ⟨x, dx, us, rfl, hn, hx, O0, ds, nx, t, r, gs, e, q⟩ := h'
    have S0 : Sl K (fun b => O0 b ∨ b = x) H (L2.start (List.replicate m (Str.ofString "")) us) (startD (List.replicate m (Str.ofString "")).length ds) fun _ => none := start_sl (fun a z => by
      rcases z with z | z
      · exact t a z
      · subst z; exact ⟨_, hx⟩) r
    have es : L2.start N (.ref x :: us) = some (.ref x) :: L2.start (List.replicate m (Str.ofString "")) us := by
      unfold L2.start
      simp only [List.map_cons, List.cons_append, List.length_cons, List.length_replicate, hN]
      congr 3
      omega
    rw [es]
    simp only [List.length_replicate] at S0
    exact ⟨x, dx, fun b => O0 b ∨ b = x, _, [], [], .inr rfl, S0.cons_no, rfl, hx, .nil, gs, e, fun σ' H' fv h1 h2 h3 => q H' fv h1 h2 h3⟩
end
section
variable {X : Cx} {e a b : Expr} {es : List Expr} {f fa fb : DE1} {fs : DEnv → Option (List D)} {pos p : Pos}
def eMake (C : Nat) (n : Nat) (F : List D → Option (List (Str × D))) (fs : DEnv → Option (List D)) : DE1 := fun ρ => (fs ρ).bind fun ds => if ds.length = n then (F ds).map (.ins C) else none
theorem de_make {C : Nat} {fi : Addr} {fd : FuncData} {ps : List Str} {k n : Nat} {x : Str} {F : List D → Option (List (Str × D))} (M : Mk X.K (CT.ct C) fi) (Fk : FnOk X.prog X.w X.K X.mg X.base CX0 k fi fd ps (spI X.K C n F)) (hr : Room (k + 1) X.A) (hg : Gl X x) (hm : X.mg x = some (.ref (CT.ct C))) (hb : Binds X.K fd ps [])
    (ha : DA X (e :: es) fs) (hdb : (x == ("__debug__" : Str)) = false := by decide) (he : starEach (e :: es) X.env = (false, eval e X.env) :: starEach es X.env := by rfl) (hpl : (backTo pos (starEach es X.env)).any (·.1) = false := by rfl) :
    DE X (.Call (.Name x p) (e :: es) [] pos) (eMake C n F fs) := PE.imp (pe_make M Fk hr hg hm hb .nil pass0 ha hdb he hpl) fun σ H Q ⟨O0, ow, ρ, S, d, e, k⟩ => by
  unfold eMake at e
  simp only [Option.bind_eq_some_iff] at e
  obtain ⟨ds, e1, e⟩ := e
  split at e
  · rename_i hl
    rw [Option.map_eq_some_iff] at e
    obtain ⟨gs, eg, rfl⟩ := e
    refine ⟨O0, ow, ρ, S, ds, e1, fun vs H1 s1 r1 x dx nx ndx ne => ?_⟩
    have st : Same H1 (upd (upd H1 dx (.own x)) x (.ins (CT.ct C) dx [])) := (same_upd ndx).trans (same_upd (by rw [upd_ne (Ne.symm ne)]; exact nx))
    have S1 := S.same s1
    refine ⟨x, dx, vs, by rw [List.append_nil], by rw [r1.length]; exact hl, upd_same, hid O0 ow, ds, new_rep (K := X.K) S1.trk nx, fun a z => ?_, r1.same fun b o q => ?_, gs, eg, fun H2 fv h1 h2 h3 => ⟨rfl, ?_⟩⟩
    · obtain ⟨o, q⟩ := S1.trk a z
      exact ⟨o, st _ _ q⟩
    · rw [hide_some] at q ⊢
      exact ⟨fun z => z.elim q.1 fun z => (by subst z; rw [nx] at q; cases q.2), st _ _ q.2⟩
    · have s2 : Same H1 H2 := fun b o q => h1 b o (ne_of_none q nx) (st _ _ q)
      exact k _ H2 (s1.trans s2) (.ins (hide_some.mpr ⟨new_rep (K := X.K) S1.trk nx, h2⟩) (h3.same (hide_sub fun b z => .inl z)))
  · cases e
/-- len(o) by a class's own __len__ -/
theorem de_lenO {C : Nat} {g : Addr} {fd : FuncData} {ps : List Str} {k : Nat} {x : Str} {F : List D → Option D} (c : Cls X.K (CT.ct C)) (hm' : Meth X.K (CT.ct C) "__len__" g) (Fk : FnOk X.prog X.w X.K X.mg X.base CX0 k g fd ps (spD X.K 1 F)) (hr : Room (k + 1) X.A) (hb : Binds X.K fd ps [])
    (hg : Gl X x) (hm : X.mg x = none) (hv : bootBuiltins x = some (.builtin "len")) (ha : DAB X [e] fs) (hn : x ≠ "__name__" := by decide) (hdb : (x == ("__debug__" : Str)) = false := by decide)
    (he : starEach [e] X.env = (false, eval e X.env) :: starEach [] X.env := by rfl) (hpl : (backTo pos (starEach [] X.env)).any (·.1) = false := by rfl) :
    DE X (.Call (.Name x p) [e] [] pos) (eCB (fun x => (gLen x).or (gLenO C F x)) fs) := de_callB (cd_len.or (cd_lenO c hm' Fk hr hb)) hg hm hv ha hn hdb he hpl
end
end DL

set_option maxHeartbeats 4000000
namespace DL
open PySem PySem.Spec PyProof.Rows L2
variable [CT]
def SqX (b : Bool) (K : PySem.W.Frag) (H : Hp) (a : Addr) (xs : List V) : Prop := match b with
  | true => SqT K H a xs
  | false => SqL K H a xs
def SrcM (b : Bool) (h : Heap) (l : Addr) (xs : Array Value) : Prop := match b with
  | true => h.IsTuple l xs
  | false => h.IsList l xs
section
variable {X : Cx} {pins : List (Addr × Obj)} {σ : L2.St} {H : Hp} {s : Shared} {a : Addr} {xs ys : List V}
theorem SqX.src {b : Bool} (I : Inv X pins σ H s) (h : SqX b X.K H a xs) : ∃ its : List Value, Vals xs its ∧ a < s.heap.objs.size ∧ SrcM b s.heap a its.toArray := by
  cases b with
  | true =>
    obtain ⟨its, r, p, _⟩ := I.tuple h
    exact ⟨its, r, p.lt, p⟩
  | false =>
    obtain ⟨its, r, p, _⟩ := I.list h
    exact ⟨its, r, p.lt, p.isList⟩
theorem SqX.inj {b : Bool} (I : Inv X pins σ H s) (h : SqX b X.K H a xs) (h' : SqX b X.K H a ys) : xs = ys := by
  cases b with
  | true => exact I.tuple_inj h h'
  | false => exact I.list_inj h h'
theorem srcAt {b : Bool} {h : Heap} {it l : Addr} {k : Nat} {its : Array Value} (i : DZ.ItAt b h it l k) (p : SrcM b h l its) : DZ.SrcAt b h it l k its := by
  cases b with
  | true => exact ⟨i, p⟩
  | false => exact ⟨i, p⟩
end
def ItzX (K : PySem.W.Frag) (b1 b2 : Bool) (a b : Addr) : It :=
  ⟨fun i H => ∃ (xs ys : List V) (x y : V), SqX b1 K H a xs ∧ SqX b2 K H b ys ∧ xs[i]? = some x ∧ ys[i]? = some y,
   fun i H v H' => ∃ T x y, v = .ref T ∧ H T = none ∧ H' = upd H T (.tup [x, y]) ∧ (∀ xs, SqX b1 K H a xs → xs[i]? = some x) ∧ ∀ ys, SqX b2 K H b ys → ys[i]? = some y,
   fun i H => ∃ xs ys : List V, SqX b1 K H a xs ∧ SqX b2 K H b ys ∧ (xs.length ≤ i ∨ ys.length ≤ i)⟩
theorem turn_zipX {b1 b2 : Bool} {P : Program} {w : World} {K : PySem.W.Frag} {elts : List Expr} {kk : Nat} {tpos : Pos} {a b z TI TO i1 i2 : Addr} (D : ZipApart z TI TO i1 i2 a b) :
    Turn P w K (.Tuple elts kk tpos) (ItzX K b1 b2 a b) [z, TI, TO, i1, i2] z (fun i h => IsZip h z TI TO .none ∧ IsPair h TI (.ref i1) (.ref i2) ∧ (∃ x y, IsPair h TO x y) ∧ DZ.ItAt b1 h i1 a i ∧ DZ.ItAt b2 h i2 b i) where
  mem := by simp
  obj := fun i h st c hc => by
    obtain ⟨z1, t1, ⟨x, y, t2⟩, q1, q2⟩ := st
    obtain ⟨o1, v1, e1, d1⟩ := q1.obj
    obtain ⟨o2, v2, e2, d2⟩ := q2.obj
    simp only [List.mem_cons, List.not_mem_nil, or_false] at hc
    rcases hc with rfl | rfl | rfl | rfl | rfl
    · exact ⟨_, z1, fun v q => by cases q⟩
    · exact ⟨_, t1, fun v q => by cases q⟩
    · exact ⟨_, t2, fun v q => by cases q⟩
    · exact ⟨o1, e1, fun v q => by rw [d1] at q; cases q⟩
    · exact ⟨o2, e2, fun v q => by rw [d2] at q; cases q⟩
  keep := fun i h h' ⟨z1, t1, ⟨x, y, t2⟩, q1, q2⟩ k => ⟨k z (by simp) _ z1, k TI (by simp) _ t1, ⟨x, y, k TO (by simp) _ t2⟩, q1.on fun o q => k i1 (by simp) o q, q2.on fun o q => k i2 (by simp) o q⟩
  item := by
    intro X hP hw hK hc i pins s σ H E I hf ⟨z1, t1, ⟨x0, y0, t2⟩, q1, q2⟩ ⟨xs, ys, x, y, hqx, hqy, hx, hy⟩
    subst hP hw hK
    obtain ⟨us, r1, _, p1⟩ := hqx.src I
    obtain ⟨us2, r2, _, p2⟩ := hqy.src I
    obtain ⟨u, hu, ru⟩ := r1.get hx
    obtain ⟨u2, hu2, ru2⟩ := r2.get hy
    have zl : z < s.heap.objs.size := Heap.lt_size z1
    obtain ⟨o1, v1, g1, _⟩ := q1.obj
    obtain ⟨o2, v2, g2, _⟩ := q2.obj
    refine DZ.py_item D z1 t1 t2 (srcAt q1 p1) (srcAt q2 p2) (x := u) (y := u2) (by simpa using hu) (by simpa using hu2) fun h' z' t' n1 n2 hT hs hk => ⟨_, rfl, wpAny_letOwnedTupleGo_zip (s := { s with heap := h' }) z' fun h'' z'' sb => ?_⟩
    have T2 : h''.get? s.heap.objs.size = some { cls := .type "tuple", data := .seq #[u, u2] } := (sb.2 _ (Nat.ne_of_gt zl)).trans hT
    have five : ∀ c, c ∉ [z, TI, TO, i1, i2] → c ≠ z ∧ c ≠ TI ∧ c ≠ TO ∧ c ≠ i1 ∧ c ≠ i2 := fun c h => by simpa [not_or] using h
    have J : Inv X pins σ (upd H s.heap.objs.size (.tup [x, y])) { s with heap := h'' } := I.turnedNew (t' := s.toks) (ch := [z, TI, TO, i1, i2]) (fun c o hb q => by
      obtain ⟨c1, c2, c3, c4, c5⟩ := five c hb
      exact (sb.2 c c1).trans (hk c o c1 c3 c4 c5 q)) hf (Nat.le_refl _) ⟨(by show 2 ≤ sizeLine; decide), [u, u2], .cons ru (.cons ru2 .nil), ⟨_, T2, rfl, _, rfl⟩⟩
    refine ⟨.ref s.heap.objs.size, _, J, rfl, ⟨_, x, y, rfl, I.hok.fresh (Nat.le_refl _), rfl, fun l hl => (by rw [SqX.inj I hl hqx]; exact hx), fun l hl => (by rw [SqX.inj I hl hqy]; exact hy)⟩,
      ⟨z'', (sb.2 _ D.TIz).trans (hk _ _ D.TIz D.TITO D.TIi1 D.TIi2 t1), ⟨u, u2, (sb.2 _ D.TOz).trans t'⟩, n1.on fun o q => (sb.2 _ D.i1z).trans q, n2.on fun o q => (sb.2 _ D.i2z).trans q⟩, fun c hcm => ?_⟩
    have lt : c < s.heap.objs.size := by
      have hcm' := hcm
      simp only [List.mem_cons, List.not_mem_nil, or_false] at hcm'
      rcases hcm' with rfl | rfl | rfl | rfl | rfl
      · exact zl
      · exact Heap.lt_size t1
      · exact Heap.lt_size t2
      · exact Heap.lt_size g1
      · exact Heap.lt_size g2
    rw [upd_ne (Nat.ne_of_lt lt)]
    exact (hf c hcm).1
  done := by
    intro X hP hw hK hc i pins s σ H E I hf ⟨z1, t1, ⟨x0, y0, t2⟩, q1, q2⟩ ⟨xs, ys, hqx, hqy, hend⟩
    subst hP hw hK
    obtain ⟨us, r1, _, p1⟩ := hqx.src I
    obtain ⟨us2, r2, _, p2⟩ := hqy.src I
    have l1 := r1.length
    have l2 := r2.length
    refine DZ.py_end (I.ok.hd hc) D z1 t1 t2 (srcAt q1 p1) (srcAt q2 p2) (hend.elim (fun q => .inl (by simp; omega)) fun q => .inr (by simp; omega)) fun h' hk => ⟨rfl, I.turnedL (t' := s.toks) (ch := [z, TI, TO, i1, i2]) (fun c o hb q => ?_) hf⟩
    have : c ≠ z ∧ c ≠ TI ∧ c ≠ TO ∧ c ≠ i1 ∧ c ≠ i2 := by simpa [not_or] using hb
    exact hk c o this.1 this.2.2.1 this.2.2.2.1 this.2.2.2.2 q
  self := fun A i s Q E st h => wpAny_pyIter_zip st.1 h
def iZipX (K : PySem.W.Frag) (ta : TA) : TI := fun σ H R => ta σ H fun vs H1 => ∃ b1 b2 a b xs ys, vs = [.ref a, .ref b] ∧ SqX b1 K H1 a xs ∧ SqX b2 K H1 b ys ∧ R (ItzX K b1 b2 a b) H1
theorem pi_zipX {X : Cx} {e e2 : Expr} {ta : TA} {p pos tpos : Pos} {elts : List Expr} {kk : Nat} (hg : Gl X "zip") (hm : X.mg "zip" = none) (ha : PA X [e, e2] ta)
    (hs : starEach [e, e2] X.env = (false, eval e X.env) :: starEach [e2] X.env := by rfl) (hpl : (backTo pos (starEach [e2] X.env)).any (·.1) = false := by rfl) :
    PI X (.Tuple elts kk tpos) (.Call (.Name "zip" p) [e, e2] [] pos) (iZipX X.K ta) := by
  refine ⟨fun pins s σ H R I h => Call_ (ld_blt I hg hm PyProof.Rows.boot_zip (PyProof.Rows.callWith_type1 (thn (ha.run pos pins s σ H _ I h) fun us s1 ⟨vs, H1, I1, r1, q1⟩ => ?_) hs hpl))⟩
  obtain ⟨b1, b2, a, b, xs, ys, rfl, hqx, hqy, q⟩ := q1
  obtain ⟨u, rr, rfl, ra, rb⟩ := Vals.two r1
  cases ra
  cases rb
  obtain ⟨us, v1, la, p1⟩ := hqx.src I1
  obtain ⟨us2, v2, lb, p2⟩ := hqy.src I1
  have fresh : ∀ c, c ∈ [s1.heap.objs.size + 4, s1.heap.objs.size + 2, s1.heap.objs.size + 3, s1.heap.objs.size, s1.heap.objs.size + 1] → FpOk X pins H1 c := fun c hcm => by
    have hle : s1.heap.objs.size ≤ c := by
      simp only [List.mem_cons, List.not_mem_nil, or_false] at hcm
      omega
    exact I1.fpOk hle (I1.hok.fresh hle)
  have fin : ∀ h' : Heap, IsZip h' (s1.heap.objs.size + 4) (s1.heap.objs.size + 2) (s1.heap.objs.size + 3) .none → IsPair h' (s1.heap.objs.size + 2) (.ref s1.heap.objs.size) (.ref (s1.heap.objs.size + 1)) →
      IsPair h' (s1.heap.objs.size + 3) .none .none → DZ.ItAt b1 h' s1.heap.objs.size a 0 → DZ.ItAt b2 h' (s1.heap.objs.size + 1) b 0 → (∀ c o, s1.heap.get? c = some o → h'.get? c = some o) →
      wpAny (model X.prog X.w) X.A (pyIter (.ref (s1.heap.objs.size + 4))) (PIE X pins σ (.Tuple elts kk tpos) R) X.xe { s1 with heap := h' } := fun h' z1 t1 t2 n1 n2 hk => wpAny_pyIter_zip z1
    ⟨s1.heap.objs.size + 4, [s1.heap.objs.size + 4, s1.heap.objs.size + 2, s1.heap.objs.size + 3, s1.heap.objs.size, s1.heap.objs.size + 1], _, _, H1, rfl, I1.kept (t' := s1.toks) hk, turn_zipX (PySem.W.ktu_apart s1.heap.objs.size a b la lb), ⟨z1, t1, ⟨_, _, t2⟩, n1, n2⟩, fresh, q⟩
  cases b1 with
  | true =>
    cases b2 with
    | true => exact RZ.call_zipT p1 p2 fun h' z1 t1 t2 n1 n2 _ hk => fin h' z1 t1 t2 n1 n2 hk
    | false => exact DZ.call_TL p1 p2 fun h' z1 t1 t2 n1 n2 hk => fin h' z1 t1 t2 n1 n2 hk
  | false =>
    cases b2 with
    | true => exact DZ.call_LT p1 p2 fun h' z1 t1 t2 n1 n2 hk => fin h' z1 t1 t2 n1 n2 hk
    | false => exact call_zip_2 p1 p2 fun h' z1 t1 t2 n1 n2 _ hk => fin h' z1 t1 t2 n1 n2 hk
/-! as data -/
def seqD : D → Option (List D)
  | .lst xs => some xs
  | .tup xs => some xs
  | _ => none
def iZX (f g : DE1) : DEnv → Option (List D) := fun ρ => ((f ρ).bind seqD).bind fun xs => ((g ρ).bind seqD).map fun ys => zipD xs ys
theorem seq_rep {K : PySem.W.Frag} {H : Hp} {v : V} {d : D} {ds : List D} (r : Rep K H v d) (h : seqD d = some ds) : ∃ b a vs, v = .ref a ∧ SqX b K H a vs ∧ Reps K H vs ds := by
  cases r with
  | tup s rs => cases h; exact ⟨true, _, _, rfl, s, rs⟩
  | lst s rs => cases h; exact ⟨false, _, _, rfl, SqL.of s, rs⟩
  | _ => cases h
theorem SqX.same {b : Bool} {K : PySem.W.Frag} {H H' : Hp} {a : Addr} {xs : List V} (e : Same H H') (h : SqX b K H a xs) : SqX b K H' a xs := by
  cases b with
  | true => exact DL.Same.sqT e h
  | false => exact L2.Same.seq e h
section
variable {X : Cx} {tg e e' : Expr} {f f' : DE1} {p pos tpos : Pos}
theorem di_zipX {elts : List Expr} {kk : Nat} (hg : Gl X "zip") (hm : X.mg "zip" = none) (h : DE X e f) (h' : DE X e' f') (hs : starEach [e, e'] X.env = (false, eval e X.env) :: starEach [e'] X.env := by rfl) (hpl : (backTo pos (starEach [e'] X.env)).any (·.1) = false := by rfl) (hs2 : starEach [e'] X.env = (false, eval e' X.env) :: starEach [] X.env := by rfl) :
    DI X (.Tuple elts kk tpos) (.Call (.Name "zip" p) [e, e'] [] pos) (iZX f f') :=
  PI.imp (pi_zipX hg hm (pa_cons h (pa_cons h' pa_nil hs2) hs) hs hpl) fun σ H R ⟨O0, ow, ρ, S, ds, q, k⟩ => by
  unfold iZX at q
  simp only [Option.bind_eq_some_iff, Option.map_eq_some_iff] at q
  obtain ⟨xs, ⟨d1, ef, e1⟩, ys, ⟨d2, ef', e2⟩, rfl⟩ := q
  refine ⟨O0, ow, ρ, S, _, ef, fun v H1 s r => ⟨O0, ow, ρ, S.same s, _, ef', fun v' H2 s2 r' => ?_⟩⟩
  obtain ⟨b1, a, vs, rfl, sq, rs⟩ := seq_rep (r.same (hide_same s2)) e1
  obtain ⟨b2, b, us, rfl, sq', rs'⟩ := seq_rep r' e2
  refine ⟨b1, b2, a, b, vs, us, rfl, SqX.same hide_le sq, SqX.same hide_le sq', k _ H2 (s.trans s2) ⟨fun H3 e2 => ⟨vs, us, SqX.same e2 sq, SqX.same e2 sq', ?_⟩, fun i d H3 e2 hd => ?_, fun i d H3 x H4 e2 hd y => ?_⟩⟩
  · have := rs.length; have := rs'.length
    rw [zipD_length]; omega
  · obtain ⟨p, q, hp, hq, rfl⟩ := zipD_get hd
    obtain ⟨v1, hv1, _⟩ := rs.get hp
    obtain ⟨v2, hv2, _⟩ := rs'.get hq
    exact ⟨vs, us, v1, v2, SqX.same e2 sq, SqX.same e2 sq', hv1, hv2⟩
  · obtain ⟨p, q, hp, hq, rfl⟩ := zipD_get hd
    obtain ⟨v1, hv1, r1⟩ := rs.get hp
    obtain ⟨v2, hv2, r2⟩ := rs'.get hq
    obtain ⟨T, x1, x2, rfl, nT, rfl, f1, f2⟩ := y
    have e1 := f1 _ (SqX.same e2 sq)
    have e3 := f2 _ (SqX.same e2 sq')
    rw [hv1] at e1; cases e1
    rw [hv2] at e3; cases e3
    exact ⟨same_upd nT, fun O' h1 h2 => pair_rep e2 nT h1 h2 r1 r2⟩
end
end DL

set_option maxHeartbeats 4000000
namespace DL
open PySem PySem.Spec PyProof.Rows L2
variable [CT]
def gAddI : D → D → Option D := gI fun i j => some (.int (i + j))
def gSubI : D → D → Option D := gI fun i j => some (.int (i - j))
def gMulI : D → D → Option D := gI mMul
def gDivI : D → D → Option D := gI mDiv
def gModI : D → D → Option D := gI mMod
def gLt : D → D → Option D := gI fun i j => some (.bl (decide (i < j)))
def gLe : D → D → Option D := gI fun i j => some (.bl (decide (i ≤ j)))
def gGt : D → D → Option D := gI fun i j => some (.bl (decide (j < i)))
def gGe : D → D → Option D := gI fun i j => some (.bl (decide (j ≤ i)))
section
variable {X : Cx} {e : Expr} {f : DE1} {pos : Pos}
def gExp (f : DE1) : DS1 := fun ρ => match f ρ with
  | some _ => .nx ρ
  | none => .stuck
theorem ds_expr (he : DE X e f) (hs : swapsWith e none pos.line X.env = pure false := by rfl) : DS X (.Expr e pos) (gExp f) := PS.imp (ps_expr he hs) fun N σ H ⟨H0, O0, ρ, S, p⟩ => by
  obtain ⟨s, ow, S1, h⟩ := id S
  unfold gExp at p
  cases ef : f ρ with
  | none => rw [ef] at p; exact p.elim
  | some d =>
    rw [ef] at p
    exact ⟨O0, ow, ρ, S1, d, ef, fun v H' s' _ => p σ H' (S.same s')⟩
theorem ds_doc {x j pos pos'} : DS X (.Expr (.Constant (.str x) j pos) pos') gNx := PS.imp ps_doc fun N σ H ⟨H0, O0, ρ, S, p⟩ => p σ H S
theorem tDE_F {K : PySem.W.Frag} : ∀ σ H Q, tDE K f σ H Q → tDF K f σ H Q := fun σ H Q ⟨O0, ow, ρ, S, d, e, k⟩ => ⟨O0, ow, ρ, S, d, e, fun a H' s n t => k (.ref a) H' s (t.rep (hide_sub fun b z => .inl z) fun o q => hide_some.mpr ⟨fun z => (let ⟨u, w⟩ := S.trk a z; by rw [n] at w; cases w), q⟩)⟩
theorem ds_setLcE {tg iter elt : Expr} {it : DEnv → Option (List D)} {b : D → DEnv → Option DEnv} {t : DE1} {is : List Nat} (i : Nat) {y : Str} {py spos : Pos} {scope : Scope} (own : List (Str × Nat)) (hc : X.calm = true) (hN : X.N.Nodup) (hy : X.N[i]? = some y) (hyl : X.env.scope.names.lookup y = some .local) {ifs : List Expr}
    (hsw : swapsWith (.ListComp elt [⟨tg, iter, ifs, 0⟩] scope pos) (some (.Name y py)) spos.line X.env = pure true) (hi : DI X tg iter it) (ok : BlkOk X.N X.env.scope scope own)
    (hg : ∀ (s : Shared) (H : Hp) (C : Addr) (cl : List (Str × Addr)) (fp : List Addr), DG (X.blk s H scope (compEnvC scope cl C X.env) fp) tg is b) (ht : ∀ (s : Shared) (H : Hp) (C : Addr) (cl : List (Str × Addr)) (fp : List Addr), DTs (X.blk s H scope (compEnvC scope cl C X.env) fp) ifs t)
    (he : ∀ (s : Shared) (H : Hp) (C : Addr) (cl : List (Str × Addr)) (fp : List Addr), DE (X.blk s H scope (compEnvC scope cl C X.env) fp) elt f) (his : ∀ i ∈ is, i ∈ own.map (·.2) := by decide) (hs : ∀ x, foldedSetIterable iter X.env x = pure x := by intro _; rfl) :
    DS X (.Assign [.Name y py] (.ListComp elt [⟨tg, iter, ifs, 0⟩] scope pos) spos) (gSet i (eLc it (own.map (·.2)) b t f)) := PS.imp (ps_setLc (g := tDG X.K is b) (tt := tDT X.K t) (te := tDE X.K f) hc hN hy hyl hsw hi ok hg ht he hs) fun N σ H h => by
  have := set_post (K := X.K) (i := i) (f := eLc it (own.map (·.2)) b t f) N σ H h
  exact tLc_D his σ H _ (tDE_F σ H _ this)
end
theorem def_ok' {P : Program} {w : World} {K : PySem.W.Frag} {mg : Str → Option Value} {base : Heap} {x qual : Str} {f : Addr} {fd : FuncData} (st : Stmt) (N ps : List Str) (k m n : Nat) (g : DS1) (F : Fun K x qual st f fd) (S : FnScope N ps (defScope st)) (hm : N.length = m) (hn : ps.length = n)
    (h : ∀ (cdv : Value) (A : Around) (outer : List Env) (s : Shared) (H : Hp) (E : XK), Room k (A.deeper (envOfC qual (defScope st) s.heap.objs.size f cdv)) → DSs (cxOf CX0 P w K mg base N qual (defScope st) f cdv A outer s H E).nox (defBody st) g) :
    FnOk P w K mg base CX0 (k + 1) f fd ps (spD K n (mkF m g)) := by
  subst hm hn
  exact def_ok F S h
end DL

set_option maxHeartbeats 4000000
namespace DL
open PySem PySem.Spec PyProof.Rows L2
variable [CT]
section
variable {X : Cx} {tg e e' : Expr} {f f' : DE1} {p pos tpos : Pos}
/-! enumerate of a list -/
def enD : Nat → List D → List D
  | _, [] => []
  | k, x :: xs => .tup [.int k, x] :: enD (k + 1) xs
theorem enD_length : ∀ (k : Nat) (xs : List D), (enD k xs).length = xs.length
  | _, [] => rfl
  | k, x :: xs => congrArg (· + 1) (enD_length (k + 1) xs)
theorem enD_get : ∀ {k : Nat} {xs : List D} {i : Nat} {d : D}, (enD k xs)[i]? = some d → ∃ x, xs[i]? = some x ∧ d = .tup [.int (k + i : Nat), x]
  | k, [], i, d, h => by simp [enD] at h
  | k, x :: xs, 0, d, h => by simp [enD] at h; exact ⟨x, rfl, h.symm⟩
  | k, x :: xs, i + 1, d, h => by
    have h' : (enD (k + 1) xs)[i]? = some d := h
    obtain ⟨y, hy, rfl⟩ := enD_get h'
    exact ⟨y, hy, by rw [show k + 1 + i = k + (i + 1) by omega]⟩
def iEn (f : DE1) : DEnv → Option (List D) := fun ρ => match f ρ with
  | some (.lst xs) => some (enD 0 xs)
  | _ => none
theorem di_enum {elts : List Expr} {kk : Nat} (hg : Gl X "enumerate") (hm : X.mg "enumerate" = none) (h : DE X e f) (hs : starEach [e] X.env = [(false, eval e X.env)] := by rfl) :
    DI X (.Tuple elts kk tpos) (.Call (.Name "enumerate" p) [e] [] pos) (iEn f) :=
  PI.imp (pi_enum hg hm (pa_cons h pa_nil (hs := hs)) hs) fun σ H R ⟨O0, ow, ρ, S, ds, q, k⟩ => by
  unfold iEn at q
  split at q
  · rename_i xs ef
    cases q
    refine ⟨O0, ow, ρ, S, _, ef, fun v H1 s r => ?_⟩
    cases r with
    | lst sq rs =>
      rename_i a vs
      have ln := rs.length
      refine ⟨a, vs, rfl, SqL.of (hide_le _ _ sq), k _ H1 s ⟨fun H2 e2 => ⟨vs, SqL.of (e2 _ _ sq), by rw [enD_length]; omega⟩, fun i d H2 e2 hd => ?_, fun i d H2 x H3 e2 hd y => ?_⟩⟩
      · obtain ⟨z, hz, _⟩ := enD_get hd
        obtain ⟨v, hv, _⟩ := rs.get hz
        exact ⟨vs, v, SqL.of (e2 _ _ sq), hv⟩
      · obtain ⟨z, hz, rfl⟩ := enD_get hd
        obtain ⟨v, hv, r⟩ := rs.get hz
        obtain ⟨T, x1, rfl, nT, rfl, f1⟩ := y
        have e1 := f1 _ (SqL.of (e2 _ _ sq))
        rw [hv] at e1; cases e1
        refine ⟨same_upd nT, fun O' h1 h2 => pair_rep e2 nT h1 h2 ?_ r⟩
        rw [Nat.zero_add]; exact .int _
  · cases q
end
/-! ### keyword-only parameters -/
section
variable {P : Program} {w : World} {K : PySem.W.Frag} {mg : Str → Option Value} {base : Heap}
theorem defK_ok {x qual : Str} {kws : List (Str × V)} {f : Addr} {fd : FuncData} (st : Stmt) (N ps : List Str) (k m n : Nat) (g : DS1) (F : FunD K x qual (defArgs st) (defBody st) (defScope st) [] kws f fd) (S : FnScope N ps (defScope st)) (hm : N.length = m) (hn : ps.length = n)
    (h : ∀ (cdv : Value) (A : Around) (outer : List Env) (s : Shared) (H : Hp) (E : XK), Room k (A.deeper (envOfC qual (defScope st) s.heap.objs.size f cdv)) → DSs (cxOf CX0 P w K mg base N qual (defScope st) f cdv A outer s H E).nox (defBody st) g) :
    FnOk P w K mg base CX0 (k + 1) f fd ps (spD K n (mkF m g)) := by
  subst hm; subst hn
  refine F.ok S (fun vs H Q E h => h.1) (fun cdv A outer s H vs Q E hr h' => ?_)
  refine ⟨_, PSs.nox (h cdv A outer s H E hr), ?_⟩
  obtain ⟨hn, O0, ds, t, r, d, e, q⟩ := h'
  refine ⟨H, O0, _, ⟨.refl _, _, start_sl t r, fun i a z => (by cases z)⟩, ?_⟩
  unfold mkF at e
  cases eg : g (startD N.length ds) with
  | rt d' => rw [eg] at e; cases e; exact q
  | nx ρ => rw [eg] at e; cases e; exact fun σ H' S' => q .non H' S'.1 .non
  | bk ρ => rw [eg] at e; cases e
  | ct ρ => rw [eg] at e; cases e
  | stuck => rw [eg] at e; cases e
theorem FunD.kbn {x qual : Str} {params : Arguments} {body : List Stmt} {scope : PySem.Scope} {kws : List (Str × V)} {f : Addr} {fd : FuncData} {ps : List Str} {n : Nat} {ks : List Str} (F : FunD K x qual params body scope [] kws f fd)
    (h : ∀ (kV doc pm : Value) (an : Option Addr) (cdv ct : Value) (us ws : List Value), us.length = n → ws.length = ks.length → bindArgs (PySem.W.fnOf x qual params body scope .none kV doc pm an cdv ct) ⟨us, ks.zip ws⟩ = pure (ps.zip (us ++ ws))) :
    KBn K fd ps n ks (fun us ws => us ++ ws) (fun vs zs => vs ++ zs) := by
  obtain ⟨oc, od, dV, kV, doc, pm, an, cdv, ct, osl, rfl, _, _, hd, _⟩ := F.ex
  rcases hd with ⟨_, rfl⟩ | ⟨z, _⟩
  · refine ⟨fun s us ws _ hu hw M A E Q q => ?_, fun a b => ?_⟩
    · rw [h kV doc pm an cdv ct us ws hu hw]
      exact wpAny_pure q
    · exact Vals.append a b
  · exact absurd rfl z
end
section
variable {X : Cx} {e a b : Expr} {es : List Expr} {f fa fb : DE1} {fs gs : DEnv → Option (List D)} {pos p kpos : Pos} {kws : List Keyword} {nm : Option Str}
def DK (X : Cx) (kws : List Keyword) (f : DEnv → Option (List D)) : Prop := PK X kws (tDA X.K f)
theorem PK.imp {t t' : TA} (h : PK X kws t) (k : ∀ σ H Q, t' σ H Q → t σ H Q) : PK X kws t' := ⟨fun pos pins s σ H Q I q => h.run pos pins s σ H Q I (k _ _ _ q)⟩
theorem dk_nil : DK X [] aNil := PK.imp pk_nil fun σ H Q ⟨O0, ow, ρ, S, d, e, k⟩ => by cases e; exact k _ _ (.refl _) .nil
theorem dk_cons (h : DE X e f) (hr : DK X kws fs) : DK X (⟨nm, e, kpos⟩ :: kws) (aCons f fs) := PK.imp (pk_cons h hr) fun σ H Q ⟨O0, ow, ρ, S, d, e, k⟩ => by
  obtain ⟨x, xs, e1, e2, rfl⟩ := aCons_some e
  exact ⟨O0, ow, ρ, S, x, e1, fun v H1 s1 r1 => ⟨O0, ow, ρ, S.same s1, xs, e2, fun vs H2 s2 r2 => k _ H2 (s1.trans s2) (.cons (r1.same (hide_same s2)) r2)⟩⟩
def eCallK (n m : Nat) (F : List D → Option D) (fs gs : DEnv → Option (List D)) : DE1 := fun ρ => (fs ρ).bind fun ds => (gs ρ).bind fun es => if ds.length = n ∧ es.length = m then F (ds ++ es) else none
theorem de_callK {fa : Addr} {fd : FuncData} {ps ks : List Str} {k n m N : Nat} {x : Str} {F : List D → Option D} (Fk : FnOk X.prog X.w X.K X.mg X.base CX0 k fa fd ps (spD X.K N F)) (hr : Room k X.A) (hg : Gl X x) (hm : X.mg x = some (.ref fa)) (hk : PySem.W.keepIn X.K (.ref fa) = true) (hb : KBn X.K fd ps n ks (fun us ws => us ++ ws) (fun vs zs => vs ++ zs))
    (ha : DA X (e :: es) fs) (hkw : DK X kws gs) (hm1 : ks.length = m) (hN : n + m = N)
    (h1 : ((backToKw pos (keywordEach kws X.env)).all fun x => x.1.isSome) = true := by rfl)
    (h2 : (backToKw pos (keywordEach kws X.env)).filterMap (fun x => x.1) = ks := by rfl)
    (hdb : (x == ("__debug__" : Str)) = false := by decide) (he : starEach (e :: es) X.env = (false, eval e X.env) :: starEach es X.env := by rfl)
    (hpl : (((backTo pos (starEach (e :: es) X.env)).any (·.1)) || (backToKw pos (keywordEach kws X.env)).any fun x => x.1.isNone) = false := by rfl) :
    DE X (.Call (.Name x p) (e :: es) kws pos) (eCallK n m F fs gs) := PE.imp (pe_callN Fk hr hg hm hk hb pass0 ha hkw h1 h2 hdb he hpl) fun σ H Q ⟨O0, ow, ρ, S, d, e, q⟩ => by
  unfold eCallK at e
  simp only [Option.bind_eq_some_iff] at e
  obtain ⟨ds, e1, es', e2, e⟩ := e
  split at e
  · rename_i hl
    subst hm1; subst hN
    refine ⟨O0, ow, ρ, S, ds, e1, fun vs H1 s1 r1 => ⟨O0, ow, ρ, S.same s1, es', e2, fun zs H2 s2 r2 => ⟨by rw [r1.length]; exact hl.1, by rw [r2.length]; exact hl.2, ?_, hid O0 ow, _, (S.same (s1.trans s2)).trk, (r1.same (hide_same s2)).append r2, d, e, fun v H3 s3 r => q v H3 ((s1.trans s2).trans s3) r⟩⟩⟩
    rw [List.length_append, r1.length, r2.length, hl.1, hl.2]
  · cases e
/-- a call that leaves the keyword-only parameters at what they are -/
def eCallD (n : Nat) (F : List D → Option D) (dd : List D) (fs : DEnv → Option (List D)) : DE1 := fun ρ => (fs ρ).bind fun ds => if ds.length = n then F (ds ++ dd) else none
theorem de_callD {fa : Addr} {fd : FuncData} {ps : List Str} {k n m N : Nat} {x : Str} {F : List D → Option D} {dvs : List V} {dd : List D} (Fk : FnOk X.prog X.w X.K X.mg X.base CX0 k fa fd ps (spD X.K N F)) (hr : Room k X.A) (hg : Gl X x) (hm : X.mg x = some (.ref fa)) (hk : PySem.W.keepIn X.K (.ref fa) = true) (hb : ∃ ds, Vals dvs ds ∧ Binds X.K fd ps ds)
    (ha : DA X (e :: es) fs) (hm1 : dd.length = m) (hN : n + m = N) (hd : ∀ h, Reps X.K h dvs dd)
    (hdb : (x == ("__debug__" : Str)) = false := by decide) (he : starEach (e :: es) X.env = (false, eval e X.env) :: starEach es X.env := by rfl) (hpl : (backTo pos (starEach es X.env)).any (·.1) = false := by rfl) :
    DE X (.Call (.Name x p) (e :: es) [] pos) (eCallD n F dd fs) := by
  obtain ⟨dvals, hv, hb⟩ := hb
  refine PE.imp (pe_call Fk hr hg hm hk hb hv pass0 ha hdb he hpl) fun σ H Q ⟨O0, ow, ρ, S, d, e, q⟩ => ?_
  unfold eCallD at e
  simp only [Option.bind_eq_some_iff] at e
  obtain ⟨ds, e1, e⟩ := e
  split at e
  · rename_i hl
    subst hm1; subst hN
    refine ⟨O0, ow, ρ, S, ds, e1, fun vs H1 s1 r1 => ⟨?_, hid O0 ow, _, (S.same s1).trk, r1.append (hd _), d, e, fun v H3 s3 r => q v H3 (s1.trans s3) r⟩⟩
    rw [List.length_append, r1.length, (hd (fun _ => none)).length, hl]
  · cases e
end
end DL

set_option maxHeartbeats 4000000
namespace DL
open PySem PySem.Spec PyProof.Rows L2
variable [CT]
/-! ### dicts -/
section
variable {X : Cx} {pins : List (Addr × Obj)} {σ : L2.St} {H Hh : Hp} {s : Shared}
mutual
theorem rep_key (I : L2.Inv X pins σ H s) (e : Same Hh H) : ∀ {v : V} {d : D} {k : NestedKey} {u : Value}, Rep X.K Hh v d → keyD d = some k → RelV v u → NestedIs s.heap k u ∧ DK.plain k = true
  | _, _, _, _, .non, hk, r => by
    simp [keyD] at hk; subst hk
    cases (show _ = Value.none from r)
    exact ⟨.none, by simp [DK.plain]⟩
  | _, _, _, _, .int i, hk, r => by
    simp [keyD] at hk; subst hk
    obtain ⟨t, rfl⟩ := r
    exact ⟨.int i t, by simp [DK.plain]⟩
  | _, _, _, _, .bl b, hk, r => by simp [keyD] at hk
  | _, _, _, _, .str b, hk, r => by simp [keyD] at hk
  | _, _, _, _, .lst _ _, hk, r => by simp [keyD] at hk
  | _, _, _, _, .scr _, hk, r => by simp [keyD] at hk
  | _, _, _, _, .ins _ _, hk, r => by simp [keyD] at hk
  | _, _, _, _, .dic _ _ _, hk, r => by simp [keyD] at hk
  | _, _, _, _, .tup sq rs, hk, r => by
    rw [keyD] at hk
    obtain ⟨ks, hks, rfl⟩ := Option.map_eq_some_iff.mp hk
    cases DK.ref_of r
    obtain ⟨its, rv, ⟨o, h1, h2, n, h3⟩, _⟩ := I.tuple (Same.sqT e sq)
    obtain ⟨q1, q2⟩ := reps_key I e rs hks rv
    exact ⟨.tup h1 h2 h3 (by simpa using q1), by simpa [DK.plain] using q2⟩
theorem reps_key (I : L2.Inv X pins σ H s) (e : Same Hh H) : ∀ {vs : List V} {ds : List D} {ks : List NestedKey} {us : List Value}, Reps X.K Hh vs ds → keyDs ds = some ks → Vals vs us → NestedAll s.heap ks us ∧ DK.plains ks = true
  | _, _, _, _, .nil, hk, .nil => by
    simp [keyDs] at hk; subst hk
    exact ⟨.nil, by simp [DK.plains]⟩
  | _, _, _, _, .cons (d := d) (ds := ds) r rs, hk, .cons rv rvs => by
    rw [keyDs] at hk
    cases h1 : keyD d with
    | none => rw [h1] at hk; simp at hk
    | some k =>
      cases h2 : keyDs ds with
      | none => rw [h1, h2] at hk; simp at hk
      | some ks =>
        rw [h1, h2] at hk
        simp at hk; subst hk
        obtain ⟨a1, a2⟩ := rep_key I e r h1 rv
        obtain ⟨b1, b2⟩ := reps_key I e rs h2 rvs
        exact ⟨.cons a1 b1, by simp [DK.plains, a2, b2]⟩
end
theorem rep_k1 (I : L2.Inv X pins σ H s) (e : Same Hh H) {v : V} {d : D} {k : NestedKey} (r : Rep X.K Hh v d) (hk : keyD d = some k) (dp : k.depth ≤ 8) : DK.K1 (DK.flat k) s.heap k v := by
  cases r with
  | non => simp [keyD] at hk; subst hk; exact ⟨rfl, rfl⟩
  | int i => simp [keyD] at hk; subst hk; exact ⟨rfl, rfl⟩
  | bl b => simp [keyD] at hk
  | str b => simp [keyD] at hk
  | lst _ _ => simp [keyD] at hk
  | scr _ => simp [keyD] at hk
  | ins _ _ => simp [keyD] at hk
  | dic _ _ _ => simp [keyD] at hk
  | tup sq rs =>
    rename_i a vs ds
    obtain ⟨n, pl⟩ := rep_key (u := .ref a) I e (Rep.tup sq rs) hk rfl
    have hk2 := hk
    rw [keyD] at hk
    obtain ⟨ks, hks, rfl⟩ := Option.map_eq_some_iff.mp hk
    exact ⟨a, rfl, n, dp, pl⟩
theorem ents_ks (I : L2.Inv X pins σ H s) (e : Same Hh H) {b : Bool} : ∀ {es : List DK.Ent} {ds : List (D × D)}, RepE X.K Hh es ds → (∀ x ∈ es, DK.flat x.1 = b ∧ x.1.depth ≤ 8) → DK.Ks b s.heap es
  | _, _, .nil, _ => fun _ z => nomatch z
  | _, _, .cons hk r q t, h => fun x hx => by
    rcases List.mem_cons.mp hx with hx | hx
    · subst hx
      obtain ⟨rfl, dp⟩ := h _ (List.mem_cons_self ..)
      exact rep_k1 I e r hk dp
    · exact ents_ks I e t (fun y hy => h y (List.mem_cons_of_mem _ hy)) x hx
end
def lookD (ds : List (D × D)) (k : NestedKey) : Option D := (ds.find? fun p => decide (keyD p.1 = some k)).map (·.2)
def putDD (ds : List (D × D)) (x : D) (k : NestedKey) (d : D) : List (D × D) :=
  if (lookD ds k).isSome then ds.map (fun p => if keyD p.1 = some k then (p.1, d) else p) else ds ++ [(x, d)]
/-- a key that can be asked of this dict -/
def okKey (ds : List (D × D)) (k : NestedKey) : Bool := decide (k.depth ≤ 8) && ds.all fun p => (keyD p.1).map DK.flat == some (DK.flat k)
section
variable {K : PySem.W.Frag} {H : Hp} {es : List DK.Ent} {ds : List (D × D)} {k : NestedKey} {kv v : V} {x d : D} {b : Bool}
theorem lookD_cons {p : D × D} : lookD (p :: ds) k = if keyD p.1 = some k then some p.2 else lookD ds k := by
  unfold lookD
  by_cases h : keyD p.1 = some k <;> simp [List.find?_cons, h]
theorem rep_at : ∀ {es : List DK.Ent} {ds : List (D × D)}, RepE K H es ds → (match lookD ds k with
    | some d => ∃ v, DK.atE es k = some v ∧ Rep K H v d
    | none => DK.atE es k = none)
  | _, _, .nil => rfl
  | _, _, .cons (k := j) hk r q t => by
    have ih := rep_at t
    rw [lookD_cons, DK.atE_cons, hk]
    by_cases h : j = k
    · rw [if_pos (by rw [h]), if_pos h]; exact ⟨_, rfl, q⟩
    · rw [if_neg (fun z => h (Option.some.inj z)), if_neg h]; exact ih
theorem rep_put (r : RepE K H es ds) (rk : Rep K H kv x) (hk : keyD x = some k) (rv : Rep K H v d) : RepE K H (DK.putE es k kv v) (putDD ds x k d) := by
  have e : (DK.atE es k).isSome = (lookD ds k).isSome := by
    have h := rep_at (k := k) r
    split at h
    · rename_i d' h'
      obtain ⟨v', h1, _⟩ := h
      rw [h1, h']; rfl
    · rename_i h'
      rw [h, h']; rfl
  unfold DK.putE putDD
  rw [DK.anyE, e]
  split
  · clear e
    rename_i hh
    clear hh
    have go : ∀ {es : List DK.Ent} {ds : List (D × D)}, RepE K H es ds → RepE K H (es.map fun e => if e.1 = k then (e.1, e.2.1, v) else e) (ds.map fun p => if keyD p.1 = some k then (p.1, d) else p) := by
      intro es
      induction es with
      | nil => intro ds r; cases r; exact .nil
      | cons e es ih =>
        intro ds r
        cases r with
        | @cons j kv' v' es' x' d' ds' hj r1 r2 t =>
          rw [List.map_cons, List.map_cons]
          by_cases h : j = k
          · rw [if_pos (show (j, kv', v').1 = k from h), if_pos (show keyD (x', d').1 = some k by rw [← h]; exact hj)]
            exact .cons hj r1 rv (ih t)
          · rw [if_neg (show ¬ (j, kv', v').1 = k from h), if_neg (show ¬ keyD (x', d').1 = some k by show ¬ keyD x' = some k; rw [hj]; exact fun z => h (Option.some.inj z))]
            exact .cons hj r1 r2 (ih t)
    exact go r
  · have go : ∀ {es : List DK.Ent} {ds : List (D × D)}, RepE K H es ds → RepE K H (es ++ [(k, kv, v)]) (ds ++ [(x, d)]) := by
      intro es
      induction es with
      | nil => intro ds r; cases r; exact .cons hk rk rv .nil
      | cons e es ih =>
        intro ds r
        cases r with
        | cons hj r1 r2 t => exact .cons hj r1 r2 (ih t)
    exact go r
theorem repE_keys : ∀ {es : List DK.Ent} {ds : List (D × D)}, RepE K H es ds → ds.map (fun p => keyD p.1) = es.map fun e => some e.1
  | _, _, .nil => rfl
  | _, _, .cons hk _ _ t => by rw [List.map_cons, List.map_cons, repE_keys t, hk]
theorem Keys.ok (q : Keys b es) (r : RepE K H es ds) (h : okKey ds k = true) : Keys (DK.flat k) es ∧ k.depth ≤ 8 := by
  unfold okKey at h
  rw [Bool.and_eq_true] at h
  refine ⟨⟨q.nd, fun e he => ⟨?_, (q.kind e he).2⟩⟩, of_decide_eq_true h.1⟩
  have h2 := h.2
  rw [List.all_eq_true] at h2
  have hm : (some e.1) ∈ ds.map fun p => keyD p.1 := by rw [repE_keys r]; exact List.mem_map.mpr ⟨e, he, rfl⟩
  obtain ⟨p, hp, ep⟩ := List.mem_map.mp hm
  have := h2 p hp
  rw [ep] at this
  simpa using this
theorem Keys.put (q : Keys b es) (h : DK.flat k = b) (dp : k.depth ≤ 8) : Keys b (DK.putE es k kv v) := by
  unfold DK.putE
  split
  · refine ⟨?_, fun e he => ?_⟩
    · have : (es.map fun e => if e.1 = k then (e.1, e.2.1, v) else e).map (·.1) = es.map (·.1) := by
        rw [List.map_map]
        refine List.map_congr_left fun e _ => ?_
        show (if e.1 = k then (e.1, e.2.1, v) else e).1 = e.1
        split <;> rfl
      rw [this]; exact q.nd
    · obtain ⟨x, hx, rfl⟩ := List.mem_map.mp he
      have := q.kind x hx
      split <;> exact this
  · rename_i hh
    refine ⟨?_, fun e he => ?_⟩
    · rw [List.map_append, List.map_cons, List.map_nil]
      refine nd_snoc q.nd fun z => hh ?_
      obtain ⟨e, he, rfl⟩ := List.mem_map.mp z
      exact List.any_eq_true.mpr ⟨e, he, decide_eq_true rfl⟩
    · rcases List.mem_append.mp he with he | he
      · exact q.kind e he
      · rw [List.mem_singleton] at he; subst he; exact ⟨h, dp⟩
end

/-! ### what dicts answer -/
theorem BV.dic {K : PySem.W.Frag} {O : Addr → Prop} {H : Hp} {v : V} {ds : List (D × D)} (h : BV K (hide O H) H v (.dic ds)) : ∃ p o es b, v = .ref p ∧ H p = some (DK.tab p o es) ∧ RepE K (hide O H) es ds ∧ Keys b es := by
  rcases h with h | ⟨a, rfl, t⟩
  · cases h with
    | dic q r k => exact ⟨_, _, _, _, rfl, hide_le _ _ q, r, k⟩
  · cases t with
    | dic q r k => exact ⟨_, _, _, _, rfl, q, r, k⟩
theorem BV.key {K : PySem.W.Frag} {Hh H : Hp} {v : V} {d : D} {k : NestedKey} (h : BV K Hh H v d) (hk : keyD d = some k) : Rep K Hh v d := by
  rcases h with h | ⟨a, rfl, t⟩
  · exact h
  · cases t <;> simp [keyD] at hk
def Asked (X : Cx) (es : List DK.Ent) (k : NestedKey) (y : V) (H : Hp) : Prop := (es.map (·.1)).Nodup ∧ ∃ b, ∀ pins σ s, L2.Inv X pins σ H s → DK.Ks b s.heap es ∧ DK.K1 b s.heap k y
theorem asked {X : Cx} {O : Addr → Prop} {H : Hp} {es : List DK.Ent} {ds : List (D × D)} {b : Bool} {k : NestedKey} {y : V} {d : D} (r : RepE X.K (hide O H) es ds) (q : Keys b es) (o : okKey ds k = true) (ry : Rep X.K (hide O H) y d) (hk : keyD d = some k) : Asked X es k y H := by
  obtain ⟨q', dp⟩ := q.ok r o
  exact ⟨q.nd, DK.flat k, fun pins σ s I => ⟨ents_ks I hide_le r q'.kind, rep_k1 I hide_le ry hk dp⟩⟩
def rTGet (X : Cx) : R2 := fun x y H Q => ∃ p o es k v, x = .ref p ∧ Rd H p (DK.tab p o es) ∧ Asked X es k y H ∧ DK.atE es k = some v ∧ Q v H
def rTIn (X : Cx) (neg : Bool) : R2 := fun y x H Q => ∃ p o es k, x = .ref p ∧ Rd H p (DK.tab p o es) ∧ Asked X es k y H ∧ Q (.bl (neg != (DK.atE es k).isSome)) H
section
variable {X : Cx}
theorem ix_tab (hu : X.A.units + 64 < cLine) : IxR X (rTGet X) := by
  intro value slice pins s σ H x y v u Q I rx ry h hs
  obtain ⟨p, ob, es, k, v', rfl, e, ⟨hn, b, hk⟩, l, q⟩ := h
  cases DK.ref_of rx
  obtain ⟨T, kk⟩ := hk _ _ _ I
  obtain ⟨_, _, _, _, ho, hc, _⟩ := DK.tab_at I e
  exact tail_any ⟨ob, ho, hc.1⟩ slot_dict_getitem.lookup (DK.t_get (by omega) I e T hn kk ry l fun w' s' I' rw' => ⟨v', H, I', rw', q⟩) hs
theorem op_tin (hu : X.A.units + 64 < cLine) : OpR X (compareOp .In) (rTIn X false) := by
  intro pins s σ H x y v u Q I rx ry h
  obtain ⟨p, ob, es, k, rfl, e, ⟨hn, b, hk⟩, q⟩ := h
  cases DK.ref_of ry
  obtain ⟨T, kk⟩ := hk _ _ _ I
  exact DK.t_in (by omega) I e T hn kk rx fun s' I' => ⟨.bl (DK.atE es k).isSome, H, I', rfl, by simpa using q⟩
theorem op_tnotIn (hu : X.A.units + 64 < cLine) : OpR X (compareOp .NotIn) (rTIn X true) := by
  intro pins s σ H x y v u Q I rx ry h
  obtain ⟨p, ob, es, k, rfl, e, ⟨hn, b, hk⟩, q⟩ := h
  cases DK.ref_of ry
  obtain ⟨T, kk⟩ := hk _ _ _ I
  exact DK.t_notIn (by omega) I e T hn kk rx fun s' I' => ⟨.bl (!(DK.atE es k).isSome), H, I', rfl, by simpa using q⟩
def rTSet (X : Cx) : TSet := fun o i v H Q => ∃ p ob es k, o = .ref p ∧ H p = some (DK.tab p ob es) ∧ Asked X es k i H ∧ es.length < sizeLine ∧ ∀ o', Q (upd H p (DK.tab p o' (DK.putE es k i v)))
theorem set_tab (hu : X.A.units + 64 < cLine) : PSet X (rTSet X) := by
  intro pins s σ H o i v ov iv u Q I ro ri rv h
  obtain ⟨p, ob, es, k, rfl, e, ⟨hn, b, hk⟩, hl, q⟩ := h
  cases DK.ref_of ro
  obtain ⟨T, kk⟩ := hk _ _ _ I
  exact DK.t_set (by omega) I e T hn kk ri rv hl fun s' o' I' => ⟨_, I', q o'⟩
/-! as data -/
def gIxD : D → D → Option D := fun x y => match x with
  | .dic ds => (keyD y).bind fun k => if okKey ds k then lookD ds k else none
  | _ => none
def gInD (neg : Bool) : D → D → Option D := fun y x => match x with
  | .dic ds => (keyD y).bind fun k => if okKey ds k then some (.bl (neg != (lookD ds k).isSome)) else none
  | _ => none
variable {a b e : Expr} {fa fb f : DE1} {pos : Pos}
theorem de_ixD (hu : X.A.units + 64 < cLine) (ha : DB X a fa) (hb : DB X b fb) (hs : PlainIx b := by exact fun _ _ => rfl) : DE X (.Subscript a b pos) (e2 gIxD fa fb) := PE.imp (pe_ix (ix_tab hu) ha hb hs) fun σ H Q ⟨O0, ow, ρ, S, d, e, k⟩ => by
  obtain ⟨p, q, ea, eb, eg⟩ := e2_some e
  refine ⟨O0, ow, ρ, S, p, ea, fun x H1 s1 r1 => ⟨O0, ow, ρ, S.same s1, q, eb, fun y H2 s2 r2 => ?_⟩⟩
  replace r1 := r1.same (hide_same s2) s2
  unfold gIxD at eg
  split at eg
  · rename_i ds
    rw [Option.bind_eq_some_iff] at eg
    obtain ⟨kk, ek, eg⟩ := eg
    split at eg
    · rename_i ok
      obtain ⟨l, ob, es, bb, rfl, hl, rs, qs⟩ := r1.dic
      have h := rep_at (k := kk) rs
      rw [eg] at h
      obtain ⟨v, hv, rv⟩ := h
      exact ⟨l, ob, es, kk, v, rfl, .inl hl, asked rs qs ok (r2.key ek) ek, hv, k v H2 (s1.trans s2) rv⟩
    · cases eg
  · cases eg
theorem in_D {neg : Bool} {O : Addr → Prop} {H : Hp} {x y : V} {p q d : D} {Q : VK} (hx : BV X.K (hide O H) H x p) (hy : BV X.K (hide O H) H y q) (e : gInD neg p q = some d) (c : ∀ v H', Same H H' → Rep X.K (hide O H') v d → Q v H') : rTIn X neg x y H Q := by
  unfold gInD at e
  split at e
  · rename_i ds
    rw [Option.bind_eq_some_iff] at e
    obtain ⟨kk, ek, eg⟩ := e
    split at eg
    · rename_i ok
      obtain ⟨l, ob, es, bb, rfl, hl, rs, qs⟩ := hy.dic
      have h := rep_at (k := kk) rs
      have he : (DK.atE es kk).isSome = (lookD ds kk).isSome := by
        split at h
        · rename_i d' h'
          obtain ⟨v', h1, _⟩ := h
          rw [h1, h']; rfl
        · rename_i h'
          rw [h, h']; rfl
      refine ⟨l, ob, es, kk, rfl, .inl hl, asked rs qs ok (hx.key ek) ek, ?_⟩
      rw [he]
      cases eg
      exact c _ _ (.refl _) (.bl _)
    · cases eg
  · cases e
theorem od_inD (hu : X.A.units + 64 < cLine) : OpD X (compareOp .In) (gInD false) := ⟨_, op_tin hu, fun O H x y p q d Q hx hy e c _ => in_D hx hy e c⟩
theorem od_notInD (hu : X.A.units + 64 < cLine) : OpD X (compareOp .NotIn) (gInD true) := ⟨_, op_tnotIn hu, fun O H x y p q d Q hx hy e c _ => in_D hx hy e c⟩
theorem df_dic0 : DF X (.Dict [] [] pos) (eC (.dic [])) := PE.imp DK.pe_tabNew fun σ H Q ⟨O0, ow, ρ, S, d, e, k⟩ => by
  cases e
  exact fun p o np => k _ _ (same_upd np) np (.dic (b := true) upd_same .nil ⟨List.nodup_nil, fun _ z => nomatch z⟩)
def gSetD (i : Nat) (fi f : DE1) : DS1 := fun ρ => match f ρ, fi ρ, ρ[i]? with
  | some d, some x, some (some (true, .dic ds)) => match keyD x with
    | some k => if okKey ds k = true ∧ ds.length < 1000 then .nx (ρ.set i (some (true, .dic (putDD ds x k d)))) else .stuck
    | none => .stuck
  | _, _, _ => .stuck
theorem ds_setD (hu : X.A.units + 64 < cLine) (i : Nat) {x : Str} {p1 spos tpos : Pos} {ie : Expr} {fi : DE1} (hv : PE X (.Name x p1) (tVar i)) (hi : DE X ie fi) (he : DE X e f)
    (h : PS X (.Assign [.Subscript (.Name x p1) ie tpos] e spos) (tAsg (tDE X.K f) (gSub (tVar i) (tDE X.K fi) (rTSet X)))) : DS X (.Assign [.Subscript (.Name x p1) ie tpos] e spos) (gSetD i fi f) := PS.imp h fun N σ H ⟨H0, O0, ρ, ⟨s, ow, S, hn⟩, p⟩ => by
  unfold gSetD at p
  split at p
  · rename_i d dx ds ef efi ei
    split at p
    · rename_i k hk
      split at p
      · rename_i ok
        obtain ⟨o, h1, l, hw, rfl, t⟩ := S.sl i _ ei
        cases t with
        | dic hL rs qs =>
          rename_i ob es b
          refine ⟨O0, ow, ρ, S, d, ef, fun v H1 s1 r1 => ⟨.ref l, h1, O0, ow, ρ, S.same s1, _, efi, fun vi H2 s2 r2 => ?_⟩⟩
          have s12 := s1.trans s2
          have hL1 := s12 _ _ hL
          have rs2 := rs.same (hide_same s12)
          have hlen : es.length = ds.length := by simpa using (congrArg List.length (repE_keys rs2)).symm
          have qk := qs.ok rs2 ok.1
          refine ⟨l, ob, es, k, rfl, hL1, asked rs2 qs ok.1 r2 hk, by have := small1000' (n := es.length) (by omega); have := ok.2; unfold sizeLine at *; omega, fun o' => p _ _ ⟨fun b u q => ?_, ow, (S.same s12).wr ei hw fun Hh sm => .dic upd_same ((rep_put rs2 r2 hk (r1.same (hide_same s2))).same sm) (qk.1.put rfl qk.2), hn⟩⟩
          have := hn i l hw
          rw [upd_ne (fun z => by subst z; rw [this] at q; cases q)]
          exact s12 _ _ (s _ _ q)
      · exact p.elim
    · exact p.elim
  · exact p.elim
end
end DL

set_option maxHeartbeats 4000000
/-! walks over tables: their keys; their pairs -/
namespace DK
open PySem PySem.Spec PyProof.Rows L2
theorem ents_get : ∀ {es : List Ent} {ds : List DictEntry} {i : Nat} {e : Ent}, Paired EntOk es ds → es[i]? = some e → ∃ d, ds[i]? = some d ∧ EntOk e d
  | _, _, _, _, .nil, h => by simp at h
  | _, _, 0, _, .cons r _, h => by simp at h; subst h; exact ⟨_, rfl, r⟩
  | _, _, i + 1, e, .cons _ t, h => by
    obtain ⟨d, g1, g2⟩ := ents_get (i := i) (e := e) t (by simpa using h)
    exact ⟨d, by simpa using g1, g2⟩
/-- the keys of the table -/
def ItK (d : Addr) (o : Obj) (es : List Ent) : It where
  go := fun i H => H d = some (tab d o es) ∧ i < es.length
  yld := fun i H x H' => H' = H ∧ ∃ e, es[i]? = some e ∧ x = e.2.1
  stop := fun i H => H d = some (tab d o es) ∧ es.length ≤ i
/-- the pairs of the table, in tuples that are made for it -/
def ItP (d : Addr) (o : Obj) (es : List Ent) : It where
  go := fun i H => H d = some (tab d o es) ∧ i < es.length
  yld := fun i H x H' => ∃ T e, es[i]? = some e ∧ x = .ref T ∧ H T = none ∧ H' = upd H T (.tup [e.2.1, e.2.2])
  stop := fun i H => H d = some (tab d o es) ∧ es.length ≤ i
/-- what a table's place tells of its object -/
structure Lies (h : Heap) (d : Addr) (o : Obj) (ds : Array DictEntry) (ep : Nat) (es : List Ent) : Prop where
  sys : (d == sysModules) = false
  obj : h.get? d = some o
  exact : o.ExactDict
  data : o.data = .dict ds ep
  size : ds.size = es.length
  row : ∀ i e, es[i]? = some e → ∃ hi : i < ds.size, EntOk e ds[i]
theorem Lies.raw {h : Heap} {d : Addr} {o : Obj} {ds : Array DictEntry} {ep : Nat} {es : List Ent} (l : Lies h d o ds ep es) : h.DictRaw d ds ep := ⟨o, l.obj, l.exact, l.data⟩
theorem tab_lies {h : Heap} {d : Addr} {o : Obj} {es : List Ent} (t : TabP d o es h) : ∃ ds ep, Lies h d o ds ep es := by
  obtain ⟨_, y, ds, ep, g, x, dt, p⟩ := t
  have n : ds.size = es.length := by rw [← Array.length_toList]; exact (Paired.length p).symm
  refine ⟨ds, ep, y, g, x, dt, n, fun i e he => ?_⟩
  obtain ⟨en, h1, h2⟩ := ents_get p he
  rw [Array.getElem?_toList] at h1
  obtain ⟨hi, rfl⟩ := Array.getElem?_eq_some_iff.mp h1
  exact ⟨hi, h2⟩
section
variable {X : Cx} {pins : List (Addr × Obj)} {σ : L2.St} {H : Hp} {s : Shared} {d it : Addr} {o : Obj} {ds : Array DictEntry} {ep : Nat} {es : List Ent}
theorem lies (I : L2.Inv X pins σ H s) (hd : H d = some (tab d o es)) (hod : o.data = .dict ds ep) : Lies s.heap d o ds ep es := by
  obtain ⟨ds', ep', l⟩ := tab_lies (tab_at I (.inl hd))
  have z := l.data
  rw [hod] at z
  injection z with z1 z2
  subst z1 z2
  exact l
/-- only the iterator has moved -/
theorem moved (I : L2.Inv X pins σ H s) (f : FpOk X pins H it) {h' : Heap} (k : ∀ b q, b ≠ it → s.heap.get? b = some q → h'.get? b = some q) : L2.Inv X pins σ H { s with heap := h' } :=
  have ⟨a0, a1, a2, a3, a4, a5⟩ := f
  I.turned (t' := s.toks) k a0 a1 a3 a4 a5
end
section
variable {P : Program} {w : World} {K : PySem.W.Frag} {tg : Expr} {d : Addr} {o : Obj} {ds : Array DictEntry} {ep : Nat} {es : List Ent}
theorem mem_one {b it : Addr} (h : b ∈ [it]) : b = it := List.mem_singleton.mp h
theorem turn_tkeys (it : Addr) (hod : o.data = .dict ds ep) : Turn P w K tg (ItK d o es) [it] it fun i h => h.IsKeyIter it d i es.length ep := by
  refine ⟨List.mem_singleton.mpr rfl, fun i h st b hb => ?_, fun i h h' st k => st.at fun q z => k it (List.mem_singleton.mpr rfl) q z, ?_, ?_, fun A i s Q E st q => wpAny_pyIter_keyiter st q⟩
  · cases mem_one hb
    obtain ⟨q, g, _, dt⟩ := st
    exact ⟨q, g, fun v z => nomatch dt.symm.trans z⟩
  · rintro X rfl rfl rfl hc i pins s σ H E I hf st ⟨hd, hi⟩
    have l := lies I hd hod
    have f := hf it (List.mem_singleton.mpr rfl)
    obtain ⟨e, he⟩ : ∃ e, es[i]? = some e := ⟨_, List.getElem?_eq_getElem hi⟩
    obtain ⟨hs, r⟩ := l.row i e he
    refine next_key_item st l.obj l.data l.size (Array.getElem?_eq_getElem hs) fun h' st' sb => ⟨_, rfl, ?_⟩
    have ⟨q, g, cq, dq⟩ := st'
    exact go_of (s := { s with heap := h' }) g cq dq (by decide) ⟨e.2.1, H, moved I f fun b q hb z => (sb.2 b hb).trans z, r.2.1, ⟨rfl, e, he, rfl⟩, st', fun b hb => (hf b hb).1⟩
  · rintro X rfl rfl rfl hc i pins s σ H E I hf st ⟨hd, hi⟩
    have l := lies I hd hod
    exact next_key_end (I.ok.hd hc) st l.obj l.data l.size hi fun h' eb => ⟨rfl, moved I (hf it (List.mem_singleton.mpr rfl)) fun b q hb z => eb b q hb z⟩
theorem turn_titems {elts : List Expr} {kk : Nat} {tpos : Pos} (it : Addr) (hod : o.data = .dict ds ep) :
    Turn P w K (.Tuple elts kk tpos) (ItP d o es) [it] it fun i h => ∃ a b, IsItemIter h it d i es.length ep a b := by
  refine ⟨List.mem_singleton.mpr rfl, fun i h st b hb => ?_, fun i h h' ⟨a, c, z⟩ k => ⟨a, c, k it (List.mem_singleton.mpr rfl) _ z⟩, ?_, ?_, fun A i s Q E ⟨_, _, z⟩ q => PySem.W.kcp_self z q⟩
  · cases mem_one hb
    obtain ⟨a, c, z⟩ := st
    exact ⟨_, z, fun v y => nomatch y⟩
  · rintro X rfl rfl rfl hc i pins s σ H E I hf ⟨a, c, hit⟩ ⟨hd, hi⟩
    have l := lies I hd hod
    obtain ⟨e, he⟩ : ∃ e, es[i]? = some e := ⟨_, List.getElem?_eq_getElem hi⟩
    obtain ⟨hs, r⟩ := l.row i e he
    rw [← l.size] at hit
    have low : it < s.heap.objs.size := Heap.lt_size hit
    refine wpAny_pyNext_items_item_raw hit l.raw hs fun h1 out hT _ k1 => ⟨_, rfl, wpAny_letOwnedTupleGo_items (s := { s with heap := h1 }) out fun h2 inn sb => ?_⟩
    have new : ObjOk X.prog X.w (upd H s.heap.objs.size (.tup [e.2.1, e.2.2])) h2 s.heap.objs.size (.tup [e.2.1, e.2.2]) :=
      ⟨(by decide : 2 ≤ sizeLine), [ds[i].key, ds[i].val], .cons r.2.1 (.cons r.2.2 .nil), _, (sb.2 _ (Nat.ne_of_gt low)).trans hT, rfl, _, rfl⟩
    refine ⟨.ref s.heap.objs.size, _, I.turnedNew (t' := s.toks) (ch := [it]) (fun b q hb z => ?_) hf (Nat.le_refl _) new, rfl, ⟨_, e, he, rfl, I.hok.fresh (Nat.le_refl _), rfl⟩, ⟨_, _, by rw [← l.size]; exact inn⟩, fun b hb => ?_⟩
    · have hb' : b ≠ it := fun y => hb (List.mem_singleton.mpr y)
      exact (sb.2 b hb').trans (k1 b q hb' z)
    · cases mem_one hb
      rw [upd_ne (Nat.ne_of_lt low)]
      exact (hf it (List.mem_singleton.mpr rfl)).1
  · rintro X rfl rfl rfl hc i pins s σ H E I hf ⟨a, c, hit⟩ ⟨hd, hi⟩
    have l := lies I hd hod
    rw [← l.size] at hit hi
    exact wpAny_pyNext_items_end_raw (I.ok.hd hc) hit l.raw hi fun h' eb => ⟨rfl, moved I (hf it (List.mem_singleton.mpr rfl)) fun b q hb z => eb b q hb z⟩
end
/-! for k in d; for k, v in d.items() -/
def iKeysT (td : TE) : TI := fun σ H R => td σ H fun x H1 => ∃ d o es, x = .ref d ∧ H1 d = some (tab d o es) ∧ R (ItK d o es) H1
def iItemsT (td : TE) : TI := fun σ H R => td σ H fun x H1 => ∃ d o es, x = .ref d ∧ H1 d = some (tab d o es) ∧ R (ItP d o es) H1
section
variable {X : Cx} {tg e : Expr} {td : TE} {ap cp : Pos}
theorem pi_tkeys (he : PE X e td) : PI X tg e (iKeysT td) := ⟨fun pins s σ H R I h => thn (he.run pins s σ H _ I h) fun u s1 ⟨x, H1, I1, rx, d, o, es, ex, hd, q⟩ => by
  subst ex
  cases ref_of rx
  obtain ⟨ds, ep, l⟩ := tab_lies (tab_at I1 (.inl hd))
  refine iter_keys l.sys l.obj l.exact l.data (pi_one (tk := s1.toks) I1 _ (turn_tkeys _ l.data) ⟨_, Heap.get?_push_size _ rfl, rfl, ?_⟩ q)
  rw [l.size] <;> rfl⟩
theorem pi_titems {elts : List Expr} {kk : Nat} {tp : Pos} (he : PE X e td) (hbase : attributeBase e "items" X.env (eval e X.env) = eval e X.env := by rfl) (hline : (ap.endLine == cp.line) = true := by rfl) :
    PI X (.Tuple elts kk tp) (.Call (.Attribute e "items" ap) [] [] cp) (iItemsT td) := ⟨fun pins s σ H R I h =>
  wpAny_Call_method (T := "dict") (id := "dict.items") hbase rfl hline F.plainAttrs_dict F.slot_dict_items F.type_dict_items (thn (he.run pins s σ H _ I h) fun u s1 ⟨x, H1, I1, rx, d, o, es, ex, hd, q⟩ => by
  subst ex
  cases ref_of rx
  obtain ⟨ds, ep, l⟩ := tab_lies (tab_at I1 (.inl hd))
  refine ⟨l.raw.typeIs, fun b z => by cases z; exact ⟨o, l.obj, l.exact.2.1⟩, ?_⟩
  generalize hv : ({ cls := .type "dict_items", data := .fields #[.ref d] } : Obj) = view
  have I2 : L2.Inv X pins σ H1 { s1 with heap := s1.heap.push view } := I1.kept (t' := s1.toks) fun b q z => Heap.get?_push_of_some _ z
  refine (show wpAny _ _ (callWith cp (.builtin "dict.items") [.ref d] [] []) _ X.xe s1 from method_meetsIn F.slot_dict_items F.entry_dict_items rfl (PySem.evalArgs_none ⟨rfl, l.raw.typeIs, F.args_dict_items_1 _, _, meets_dict_items_raw d l.sys, ⟨⟨ds, ep, l.raw⟩, ?_⟩⟩))
  rw [hv]
  have vw : (s1.heap.push view).IsItemsView s1.heap.objs.size d := by subst hv; exact ⟨_, Heap.get?_push_size _ rfl, rfl, rfl⟩
  refine wpAny_pyIter_items_raw (s := { s1 with heap := s1.heap.push view }) vw (l.raw.at fun q z => Heap.get?_push_of_some _ z) (pi_one (tk := s1.toks) I2 _ (turn_titems _ l.data) ⟨.none, .none, ?_⟩ q)
  rw [← l.size]
  exact Heap.get?_push_size _ rfl)⟩
end
end DK

set_option maxHeartbeats 4000000
namespace DL
open PySem PySem.Spec PyProof.Rows L2
variable [CT]
/-! ### walks over dicts -/
section
variable {K : PySem.W.Frag} {H : Hp}
theorem repE_get : ∀ {es : List DK.Ent} {ds : List (D × D)} {i : Nat} {p : D × D}, RepE K H es ds → ds[i]? = some p → ∃ e, es[i]? = some e ∧ keyD p.1 = some e.1 ∧ Rep K H e.2.1 p.1 ∧ Rep K H e.2.2 p.2
  | _, _, _, _, .nil, h => by simp at h
  | _, _, 0, _, .cons hk r q _, h => by simp at h; subst h; exact ⟨_, rfl, hk, r, q⟩
  | _, _, i + 1, p, .cons _ _ _ t, h => by
    obtain ⟨e, h1, h2⟩ := repE_get (i := i) (p := p) t (by simpa using h)
    exact ⟨e, by simpa using h1, h2⟩
theorem repE_len {es : List DK.Ent} {ds : List (D × D)} (h : RepE K H es ds) : es.length = ds.length := by simpa using (congrArg List.length (repE_keys h)).symm
end
section
variable {X : Cx} {tg e : Expr} {f : DE1} {apos cpos tpos : Pos}
def iKD (f : DE1) : DEnv → Option (List D) := fun ρ => match f ρ with
  | some (.dic ds) => some (ds.map (·.1))
  | _ => none
def iPD (f : DE1) : DEnv → Option (List D) := fun ρ => match f ρ with
  | some (.dic ds) => some (ds.map fun p => .tup [p.1, p.2])
  | _ => none
theorem di_keysD (h : DE X e f) : DI X tg e (iKD f) := PI.imp (DK.pi_tkeys h) fun σ H R ⟨O0, ow, ρ, S, ds, q, k⟩ => by
  unfold iKD at q
  split at q
  · rename_i ds' ef
    cases q
    refine ⟨O0, ow, ρ, S, _, ef, fun v H1 s r => ?_⟩
    cases r with
    | dic sq rs kq =>
      rename_i a o es b
      have ln := repE_len rs
      refine ⟨a, o, es, rfl, hide_le _ _ sq, k _ H1 s ⟨fun H2 e2 => ⟨e2 _ _ sq, by rw [List.length_map]; omega⟩, fun i d H2 e2 hd => ?_, fun i d H2 x H3 e2 hd y => ?_⟩⟩
      · rw [List.getElem?_map] at hd
        obtain ⟨p, hp, _⟩ := Option.map_eq_some_iff.mp hd
        obtain ⟨hi, _⟩ := List.getElem?_eq_some_iff.mp hp
        exact ⟨e2 _ _ sq, by omega⟩
      · rw [List.getElem?_map] at hd
        obtain ⟨p, hp, rfl⟩ := Option.map_eq_some_iff.mp hd
        obtain ⟨en, he, _, r1, _⟩ := repE_get rs hp
        obtain ⟨rfl, e', he', rfl⟩ := y
        rw [he] at he'; cases he'
        exact ⟨.refl _, fun O' h1 h2 => r1.same (keepO e2 h1)⟩
  · cases q
theorem di_itemsD {elts : List Expr} {kk : Nat} (h : DE X e f) (hbase : attributeBase e "items" X.env (eval e X.env) = eval e X.env := by rfl) (hline : (apos.endLine == cpos.line) = true := by rfl) :
    DI X (.Tuple elts kk tpos) (.Call (.Attribute e "items" apos) [] [] cpos) (iPD f) := PI.imp (DK.pi_titems h hbase hline) fun σ H R ⟨O0, ow, ρ, S, ds, q, k⟩ => by
  unfold iPD at q
  split at q
  · rename_i ds' ef
    cases q
    refine ⟨O0, ow, ρ, S, _, ef, fun v H1 s r => ?_⟩
    cases r with
    | dic sq rs kq =>
      rename_i a o es b
      have ln := repE_len rs
      refine ⟨a, o, es, rfl, hide_le _ _ sq, k _ H1 s ⟨fun H2 e2 => ⟨e2 _ _ sq, by rw [List.length_map]; omega⟩, fun i d H2 e2 hd => ?_, fun i d H2 x H3 e2 hd y => ?_⟩⟩
      · rw [List.getElem?_map] at hd
        obtain ⟨p, hp, _⟩ := Option.map_eq_some_iff.mp hd
        obtain ⟨hi, _⟩ := List.getElem?_eq_some_iff.mp hp
        exact ⟨e2 _ _ sq, by omega⟩
      · rw [List.getElem?_map] at hd
        obtain ⟨p, hp, rfl⟩ := Option.map_eq_some_iff.mp hd
        obtain ⟨en, he, _, r1, r2⟩ := repE_get rs hp
        obtain ⟨T, e', he', rfl, nT, rfl⟩ := y
        rw [he] at he'; cases he'
        exact ⟨same_upd nT, fun O' h1 h2 => pair_rep e2 nT h1 h2 r1 r2⟩
  · cases q
end
end DL

set_option maxHeartbeats 4000000
namespace DK
open PySem PySem.Spec PyProof.Rows L2
section
variable {X : Cx} {pins : List (Addr × Obj)} {σ : L2.St} {H : Hp} {s : Shared} {a : Addr} {o : Obj} {es : List Ent} {k : NestedKey} {kv v : V} {u r : Value} {A : Around} {E : Value → Shared → Prop} {b : Bool}
theorem t_dset {Q : Unit → Shared → Prop} (hu : A.units + 9 < cLine) (I : L2.Inv X pins σ H s) (e : H a = some (tab a o es)) (T : Ks b s.heap es) (hn : (es.map (·.1)).Nodup) (kk : K1 b s.heap k kv) (ry : RelV kv u) (rv : RelV v r) (hl : es.length < sizeLine)
    (h : ∀ s' o', L2.Inv X pins σ (upd H a (tab a o' (putE es k kv v))) s' → Q () s') : wpAny (model X.prog X.w) A (dictSet a u r) Q E s := by
  have t := tab_at I (.inl e)
  obtain ⟨z, y, _, _, _⟩ := id t
  have hz := putE_len es k kv v
  have mu : Mut (H a) := by rw [e]; exact True.intro
  cases b with
  | true =>
    obtain ⟨fk, rfl⟩ := kk
    obtain ⟨vs, dd, rel⟩ := dictOf (P := X.prog) (w := X.w) t T.flat hn
    have hv : vs.length ≤ sizeLine := by rw [← rel.length]; unfold okv; rw [List.length_map]; omega
    refine wpAny_dictSet_pairs (hsz := hv) (flat_is fk ry) dd fun h' dd' hs => ?_
    have he : ∃ q, h'.get? a = some q := let ⟨q, _, _, hq, _⟩ := dd'; ⟨q, hq⟩
    have F' : Flat (putE es k (vK k) v) := fun x hx => Ks.put (b := true) T ⟨fk, rfl⟩ x hx
    obtain ⟨o', t'⟩ := tab_of (by omega) y F' dd' (by rw [flat_put T.flat fk]; exact rel.put _ rv)
    exact h _ o' (d_write I mu hs he (tab_obj t'))
  | false =>
    obtain ⟨p, rfl, n, dp, pl⟩ := kk
    cases ref_of ry
    obtain ⟨xs, dd, rel⟩ := dictOfH (P := X.prog) (w := X.w) t T hn
    have hv : xs.length ≤ sizeLine := by rw [← Paired.length rel]; omega
    refine wpAny_dictSet_heap (knd := nestedKind X.prog X.w) (k := k) (hsz := hv) (show A.units + 8 < cLine by omega) ⟨n, dp⟩ dd fun h' dd' hs => ?_
    obtain ⟨q, ds, ep, hq, h2, h3, h4, _, h5⟩ := dd'
    refine h _ q (d_write I mu hs ⟨q, hq⟩ (tab_obj ⟨by omega, y, ds, ep, hq, h2, h3, ?_⟩))
    rw [h4]
    exact tab_back (fun x hx => Ks.put (b := false) T ⟨p, rfl, n, dp, pl⟩ x hx) (ex_put rel k rv)

def Ask (X : Cx) (es : List Ent) (k : NestedKey) (y : V) (H : Hp) : Prop := (es.map (·.1)).Nodup ∧ ∃ b, ∀ pins σ s, L2.Inv X pins σ H s → Ks b s.heap es ∧ K1 b s.heap k y
/-- the pairs are stored, one after another -/
def Stores (X : Cx) (p : Addr) : List (V × V) → Hp → (Hp → Prop) → Prop
  | [], H, Q => Q H
  | (x, y) :: r, H, Q => ∃ o es k, H p = some (tab p o es) ∧ Ask X es k x H ∧ es.length < sizeLine ∧ ∀ o', Stores X p r (upd H p (tab p o' (putE es k x y))) Q
theorem store_all (hu : A.units + 9 < cLine) : ∀ {ps : List (V × V)} {vs : List (Value × Value)} {H : Hp} {s : Shared} {Q : Hp → Prop} {R : PUnit → Shared → Prop}, L2.Inv X pins σ H s → VV ps vs → Stores X a ps H Q → (∀ H' s', L2.Inv X pins σ H' s' → Q H' → R PUnit.unit s') →
    wpAny (model X.prog X.w) A (forIn vs PUnit.unit fun (x : Value × Value) (_ : PUnit) => (do dictSet a x.1 x.2; pure (ForInStep.yield PUnit.unit) : Sem (ForInStep PUnit))) R E s
  | [], _, H, s, Q, R, I, .nil, q, k => by
    rw [List.forIn_nil]
    exact wpAny_pure (k H s I q)
  | (x, y) :: ps, _, H, s, Q, R, I, .cons (b := v) h t, q, k => by
    obtain ⟨o, es, kk, e, ⟨hn, b, hk⟩, hl, q⟩ := q
    obtain ⟨T, k1⟩ := hk _ _ _ I
    rw [List.forIn_cons]
    refine wpAny_bind (wpAny_bind (t_dset (b := b) hu I e T hn k1 h.1 h.2 hl fun s' o' I' => wpAny_pure ?_))
    exact store_all hu I' t (q o') k
end
section
variable {X : Cx} {pos : Pos}
def tDispT (X : Cx) (trs : List (TE × TE)) : TE := fun σ H Q => ∀ p o, H p = none → tPairs trs σ (upd H p (tab p o [])) fun ps H2 => Stores X p ps H2 fun H3 => Q (.ref p) H3
theorem pe_tdisp {keys : List (Option Expr)} {values : List Expr} {trs : List (TE × TE)} (hu : X.A.units + 64 < cLine) (h : PPs X pos keys values trs) (hall : keys.all (·.isSome) = true) (hl : keys.length = values.length) (h0 : keys ≠ [])
    (h15 : keys.length ≤ 15) : PE X (.Dict keys values pos) (tDispT X trs) := by
  refine ⟨fun pins s σ H Q I q => ?_⟩
  have hn := I.hok.fresh (Nat.le_refl s.heap.objs.size)
  have I1 := I.laid (a := s.heap.objs.size) (o := tab s.heap.objs.size { cls := .type "dict", data := .dict #[] } []) (h' := s.heap.push { cls := .type "dict", data := .dict #[] }) (t' := s.toks) (fun _ _ q => Heap.get?_push_of_some _ q) (Nat.le_refl _) (tab_obj (tab_empty s.heap I.big))
  have hp := pairTrees_length keys values X.env pos hall hl
  rw [arm_eval_Dict, zip_pairTrees keys values X.env pos hall hl, dictDisplay_pairs (pairTrees keys values X.env pos) (fun he => h0 (List.length_eq_zero_iff.mp (by rw [he] at hp; exact hp.symm))) (by rw [hp]; omega)]
  refine wpAny_bind (wpAny_standAt (wpAny_bind ?_))
  unfold subDict
  refine wpAny_bind (wpAny_alloc ?_)
  refine wpAny_bind (wpAny_holding ?_)
  rw [if_pos (by rw [hp]; exact h15)]
  refine wpAny_bind (wpAny_mono (h.run pins _ σ _ _ I1 (q _ _ hn)) (fun ws s2 h2 => ?_) fun _ _ e => e)
  obtain ⟨ps, H2, I2, rel, q2⟩ := h2
  refine wpAny_holding ?_
  exact wpAny_bind (store_all (by omega) I2 rel q2 fun H3 s3 I3 q3 => wpAny_pure (wpAny_pure (wpAny_pure ⟨.ref s.heap.objs.size, H3, I3, rfl, q3⟩)))
end
end DK

set_option maxHeartbeats 4000000
namespace DL
open PySem PySem.Spec PyProof.Rows L2
variable [CT]
/-! ### {k: v, ..} -/
abbrev RepP (K : PySem.W.Frag) (H : Hp) : List (V × V) → List (D × D) → Prop := Paired fun v p => Rep K H v.1 p.1 ∧ Rep K H v.2 p.2
theorem RepP.same {K : PySem.W.Frag} {H H' : Hp} (e : Same H H') {vs : List (V × V)} {ps : List (D × D)} (h : RepP K H vs ps) : RepP K H' vs ps := Paired.mapP h fun _ _ z => ⟨z.1.same e, z.2.same e⟩
def tDPs (K : PySem.W.Frag) (gs : DEnv → Option (List (D × D))) (σ : L2.St) (H : Hp) (Q : List (V × V) → Hp → Prop) : Prop := ∃ O0 ow ρ, Sl K O0 H σ ρ ow ∧ ∃ ps, gs ρ = some ps ∧ ∀ vs H', Same H H' → RepP K (hide (hid O0 ow) H') vs ps → Q vs H'
def DPs (X : Cx) (pos : Pos) (keys : List (Option Expr)) (values : List Expr) (gs : DEnv → Option (List (D × D))) : Prop := ∃ trs, PPs X pos keys values trs ∧ ∀ σ H Q, tDPs X.K gs σ H Q → tPairs trs σ H Q
def pNil : DEnv → Option (List (D × D)) := fun _ => some []
def pCons (fk fv : DE1) (gs : DEnv → Option (List (D × D))) : DEnv → Option (List (D × D)) := fun ρ => (fk ρ).bind fun x => (fv ρ).bind fun y => (gs ρ).map ((x, y) :: ·)
section
variable {X : Cx} {pos : Pos} {keys : List (Option Expr)} {values : List Expr} {gs : DEnv → Option (List (D × D))} {k v : Expr} {fk fv : DE1}
theorem dps_nil : DPs X pos [] [] pNil := ⟨[], pps_nil, fun σ H Q ⟨O0, ow, ρ, S, ps, e, q⟩ => by cases e; exact q _ _ (.refl _) .nil⟩
theorem dps_cons (hk : DE X k fk) (hv : DE X v fv) (hr : DPs X pos keys values gs) : DPs X pos (some k :: keys) (v :: values) (pCons fk fv gs) := by
  obtain ⟨trs, h, t⟩ := hr
  refine ⟨_, pps_cons hk hv h, fun σ H Q ⟨O0, ow, ρ, S, ps, e, q⟩ => ?_⟩
  unfold pCons at e
  simp only [Option.bind_eq_some_iff, Option.map_eq_some_iff] at e
  obtain ⟨x, ex, y, ey, r, er, rfl⟩ := e
  exact ⟨O0, ow, ρ, S, x, ex, fun vx H1 s1 r1 => ⟨O0, ow, ρ, S.same s1, y, ey, fun vy H2 s2 r2 => t _ _ _ ⟨O0, ow, ρ, S.same (s1.trans s2), r, er, fun vs H3 s3 r3 => q _ H3 ((s1.trans s2).trans s3) (.cons ⟨r1.same (hide_same (s2.trans s3)), r2.same (hide_same s3)⟩ r3)⟩⟩⟩
end
def storeD : List (D × D) → List (D × D) → Option (List (D × D))
  | [], acc => some acc
  | (x, d) :: r, acc => match keyD x with
    | some k => if okKey acc k = true ∧ acc.length < 1000 then storeD r (putDD acc x k d) else none
    | none => none
theorem Sl.fresh {K : PySem.W.Frag} {O0 : Addr → Prop} {H : Hp} {σ : L2.St} {ρ : DEnv} {ow : Nat → Option Addr} {p : Addr} {o : HO} (S : Sl K O0 H σ ρ ow) (n : H p = none) : Sl K (fun b => O0 b ∨ b = p) (upd H p o) σ ρ ow := by
  have own : ∀ i a, ow i = some a → a ≠ p := fun i a h z => by
    subst z
    obtain ⟨o, q⟩ := S.trk a (.inr ⟨i, h⟩)
    rw [n] at q; cases q
  have e : Same (hide (hid O0 ow) H) (hide (hid (fun b => O0 b ∨ b = p) ow) (upd H p o)) := fun b u q => by
    rw [hide_some] at q ⊢
    have hb : b ≠ p := fun z => by subst z; rw [n] at q; cases q.2
    refine ⟨fun z => ?_, by rw [upd_ne hb]; exact q.2⟩
    rcases z with (z | z) | z
    · exact q.1 (.inl z)
    · exact hb z
    · exact q.1 (.inr z)
  refine ⟨S.len, S.inj, fun i a h z => ?_, fun a z => ?_, fun i s h => ?_⟩
  · rcases z with z | z
    · exact S.out i a h z
    · exact own i a h z
  · by_cases hp : a = p
    · subst hp; exact ⟨o, upd_same⟩
    · have : hid O0 ow a := by
        rcases z with (z | z) | z
        · exact .inl z
        · exact absurd z hp
        · exact .inr z
      obtain ⟨u, q⟩ := S.trk a this
      exact ⟨u, by rw [upd_ne hp]; exact q⟩
  · obtain ⟨u, h1, h2⟩ := S.sl i s h
    refine ⟨u, h1, ?_⟩
    match s, h2 with
    | none, _ => trivial
    | some (false, d), ⟨v, e1, r⟩ => exact ⟨v, e1, r.same e⟩
    | some (true, d), ⟨a, e1, e2, t⟩ => exact ⟨a, e1, e2, t.same e (upd_ne (own i a e1))⟩
section
variable {X : Cx}
theorem stores_of {p : Addr} {O : Addr → Prop} (hO : O p) : ∀ {ps : List (D × D)} {vs : List (V × V)} {acc ds : List (D × D)} {H : Hp} {o : Obj} {es : List DK.Ent} {b : Bool} {Q : Hp → Prop}, RepP X.K (hide O H) vs ps → H p = some (DK.tab p o es) → RepE X.K (hide O H) es acc → Keys b es → storeD ps acc = some ds →
    (∀ H3, (∀ c, c ≠ p → H3 c = H c) → TopR X.K (hide O H3) H3 p (.dic ds) → Q H3) → DK.Stores X p vs H Q
  | [], _, acc, ds, H, o, es, b, Q, .nil, hp, re, kq, e, q => by
    simp only [storeD, Option.some.injEq] at e
    subst e
    exact q H (fun _ _ => rfl) (.dic hp re kq)
  | (x, d) :: ps, _, acc, ds, H, o, es, b, Q, .cons (a := v) r t, hp, re, kq, e, q => by
    rw [storeD] at e
    split at e
    · rename_i k hk
      split at e
      · rename_i ok
        have hl := repE_len re
        obtain ⟨k1, k2⟩ := kq.ok re ok.1
        refine ⟨o, es, k, hp, asked re kq ok.1 r.1 hk, by have := small1000' (n := es.length) (by omega); have := ok.2; unfold sizeLine at *; omega, fun o' => ?_⟩
        have sm : Same (hide O H) (hide O (upd H p (DK.tab p o' (DK.putE es k v.1 v.2)))) := hide_upd hO
        refine stores_of hO (RepP.same sm t) upd_same ((rep_put re r.1 hk r.2).same sm) (k1.put rfl k2) e fun H3 h3 tt => q H3 (fun c hc => by rw [h3 c hc, upd_ne hc]) tt
      · cases e
    · cases e
def eDisp (gs : DEnv → Option (List (D × D))) : DE1 := fun ρ => (gs ρ).bind fun ps => (storeD ps []).map .dic
theorem df_disp {pos : Pos} {keys : List (Option Expr)} {values : List Expr} {gs : DEnv → Option (List (D × D))} (hu : X.A.units + 64 < cLine) (h : DPs X pos keys values gs) (hall : keys.all (·.isSome) = true := by rfl) (hl : keys.length = values.length := by rfl) (h0 : keys ≠ [] := by exact fun z => nomatch z) (h15 : keys.length ≤ 15 := by decide) :
    DF X (.Dict keys values pos) (eDisp gs) := by
  obtain ⟨trs, hp, t⟩ := h
  refine PE.imp (DK.pe_tdisp hu hp hall hl h0 h15) fun σ H Q ⟨O0, ow, ρ, S, d, e, k⟩ => ?_
  unfold eDisp at e
  simp only [Option.bind_eq_some_iff, Option.map_eq_some_iff] at e
  obtain ⟨ps, e1, ds, e2, rfl⟩ := e
  intro p o np
  refine t _ _ _ ⟨_, ow, ρ, S.fresh np, ps, e1, fun vs H2 s2 rp => ?_⟩
  have hp2 := s2 _ _ (upd_same (H := H) (a := p))
  refine stores_of (O := hid (fun b => O0 b ∨ b = p) ow) (.inl (.inr rfl)) rp hp2 .nil (b := true) ⟨List.nodup_nil, fun _ z => nomatch z⟩ e2 fun H3 h3 tt => k p H3 (fun c u hc => ?_) np (tt.same (hide_sub fun c z => ?_) rfl)
  · have hcp : c ≠ p := fun z => by subst z; rw [np] at hc; cases hc
    rw [h3 c hcp]
    exact s2 _ _ (same_upd np _ _ hc)
  · rcases z with (z | z) | z
    · exact .inl (.inl z)
    · exact .inr z
    · exact .inl (.inr z)
end
end DL

set_option maxHeartbeats 4000000
namespace DL
open PySem PySem.Spec PyProof.Rows L2
variable [CT]
/-! ### len of a dict -/
section
variable {X : Cx}
def rTLen (X : Cx) : List V → Hp → VK → Prop := fun xs H Q => ∃ p o es, xs = [.ref p] ∧ H p = some (DK.tab p o es) ∧ es.length ≤ 1000 ∧ (es.map (·.1)).Nodup ∧ (∃ b, ∀ pins σ s, L2.Inv X pins σ H s → DK.Ks b s.heap es) ∧ Q (.int es.length) H
theorem call_lenT : CallR X (.builtin "len") (rTLen X) := fun pins s σ H xs us Q I r ⟨p, o, es, hx, e, hz, hn, ⟨b, hk⟩, q⟩ => by
  subst hx
  obtain ⟨u, rfl, ru⟩ := vals1 r
  cases DK.ref_of ru
  have t := DK.tab_at I (.inl e)
  have T := hk _ _ _ I
  cases b with
  | true =>
    obtain ⟨vs, dd, rel⟩ := DK.dictOf (P := X.prog) (w := X.w) t T.flat hn
    have n : vs.length = es.length := by rw [← rel.length]; unfold DK.okv; rw [List.length_map]
    exact call_len_dict t.2.1 dd (by rw [n]; omega) ⟨.int es.length, H, I.tok _, ⟨_, by rw [n]⟩, q⟩
  | false =>
    obtain ⟨ys, dd, rel⟩ := DK.dictOfH (P := X.prog) (w := X.w) t T hn
    have n : ys.length = es.length := (Paired.length rel).symm
    exact call_len_dictH t.2.1 dd (by rw [n]; omega) ⟨.int es.length, H, I.tok _, ⟨_, by rw [n]⟩, q⟩
def gLenD : List D → Option D
  | [.dic ds] => if ds.length ≤ 1000 then some (.int ds.length) else none
  | _ => none
theorem cd_lenD : CallD X (.builtin "len") gLenD := ⟨_, call_lenT, fun O H xs ds d Q r e k _ => by
  unfold gLenD at e
  split at e
  · split at e
    · rename_i kvs hz
      cases e
      obtain ⟨v, rfl, h⟩ := r.one
      obtain ⟨p, o, es, b, rfl, hp, re, kq⟩ := h.dic
      have n := repE_len re
      exact ⟨p, o, es, rfl, hp, by omega, kq.nd, ⟨b, fun pins σ s I => ents_ks I hide_le re kq.kind⟩, k _ _ (.refl _) (by rw [n]; exact .int _)⟩
    · cases e
  · cases e⟩
end

/-! ### list(d) -/
section
variable {X : Cx}
theorem paired_at {α β : Type} {F : α → β → Prop} : ∀ {as : List α} {bs : List β}, as.length = bs.length → (∀ (i : Nat) (a : α) (b : β), as[i]? = some a → bs[i]? = some b → F a b) → Paired F as bs
  | [], [], _, _ => .nil
  | [], _ :: _, h, _ => by simp at h
  | _ :: _, [], h, _ => by simp at h
  | a :: as, b :: bs, h, k => .cons (k 0 a b rfl rfl) (paired_at (by simpa using h) fun i x y hx hy => k (i + 1) x y (by simpa using hx) (by simpa using hy))
theorem call_listT (hc : X.calm = true) : CallR X (.type "list") (fun xs H Q => ∃ p o es, xs = [.ref p] ∧ H p = some (DK.tab p o es) ∧ ∀ q, H q = none → Q (.ref q) (upd H q (.lst (es.map (·.2.1))))) := fun pins s σ H xs us Q I r ⟨p, o, es, hx, e, q⟩ => by
  subst hx
  obtain ⟨u, rfl, ru⟩ := vals1 r
  cases DK.ref_of ru
  have t := DK.tab_at I (.inl e)
  have hz : es.length ≤ sizeLine := t.1
  obtain ⟨ds, ep, l⟩ := DK.tab_lies t
  refine PySem.W.kdl_call (kdl_raw l.sys l.exact l.data) (I.ok.hd hc) l.obj (by rw [l.size]; exact hz) fun h' tk acc c kp g it => ?_
  have rv : Vals (es.map (·.2.1)) acc.toList := by
    have n1 : acc.size = ds.size := it.1
    have n2 : acc.toList.length = acc.size := Array.length_toList
    have n3 := l.size
    refine paired_at (by rw [List.length_map]; omega) fun i x v hx hv => ?_
    rw [List.getElem?_map] at hx
    obtain ⟨en, he, rfl⟩ := Option.map_eq_some_iff.mp hx
    obtain ⟨dn, hd, rfl⟩ := it.2 i v (by rw [← Array.getElem?_toList]; exact hv)
    obtain ⟨hi, k⟩ := l.row i en he
    rw [Array.getElem?_eq_getElem hi] at hd
    cases hd
    exact k.2.1
  refine ⟨.ref s.heap.objs.size, _, I.laid (t' := tk) (o := .lst (es.map (·.2.1))) kp (Nat.le_refl _) ⟨by rw [List.length_map]; exact hz, acc.toList, c, rv, by rw [Array.toArray_toList]; exact g⟩, rfl, q _ (I.hok.fresh (Nat.le_refl _))⟩
def gListD : List D → Option D
  | [.dic ds] => if ds.length ≤ 1000 then some (.lst (ds.map (·.1))) else none
  | _ => none
theorem repE_fst {K : PySem.W.Frag} {H : Hp} : ∀ {es : List DK.Ent} {ds : List (D × D)}, RepE K H es ds → Reps K H (es.map (·.2.1)) (ds.map (·.1))
  | _, _, .nil => .nil
  | _, _, .cons _ r _ t => .cons r (repE_fst t)
theorem cf_listD (hc : X.calm = true) : CallF X (.type "list") gListD := ⟨_, call_listT hc, fun O H xs ds d Q r e k _ => by
  unfold gListD at e
  split at e
  · split at e
    · rename_i kvs hz
      cases e
      obtain ⟨v, rfl, h⟩ := r.one
      obtain ⟨p, o, es, b, rfl, hp, re, kq⟩ := h.dic
      refine ⟨p, o, es, rfl, hp, fun q nq => k q _ (same_upd nq) nq (.lst upd_same (fresh_reps nq (repE_fst re)))⟩
    · cases e
  · cases e⟩
end
end DL

set_option maxHeartbeats 4000000
/-! comprehensions that make tables -/
namespace DK
open PySem PySem.Spec PyProof.Rows L2
/-- what is asked of a key before it is stored, whatever the block -/
def AskA (K : PySem.W.Frag) (es : List Ent) (k : NestedKey) (y : V) (H : Hp) : Prop := (es.map (·.1)).Nodup ∧ ∃ b, ∀ (X : Cx) pins σ s, X.K = K → L2.Inv X pins σ H s → Ks b s.heap es ∧ K1 b s.heap k y
/-- the turns of the walk store pairs in the table at D -/
def tTc (K : PySem.W.Frag) (wi : TI) (g : TG) (tt : TT) (tk tv : TE) (vs : List Nat) : TE := fun σ H Q => wi σ H fun J H1 => ∀ D o0, H1 D = none → ∃ W : Nat → Nat → Hp → Prop, (∃ m, W 0 m (upd H1 D (tab D o0 []))) ∧
  ∀ i m H, W i m H → (J.stop i H ∧ Q (.ref D) H) ∨ (J.go i H ∧ ∃ Nx : Hp → Prop, (∀ H', Nx H' → ∃ m', m' < m ∧ W (i + 1) m' H') ∧
    ∀ x H', J.yld i H x H' → g x (wipe σ vs) H' fun σ2 H2 => wipe σ2 vs = wipe σ vs ∧ tt σ2 H2 fun b H3 => if b = true then tk σ2 H3 fun y H4 => tv σ2 H4 fun z H5 =>
      ∃ o es k, H5 D = some (tab D o es) ∧ AskA K es k y H5 ∧ es.length < sizeLine ∧ ∀ o', Nx (upd H5 D (tab D o' (putE es k y z))) else Nx H3)
section
variable {X : Cx}
abbrev Blks (X : Cx) (scope : Scope) (F : Cx → Prop) : Prop := ∀ (s : Shared) (H : Hp) (C : Addr) (cl : List (Str × Addr)) (fp : List Addr), F (X.blk s H scope (compEnvC scope cl C X.env) fp)
theorem tc_core {pins : List (Addr × Obj)} {s : Shared} {σ : L2.St} {H : Hp} {Q : VK} {kx vx tg iter : Expr} {ifs : List Expr} {scope : Scope} {own : List (Str × Nat)} {pos pos' : Pos} {wi : TI} {g : TG} {tt : TT} {tk tv : TE} {use : Option (Value → Sem Unit)} {Qf : Value → Shared → Prop}
    (hu : X.A.units + 9 < cLine) (hc : X.calm = true) (hN : X.N.Nodup) (I : L2.Inv X pins σ H s) (hi : PI X tg iter wi) (ok : BlkOk X.N X.env.scope scope own)
    (hg : Blks X scope fun Y => PG Y tg g) (ht : Blks X scope fun Y => PTs Y ifs tt) (hk : Blks X scope fun Y => PE Y kx tk) (he : Blks X scope fun Y => PE Y vx tv)
    (hs : ∀ x, foldedSetIterable iter X.env x = pure x) (h : tTc X.K wi g tt tk tv (own.map (·.2)) σ H Q)
    (hE : ∀ D C s' m H', L2.Inv X pins σ H' s' → Q (.ref D) H' → s'.heap.Ns C m → FpOk X pins H' C → compPost (model X.prog X.w) X.A X.xe use Qf (.ref D) C (.ok .next) s') :
    wpAny (model X.prog X.w) X.A (comprehension (.DictComp kx vx [⟨tg, iter, ifs, 0⟩] scope pos) scope X.env pos' newDict false (eval iter X.env) use) Qf X.xe s := by
  have free : ∀ y ∈ scope.names, y.2 = .free → ∃ c, X.env.cells.lookup y.1 = some c := fun y hy e => (ok.free y hy e).elim (fun z => I.ok.has _ (.inl z)) fun z => I.ok.has _ (.inr z)
  refine wpAny_comprehension_free (use := use) rfl hs (closure_ok free) ok.kind (fun y hy e => by rw [ok.uniq y hy, e]) (thn (hi.run pins s σ H _ I h) fun xv s1 hx => thn hx fun itv s2 h2 => ?_)
  obtain ⟨it, fp, tn, J, H2, e, I2, T, st2, f2, q⟩ := h2
  subst e
  refine wpAny_newObj_type (newEnv_comp ?_)
  generalize hD : s2.heap.objs.size = D
  have nD : H2 D = none := I2.hok.fresh (Nat.le_of_eq hD)
  obtain ⟨W, ⟨m0, w0⟩, turn⟩ := q D { cls := .type "dict", data := .dict #[] } nD
  generalize e3 : ({ s2 with heap := s2.heap.push { cls := .type "dict", data := .dict #[] } } : Shared) = s3
  generalize eH3 : upd H2 D (tab D { cls := .type "dict", data := .dict #[] } []) = H3 at w0
  have I3 : L2.Inv X pins σ H3 s3 := by
    subst e3 eH3 hD
    exact I2.laid (t' := s2.toks) (fun _ _ z => Heap.get?_push_of_some _ z) (Nat.le_refl _) (tab_obj (tab_empty s2.heap I2.big))
  have h3 : s3.heap = s2.heap.push { cls := .type "dict", data := .dict #[] } := by rw [← e3]
  have f3 : ∀ b ∈ fp, FpOk X pins H3 b ∧ b < s3.heap.objs.size := fun b hb => by
    obtain ⟨o, ho, _⟩ := T.obj _ _ st2 b hb
    have lt := Heap.lt_size ho
    refine ⟨⟨?_, (f2 b hb).2⟩, by rw [h3, Heap.size_push]; exact Nat.lt_succ_of_lt lt⟩
    rw [← eH3, upd_ne (by rw [← hD]; exact Nat.ne_of_lt lt)]
    exact (f2 b hb).1
  have st3 : tn 0 s3.heap := T.keep _ _ _ st2 fun b _ o z => by rw [h3]; exact Heap.get?_push_of_some _ z
  have I4 := block_start I3 ok hN f3
  generalize ecl : cellsFrom (s3.heap.objs.size + 1) scope.names (cloFrom X.env.cells scope.names []) = cl at I4
  have pg := hg s3 H3 s3.heap.objs.size cl fp
  have pt := ht s3 H3 s3.heap.objs.size cl fp
  have pk := hk s3 H3 s3.heap.objs.size cl fp
  have pv := he s3 H3 s3.heap.objs.size cl fp
  show codeAny _ _ (.compStart (.DictComp kx vx [⟨tg, iter, ifs, 0⟩] scope pos) 0 (.ref it) (.ref D) (compEnvC scope cl s3.heap.objs.size X.env)) (compPost (model X.prog X.w) X.A X.xe use Qf (.ref D) s3.heap.objs.size) { s3 with heap := pushCells (s3.heap.push { cls := .type "dict", data := .dict #[] }) scope.names }
  generalize ece : compEnvC scope cl s3.heap.objs.size X.env = ce at I4 pg pt pk pv ⊢
  have cL : ce.locals = s3.heap.objs.size := by subst ece; rfl
  generalize e4 : ({ s3 with heap := pushCells (s3.heap.push { cls := .type "dict", data := .dict #[] }) scope.names } : Shared) = s4 at I4 ⊢
  have st4 : tn 0 s4.heap := T.keep _ _ _ st3 fun b _ o z => by rw [← e4]; exact pushCells_keeps _ _ _ _ (Heap.get?_push_of_some _ z)
  generalize eY : X.blk s3 H3 scope ce fp = Y at I4 pg pt pk pv
  have still : ∀ {σ' : L2.St} {H' : Hp} {s' : Shared}, L2.Inv Y [] σ' H' s' → (∀ b ∈ fp, H' b = none) → ∀ b ∈ fp, FpOk Y [] H' b := by
    subst eY
    exact fun {σ' H' s'} I' hn b hb => ⟨hn b hb, (I'.ok.exf b hb).1, I'.ok.exfs b hb, .inl hb, fun x c z => (I'.ok.exf b hb).2 x c z, fun p hp => absurd (show p ∈ ([] : List (Addr × Obj)) ++ [] from hp) (by simp)⟩
  have loop : codeAny (model X.prog X.w) X.A (.compLoop (.DictComp kx vx [⟨tg, iter, ifs, 0⟩] scope pos) 0 (.ref it) (.ref D) ce) (compPost (model X.prog X.w) X.A X.xe use Qf (.ref D) s3.heap.objs.size) s4 := by
    refine compLoop_anyD (fun n s' => ∃ i H', L2.Inv Y [] (wipe σ (own.map (·.2))) H' s' ∧ tn i s'.heap ∧ (∀ b ∈ fp, H' b = none) ∧ W i n H') ?_ m0 ⟨0, H3, I4, st4, fun b hb => (f3 b hb).1.1, w0⟩
    rintro n s5 ⟨i, H5, I5, st5, n5, w5⟩
    rcases turn i n H5 w5 with ⟨stop, qq⟩ | ⟨go, Nx, hNx, step⟩
    · have td := T.done Y (by subst eY; rfl) (by subst eY; rfl) (by subst eY; rfl) (by subst eY; exact hc) i [] s5 _ H5 (fun _ _ => False) I5 (still I5 n5) st5 stop
      subst eY
      refine thnF td fun r s6 ⟨hr, I6⟩ => ?_
      subst hr
      have I7 : L2.Inv X pins σ H5 s6 := I3.call' (ch := fp) I6.os I6.base I6.hok I6.bare fun b hb => ⟨(f3 b hb).1.2.2.2.1, (f3 b hb).1.2.1, (f3 b hb).1.2.2.2.2.1, (f3 b hb).1.2.2.2.2.2⟩
      have nC : H5 s3.heap.objs.size = none := by rw [← cL]; exact I6.free
      obtain ⟨m, hn, _⟩ := I6.loc
      have hn : s6.heap.Ns s3.heap.objs.size m := by rw [← cL]; exact hn
      exact hE D s3.heap.objs.size s6 m H5 I7 qq hn (I3.fpOk (Nat.le_refl _) nC)
    · have ti := T.item Y (by subst eY; rfl) (by subst eY; rfl) (by subst eY; rfl) (by subst eY; exact hc) i [] s5 _ H5 (fun _ _ => False) I5 (still I5 n5) st5 go
      subst eY
      refine thnF ti fun r s6 ⟨u, hr, h6⟩ => ?_
      subst hr
      refine thnF h6 fun _ s7 ⟨x, H7, I7, r7, y7, st7, n7⟩ => ?_
      refine thnF (pg.run _ s7 _ H7 x u _ (I7.pinned (still I7 n7) (T.obj _ _ st7)) r7 (step x H7 y7)) fun _ s8 ⟨σ8, H8, I8, hw8, q8⟩ => ?_
      refine thnF (pt.run _ s8 σ8 H8 _ I8 q8) fun b s9 ⟨H9, I9, q9⟩ => ?_
      have fin : ∀ {s' : Shared} {H' : Hp}, L2.Inv (X.blk s3 H3 scope ce fp) ([] ++ pinsAt fp s7.heap) σ8 H' s' → Nx H' → ∃ m, m < n ∧ ∃ i H', L2.Inv (X.blk s3 H3 scope ce fp) [] (wipe σ (own.map (·.2))) H' s' ∧ tn i s'.heap ∧ (∀ b ∈ fp, H' b = none) ∧ W i m H' := fun {s' H'} I' nx => by
        obtain ⟨m', hm, w'⟩ := hNx H' nx
        have pin : ∀ b ∈ fp, ∀ o, s7.heap.get? b = some o → s'.heap.get? b = some o ∧ H' b = none := fun b hb o z =>
          have y := I'.pin (b, o) (List.mem_append_right _ (List.mem_append_right _ (mem_pinsAt hb z)))
          ⟨y.1, y.2.1⟩
        have hl : (wipe σ (own.map (·.2))).length = σ8.length := by rw [← hw8, wipe_length]
        refine ⟨m', hm, i + 1, H', (I'.unpinned (pins := [])).weak hl (fun j v z => ?_), T.keep _ _ _ st7 fun b hb o z => (pin b hb o z).1, fun b hb => ?_, w'⟩
        · rw [← hw8] at z
          exact (wipe_some z).1
        · obtain ⟨o, z, _⟩ := T.obj _ _ st7 b hb
          exact (pin b hb o z).2
      cases b with
      | false =>
        simp only [Bool.false_eq_true, if_false] at q9 ⊢
        exact fin I9 q9
      | true =>
        simp only [if_true] at q9 ⊢
        refine thnF (pk.run _ s9 σ8 H9 _ I9 q9) fun z s10 ⟨yk, H10, I10, r10, q10⟩ => ?_
        refine thnF (pv.run _ s10 σ8 H10 _ I10 q10) fun z2 s11 ⟨yv, H11, I11, r11, o, es, k, hD11, ⟨nd, b, ask⟩, hz, nx⟩ => ?_
        obtain ⟨T1, kk⟩ := ask (X.blk s3 H3 scope ce fp) _ _ _ rfl I11
        exact t_dset (X := X.blk s3 H3 scope ce fp) hu I11 hD11 T1 nd kk r10 r11 hz fun s12 o' I12 => fin I12 (nx o')
  exact codeAny_compStart_dict loop (T.self X.A 0 _ _ _ st4 loop)
theorem pe_tc {kx vx tg iter : Expr} {ifs : List Expr} {scope : Scope} {own : List (Str × Nat)} {pos : Pos} {wi : TI} {g : TG} {tt : TT} {tk tv : TE} (hu : X.A.units + 9 < cLine) (hc : X.calm = true) (hN : X.N.Nodup) (hi : PI X tg iter wi) (ok : BlkOk X.N X.env.scope scope own)
    (hg : Blks X scope fun Y => PG Y tg g) (ht : Blks X scope fun Y => PTs Y ifs tt) (hk : Blks X scope fun Y => PE Y kx tk) (he : Blks X scope fun Y => PE Y vx tv) (hs : ∀ x, foldedSetIterable iter X.env x = pure x := by intro _; rfl) :
    PE X (.DictComp kx vx [⟨tg, iter, ifs, 0⟩] scope pos) (tTc X.K wi g tt tk tv (own.map (·.2))) := ⟨fun pins s σ H Q I h => by
  rw [arm_eval_DictComp]
  refine tc_core hu hc hN I hi ok hg ht hk he hs h fun D C s' m H' I' q hn f => ⟨m, hn, fun h'' sb => ?_⟩
  obtain ⟨a0, a1, a2, a3, a4, a5⟩ := f
  exact ⟨.ref D, H', I'.turned (t' := s'.toks) (fun b o hb z => (sb.2 b hb).trans z) a0 a1 a3 a4 a5, rfl, q⟩⟩
/-- a name that gets the table on its own line -/
theorem ps_tc {i : Nat} {y : Str} {py : Pos} {kx vx tg iter : Expr} {ifs : List Expr} {scope : Scope} {own : List (Str × Nat)} {pos spos : Pos} {wi : TI} {g : TG} {tt : TT} {tk tv : TE} (hu : X.A.units + 9 < cLine) (hc : X.calm = true) (hN : X.N.Nodup) (hy : X.N[i]? = some y) (hyl : X.env.scope.names.lookup y = some .local)
    (hsw : swapsWith (.DictComp kx vx [⟨tg, iter, ifs, 0⟩] scope pos) (some (.Name y py)) spos.line X.env = pure true) (hi : PI X tg iter wi) (ok : BlkOk X.N X.env.scope scope own)
    (hg : Blks X scope fun Y => PG Y tg g) (ht : Blks X scope fun Y => PTs Y ifs tt) (hk : Blks X scope fun Y => PE Y kx tk) (he : Blks X scope fun Y => PE Y vx tv) (hs : ∀ x, foldedSetIterable iter X.env x = pure x := by intro _; rfl) :
    PS X (.Assign [.Name y py] (.DictComp kx vx [⟨tg, iter, ifs, 0⟩] scope pos) spos) (tAsg (tTc X.K wi g tt tk tv (own.map (·.2))) (gName i)) := ⟨fun pins s σ H N I h => by
  rw [exec_Assign_Name_used _ _ _ _ hsw]
  refine wpAny_bind (wpAny_standAt (wpAny_bind ?_))
  show wpAny _ X.A (do let _ ← comprehension (.DictComp kx vx [⟨tg, iter, ifs, 0⟩] scope pos) scope X.env (firstIterPos [⟨tg, iter, ifs, 0⟩] pos) newDict false (eval iter X.env) (some (assign (.Name y py) X.env))) _ _ s
  have h : tTc X.K wi g tt tk tv (own.map (·.2)) σ H (fun x H1 => gName i x σ H1 N.nx) := h
  refine wpAny_bind (thn (tc_core (Qf := fun _ s' => SP X pins N .next s') hu hc hN I hi ok hg ht hk he hs h fun D C s' m H' I' q hn f => ?_) fun _ s' hq => wpAny_pure (wpAny_pure hq))
  show wpAny _ _ (assign (.Name y py) X.env (.ref D)) _ _ _
  refine wpAny_assign_Name (store_ok2 (v := V.ref D) I' hN hy (.inl hyl) rfl (fun s2 I2 ⟨a, sb, ha⟩ => ?_) (.inr hyl))
  obtain ⟨a0, a1, a2, a3, a4, a5⟩ := f
  have ne : C ≠ a := by
    rcases ha with z | z
    · rw [z]; exact a1
    · exact fun w => a4 y a z w.symm
  exact ⟨m, hn.sameBut sb ne, fun h3 sb3 => ⟨_, H', I2.turned (t' := s2.toks) (fun b o hb z => (sb3.2 b hb).trans z) a0 a1 a3 a4 a5, q⟩⟩⟩
end
theorem sw_dc {kx vx : Expr} {gs : List Comprehension} {scope : Scope} {pos py : Pos} {y : Str} {l : Nat} {env : Env} (hk : env.scope.kind = .function) (hy : env.scope.names.lookup y = some .local) (hl : (py.line == pos.line) = true)
    (ha : (scope.names.any fun (n, k) => n == y && (k == .local || k == .cell)) = false) : swapsWith (.DictComp kx vx gs scope pos) (some (.Name y py)) l env = pure true := by
  have ky : env.kindOf y = some .local := hy
  have hb : env.blockKind = .function := by unfold Env.blockKind; rw [hk]; rfl
  unfold swapsWith
  simp only [hb, ky, ha, Expr.pos, hl]
  rfl
end DK

set_option maxHeartbeats 4000000
namespace DL
open PySem PySem.Spec PyProof.Rows L2
variable [CT]
theorem _root_.L2.Room.units5 {k : Nat} {A : Around} (r : Room k A) : A.units + 65 < cLine := by have := r.un; omega
/-! ### x in l -/
section
variable {X : Cx}
def gInL (neg : Bool) : D → D → Option D
  | x, .lst ys => (toPy x).bind fun a => (toPys ys).bind fun bs => if SeqAt.shaped a && SeqAt.shaped (.list bs) then some (.bl (neg != bs.any fun z => PyData.eqv z a)) else none
  | _, _ => none
theorem gInL_some {neg : Bool} {x y d : D} (e : gInL neg x y = some d) : ∃ ys a bs, y = .lst ys ∧ toPy x = some a ∧ toPys ys = some bs ∧ SeqAt.shaped a = true ∧ SeqAt.shaped (.list bs) = true ∧ d = .bl (neg != bs.any fun z => PyData.eqv z a) := by
  unfold gInL at e
  split at e
  · rename_i ys
    simp only [Option.bind_eq_some_iff] at e
    obtain ⟨a, ea, bs, eb, e⟩ := e
    split at e
    · rename_i h
      rw [Bool.and_eq_true] at h
      cases e
      exact ⟨ys, a, bs, rfl, ea, eb, h.1, h.2, rfl⟩
    · cases e
  · cases e
theorem od_inL (hu : X.A.units + 65 < cLine) : OpD X (compareOp .In) (gInL false) := ⟨_, op_inD hu, fun O H x y p q d Q hx hy e c _ => by
  obtain ⟨ys, a, bs, rfl, ea, eb, h1, h2, rfl⟩ := gInL_some e
  exact ⟨a, bs, hx.dp hide_le ea, hy.dp hide_le (by simp [toPy, eb]), h1, h2, c _ _ (.refl _) (by simpa using Rep.bl _)⟩⟩
theorem od_notInL (hu : X.A.units + 65 < cLine) : OpD X (compareOp .NotIn) (gInL true) := ⟨_, op_notInD hu, fun O H x y p q d Q hx hy e c _ => by
  obtain ⟨ys, a, bs, rfl, ea, eb, h1, h2, rfl⟩ := gInL_some e
  exact ⟨a, bs, hx.dp hide_le ea, hy.dp hide_le (by simp [toPy, eb]), h1, h2, c _ _ (.refl _) (by simpa using Rep.bl _)⟩⟩
end
/-! ### l[::-1] -/
section
variable {X : Cx} {e o a : Expr} {es : List Expr} {f : DE1} {fs gs : DEnv → Option (List D)} {pos : Pos}
theorem Reps.rev {K : PySem.W.Frag} {H : Hp} : ∀ {vs : List V} {ds : List D}, Reps K H vs ds → Reps K H vs.reverse ds.reverse
  | _, _, .nil => .nil
  | _, _, .cons r t => by
    rw [List.reverse_cons, List.reverse_cons]
    exact (Reps.rev t).append (.cons r .nil)
def eRv (f : DE1) : DE1 := fun ρ => match f ρ with
  | some (.lst xs) => some (.lst xs.reverse)
  | _ => none
theorem df_rev {k : Nat} {p1 p2 p3 : Pos} (he : DE X e f) : DF X (.Subscript e (.Slice none none (some (.UnaryOp .USub (.Constant (.int 1) k p1) p2)) p3) pos) (eRv f) := PE.imp (pe_revL he) fun σ H Q ⟨O0, ow, ρ, S, d, e, k⟩ => by
  unfold eRv at e
  split at e
  · rename_i xs ef
    cases e
    refine ⟨O0, ow, ρ, S, _, ef, fun v H1 s1 r1 => ?_⟩
    cases r1 with
    | lst ha rs => exact ⟨_, _, rfl, SqL.of (hide_le _ _ ha), fun p np => k p _ (s1.trans (same_upd np)) (Same.free s1 np) (.lst upd_same (fresh_reps np rs.rev))⟩
  · cases e
/-! ### list(d.values()) -/
def tVw (te : TE) : TE := fun σ H Q => te σ H fun x H1 => ∃ d o es, x = .ref d ∧ H1 d = some (DK.tab d o es) ∧ ∀ p, H1 p = none → Q (.ref p) (upd H1 p (viewO "dict_values" p d))
theorem pe_vw {te : TE} {ap cp : Pos} (he : PE X e te) (hbase : attributeBase e "values" X.env (eval e X.env) = eval e X.env := by rfl) (hline : (ap.endLine == cp.line) = true := by rfl) :
    PE X (.Call (.Attribute e "values" ap) [] [] cp) (tVw te) := ⟨fun pins s σ H Q I h =>
  wpAny_Call_method (T := "dict") (id := "dict.values") hbase rfl hline F.plainAttrs_dict F.slot_dict_values F.type_dict_values (thn (he.run pins s σ H _ I h) fun u s1 ⟨x, H1, I1, rx, d, o, es, ex, hd, q⟩ => by
  subst ex
  cases DK.ref_of rx
  obtain ⟨ds, ep, l⟩ := DK.tab_lies (DK.tab_at I1 (.inl hd))
  refine ⟨l.raw.typeIs, fun b z => by cases z; exact ⟨o, l.obj, l.exact.2.1⟩, ?_⟩
  refine (show wpAny _ _ (callWith cp (.builtin "dict.values") [.ref d] [] []) _ X.xe s1 from method_meetsIn F.slot_dict_values F.entry_dict_values rfl (PySem.evalArgs_none ⟨rfl, l.raw.typeIs, F.args_dict_values_1 _, _, meets_dict_values_raw d l.sys, ⟨⟨ds, ep, l.raw⟩, ?_⟩⟩))
  exact ⟨.ref s1.heap.objs.size, _, I1.laid (t' := s1.toks) (fun b o q => Heap.get?_push_of_some _ q) (Nat.le_refl _) (viewO_ok (T := "dict_values") (d := d) (Heap.get?_push_size _ rfl)), rfl, q _ (I1.hok.fresh (Nat.le_refl _))⟩)⟩
theorem call_listV (hc : X.calm = true) : CallR X (.type "list") (fun xs H Q => ∃ p d o es, xs = [.ref p] ∧ H p = some (viewO "dict_values" p d) ∧ H d = some (DK.tab d o es) ∧ ∀ q, H q = none → Q (.ref q) (upd H q (.lst (es.map (·.2.2))))) := fun pins s σ H xs us Q I r ⟨p, d, o, es, hx, hp, e, q⟩ => by
  subst hx
  obtain ⟨u, rfl, ru⟩ := vals1 r
  cases DK.ref_of ru
  have hv : s.heap.get? p = some (DSub.viewOb "dict_values" d) := (show ObjOk X.prog X.w H s.heap p (viewO "dict_values" p d) from I.hok p _ hp).1
  have t := DK.tab_at I (.inl e)
  have hz : es.length ≤ sizeLine := t.1
  obtain ⟨ds, ep, l⟩ := DK.tab_lies t
  refine PySem.W.kdl_call (PySem.KdlSrc.rawValues (r := p) (d := d) (es := ds) (ep := ep)) (I.ok.hd hc) ⟨⟨_, hv, rfl, rfl⟩, l.raw⟩ (by rw [l.size]; exact hz) fun h' tk acc c kp g it => ?_
  have rv : Vals (es.map (·.2.2)) acc.toList := by
    have n1 : acc.size = ds.size := it.1
    have n2 : acc.toList.length = acc.size := Array.length_toList
    have n3 := l.size
    refine paired_at (by rw [List.length_map]; omega) fun i x v hx hv => ?_
    rw [List.getElem?_map] at hx
    obtain ⟨en, he, rfl⟩ := Option.map_eq_some_iff.mp hx
    obtain ⟨hi, hd⟩ := it.2 i v (by rw [← Array.getElem?_toList]; exact hv)
    obtain ⟨hj, k⟩ := l.row i en he
    rw [hd]
    exact k.2.2
  exact ⟨.ref s.heap.objs.size, _, I.laid (t' := tk) (o := .lst (es.map (·.2.2))) kp (Nat.le_refl _) ⟨by rw [List.length_map]; exact hz, acc.toList, c, rv, by rw [Array.toArray_toList]; exact g⟩, rfl, q _ (I.hok.fresh (Nat.le_refl _))⟩
def eVals (f : DE1) : DE1 := fun ρ => match f ρ with
  | some (.dic ds) => some (.lst (ds.map (·.2)))
  | _ => none
theorem repE_snd {K : PySem.W.Frag} {H : Hp} : ∀ {es : List DK.Ent} {ds : List (D × D)}, RepE K H es ds → Reps K H (es.map (·.2.2)) (ds.map (·.2))
  | _, _, .nil => .nil
  | _, _, .cons _ _ q t => .cons q (repE_snd t)
theorem df_vals {p ap cp : Pos} (hc : X.calm = true) (hg : Gl X "list") (hm : X.mg "list" = none) (he : DE X e f) (hbase : attributeBase e "values" X.env (eval e X.env) = eval e X.env := by rfl) (hline : (ap.endLine == cp.line) = true := by rfl)
    (hst : starEach [.Call (.Attribute e "values" ap) [] [] cp] X.env = (false, eval (.Call (.Attribute e "values" ap) [] [] cp) X.env) :: starEach [] X.env := by rfl) (hpl : (backTo pos (starEach [] X.env)).any (·.1) = false := by rfl) :
    DF X (.Call (.Name "list" p) [.Call (.Attribute e "values" ap) [] [] cp] [] pos) (eVals f) := PE.imp (pe_callTy (call_listV hc) hg hm (by decide +kernel) (pa_cons (pe_vw he hbase hline) pa_nil hst) (by decide) (by decide) hst hpl) fun σ H Q ⟨O0, ow, ρ, S, d, e, k⟩ => by
  unfold eVals at e
  split at e
  · rename_i ds ef
    cases e
    refine ⟨O0, ow, ρ, S, _, ef, fun v H1 s1 r1 => ?_⟩
    cases r1 with
    | dic ha rs kq =>
      rename_i tb oo ees bb
      have ha' := hide_le _ _ ha
      refine ⟨_, _, _, rfl, ha', fun p np => ?_⟩
      have s2 : Same H1 (upd H1 p (viewO "dict_values" p tb)) := same_upd np
      refine ⟨p, _, _, _, rfl, upd_same, s2 _ _ ha', fun q nq => k q _ ((s1.trans s2).trans (same_upd nq)) (Same.free (s1.trans s2) nq) (.lst upd_same (fresh_reps nq ((repE_snd rs).same (hide_same s2))))⟩
  · cases e
end
/-! ### methods, by the class of the object -/
section
variable {X : Cx} {e o a : Expr} {es : List Expr} {f : DE1} {fs gs : DEnv → Option (List D)} {pos : Pos}
abbrev MTab := List (Nat × (List D → Option D))
def eMth (tbl : MTab) (m : Str) (n : Nat) (dd : List D) (f : DE1) (fs : DEnv → Option (List D)) : DE1 := fun ρ => match f ρ with
  | some (.ins k flds) => match tbl.lookup k with
    | some F => if (flds.lookup m).isNone then (fs ρ).bind fun ds => if ds.length = n then F (.ins k flds :: (ds ++ dd)) else none else none
    | none => none
  | _ => none
/-- the methods of the classes in the table, the last parameters left at dd -/
def MthD (P : Program) (w : World) (K : PySem.W.Frag) (mg : Str → Option Value) (base : Heap) (lev : Nat) (m : Str) (n : Nat) (dd : List D) (tbl : MTab) : Prop := ∀ k F, tbl.lookup k = some F → ∃ lv g fd ps, lv ≤ lev ∧ Cls K (CT.ct k) ∧ Meth K (CT.ct k) m g ∧ FnOk P w K mg base CX0 lv g fd ps (spD K (n + dd.length + 1) F) ∧
  ∃ dvs ds, (∀ h, Reps K h dvs dd) ∧ Vals dvs ds ∧ Binds K fd ps ds
theorem de_mth {tbl : MTab} {m : Str} {n lev : Nat} {dd : List D} {apos : Pos} {pl : Sem Bool} (hM : MthD X.prog X.w X.K X.mg X.base lev m n dd tbl) (hr : Room lev X.A) (he : DE X o f) (ha : DA X (a :: es) fs)
    (hst : starEach (a :: es) X.env = (false, eval a X.env) :: starEach es X.env := by rfl) (hpl : (backTo pos (starEach es X.env)).any (·.1) = false := by rfl)
    (ht : eval (.Call (.Attribute o m apos) (a :: es) [] pos) X.env = (do
      let ov ← eval o X.env
      standAt apos.atName
      let (f, first) ← holding [ov] (getMethod ov m pl)
      callWith pos f first (backTo pos (starEach (a :: es) X.env)) (backToKw pos (keywordEach [] X.env))) := by rfl) :
    DE X (.Call (.Attribute o m apos) (a :: es) [] pos) (eMth tbl m n dd f fs) := ⟨fun pins s σ H Q I ⟨O0, ow, ρ, S, d, e, q⟩ => by
  unfold eMth at e
  split at e
  · rename_i k flds ef
    split at e
    · rename_i F hF
      split at e
      · rename_i hno
        simp only [Option.bind_eq_some_iff] at e
        obtain ⟨ds, efs, e⟩ := e
        split at e
        · rename_i hn
          obtain ⟨lv, g, fd, ps, hlv, cl, me, fn, dvs, dvals, rd, vd, hb⟩ := hM k F hF
          refine PySem.W.methodCall_KW (pl := pl) (thn (he.run pins s σ H (fun x H1 => Same H H1 ∧ Rep X.K (hide (hid O0 ow) H1) x (.ins k flds)) I ⟨O0, ow, ρ, S, _, ef, fun v H' s r => ⟨s, r⟩⟩) fun u s1 ⟨x, H1, I1, rx, s01, r1⟩ => ?_) ht
          have r1' := r1
          cases r1 with
          | ins hI rf =>
            rename_i a dx vs
            obtain rfl : u = Value.ref a := rx
            refine getmeth_ok I1 (hide_le _ _ hI) cl me (rf.none (Option.isNone_iff_eq_none.mp hno)) ?_
            refine PySem.W.callWith_K (first := [.ref a]) (h₀ := X.base) I.ok.mod.kin me.kp (thn (ha.run pos pins s1 σ H1 (fun vs H2 => Same H1 H2 ∧ Reps X.K (hide (hid O0 ow) H2) vs ds) I1 ⟨O0, ow, ρ, S.same s01, ds, efs, fun v H' s r => ⟨s, r⟩⟩) fun us s2 ⟨vs, H2, I2, r, s12, rs⟩ => ⟨I2.kIn, ?_⟩) hst hpl
            refine run_fn (us := .ref a :: us) (vs := .ref a :: vs) fn (hr.mono hlv) hb vd pass0 I2 (.cons rfl r) ?_
            have l1 := rs.length
            have l2 := (rd (fun _ => none)).length
            exact ⟨by simp only [List.cons_append, List.length_cons, List.length_append]; omega, hid O0 ow, _, (S.same (s01.trans s12)).trk, .cons (r1'.same (hide_same s12)) (rs.append (rd _)), d, e, fun v H' s r => q v H' ((s01.trans s12).trans s) r⟩
        · cases e
      · cases e
    · cases e
  · cases e⟩
def eMthK (tbl : MTab) (m : Str) (n mk : Nat) (f : DE1) (fs gs : DEnv → Option (List D)) : DE1 := fun ρ => match f ρ with
  | some (.ins k flds) => match tbl.lookup k with
    | some F => if (flds.lookup m).isNone then (fs ρ).bind fun ds => (gs ρ).bind fun es => if ds.length = n ∧ es.length = mk then F (.ins k flds :: (ds ++ es)) else none else none
    | none => none
  | _ => none
def MthK (P : Program) (w : World) (K : PySem.W.Frag) (mg : Str → Option Value) (base : Heap) (lev : Nat) (m : Str) (n : Nat) (ks : List Str) (tbl : MTab) : Prop := ∀ k F, tbl.lookup k = some F → ∃ lv g fd ps, lv ≤ lev ∧ Cls K (CT.ct k) ∧ Meth K (CT.ct k) m g ∧ FnOk P w K mg base CX0 lv g fd ps (spD K (n + ks.length + 1) F) ∧
  KBn K fd ps (n + 1) ks (fun us ws => us ++ ws) (fun vs zs => vs ++ zs)
theorem de_mthK {tbl : MTab} {m : Str} {n mk lev : Nat} {ks : List Str} {kws : List Keyword} {apos : Pos} {pl : Sem Bool} (hM : MthK X.prog X.w X.K X.mg X.base lev m n ks tbl) (hr : Room lev X.A) (he : DE X o f) (ha : DA X (a :: es) fs) (hkw : DK X kws gs) (hmk : ks.length = mk)
    (h1 : ((backToKw pos (keywordEach kws X.env)).all fun x => x.1.isSome) = true := by rfl) (h2 : (backToKw pos (keywordEach kws X.env)).filterMap (fun x => x.1) = ks := by rfl)
    (hst : starEach (a :: es) X.env = (false, eval a X.env) :: starEach es X.env := by rfl)
    (hpl : (((backTo pos (starEach (a :: es) X.env)).any (·.1)) || (backToKw pos (keywordEach kws X.env)).any fun x => x.1.isNone) = false := by rfl)
    (ht : eval (.Call (.Attribute o m apos) (a :: es) kws pos) X.env = (do
      let ov ← eval o X.env
      standAt apos.atName
      let (f, first) ← holding [ov] (getMethod ov m pl)
      callWith pos f first (backTo pos (starEach (a :: es) X.env)) (backToKw pos (keywordEach kws X.env))) := by rfl) :
    DE X (.Call (.Attribute o m apos) (a :: es) kws pos) (eMthK tbl m n mk f fs gs) := ⟨fun pins s σ H Q I ⟨O0, ow, ρ, S, d, e, q⟩ => by
  unfold eMthK at e
  split at e
  · rename_i k flds ef
    split at e
    · rename_i F hF
      split at e
      · rename_i hno
        simp only [Option.bind_eq_some_iff] at e
        obtain ⟨ds, efs, es', egs, e⟩ := e
        split at e
        · rename_i hn
          obtain ⟨lv, g, fd, ps, hlv, cl, me, fn, hb⟩ := hM k F hF
          refine PySem.W.methodCall_KW (pl := pl) (thn (he.run pins s σ H (fun x H1 => Same H H1 ∧ Rep X.K (hide (hid O0 ow) H1) x (.ins k flds)) I ⟨O0, ow, ρ, S, _, ef, fun v H' s r => ⟨s, r⟩⟩) fun u s1 ⟨x, H1, I1, rx, s01, r1⟩ => ?_) ht
          have r1' := r1
          cases r1 with
          | ins hI rf =>
            rename_i a dx vs
            obtain rfl : u = Value.ref a := rx
            refine getmeth_ok I1 (hide_le _ _ hI) cl me (rf.none (Option.isNone_iff_eq_none.mp hno)) ?_
            refine PySem.W.callWith_KW (first := [.ref a]) (h₀ := X.base) I.ok.mod.kin me.kp h1 (thn (ha.run pos pins s1 σ H1 (fun vs H2 => Same H1 H2 ∧ Reps X.K (hide (hid O0 ow) H2) vs ds) I1 ⟨O0, ow, ρ, S.same s01, ds, efs, fun v H' s r => ⟨s, r⟩⟩) fun us s2 ⟨vs, H2, I2, r, s12, rs⟩ => ?_) hpl hst
            refine thn (hkw.run pos pins s2 σ H2 (fun zs H3 => Same H2 H3 ∧ Reps X.K (hide (hid O0 ow) H3) zs es') I2 ⟨O0, ow, ρ, S.same (s01.trans s12), es', egs, fun v H' s r => ⟨s, r⟩⟩) fun ws s3 ⟨zs, H3, I3, rz, s23, rz'⟩ => ⟨I3.kIn, ?_⟩
            rw [h2]
            have l1 := rs.length
            have l2 := rz'.length
            refine run_fnN (us := .ref a :: us) (vs := .ref a :: vs) fn (hr.mono hlv) hb pass0 I3 (.cons rfl r) rz (by simp; omega) (by omega) ?_
            have s13 := s12.trans s23
            exact ⟨by simp only [List.cons_append, List.length_cons, List.length_append]; omega, hid O0 ow, _, (S.same (s01.trans s13)).trk, .cons (r1'.same (hide_same s13)) ((rs.same (hide_same s23)).append rz'), d, e, fun v H' s r => q v H' ((s01.trans s13).trans s) r⟩
        · cases e
      · cases e
    · cases e
  · cases e⟩
end
end DL

set_option maxHeartbeats 4000000
namespace DL
open PySem PySem.Spec PyProof.Rows L2
variable [CT]
/-! ### {k: v for .. in ..} -/
def compD (b : D → DEnv → Option DEnv) (t fk fv : DE1) (ρ : DEnv) : List D → List (D × D) → Option (List (D × D))
  | [], acc => some acc
  | d :: ds, acc => match b d ρ with
    | none => none
    | some ρ1 => match t ρ1 with
      | some (.bl true) => match fk ρ1, fv ρ1 with
        | some x, some z => match keyD x with
          | some k => if okKey acc k = true ∧ acc.length < 1000 then compD b t fk fv ρ ds (putDD acc x k z) else none
          | none => none
        | _, _ => none
      | some (.bl false) => compD b t fk fv ρ ds acc
      | _ => none
def eDc (it : DEnv → Option (List D)) (vs : List Nat) (b : D → DEnv → Option DEnv) (t fk fv : DE1) : DE1 := fun ρ => match it ρ with
  | some ds => if ds.length ≤ 1000 then (compD b t fk fv (wipeD ρ vs) ds []).map D.dic else none
  | none => none
theorem askedA {K : PySem.W.Frag} {O : Addr → Prop} {H : Hp} {es : List DK.Ent} {ds : List (D × D)} {b : Bool} {k : NestedKey} {y : V} {d : D} (r : RepE K (hide O H) es ds) (q : Keys b es) (o : okKey ds k = true) (ry : Rep K (hide O H) y d) (hk : keyD d = some k) : DK.AskA K es k y H := by
  obtain ⟨q', dp⟩ := q.ok r o
  exact ⟨q.nd, DK.flat k, fun X pins σ s e I => by subst e; exact ⟨ents_ks I hide_le r q'.kind, rep_k1 I hide_le ry hk dp⟩⟩
section
variable {X : Cx} {tg iter kx vx : Expr} {it : DEnv → Option (List D)} {b : D → DEnv → Option DEnv} {t fk fv : DE1} {is : List Nat} {pos : Pos}
theorem tTc_D {K : PySem.W.Frag} {vs : List Nat} (his : ∀ i ∈ is, i ∈ vs) : ∀ σ H Q, tDF K (eDc it vs b t fk fv) σ H Q → DK.tTc K (tDI K it) (tDG K is b) (tDT K t) (tDE K fk) (tDE K fv) vs σ H Q := fun σ H Q ⟨O0, ow, ρ, S, d, e, k⟩ => by
  unfold eDc at e
  cases ei : it ρ with
  | none => rw [ei] at e; cases e
  | some ds =>
    rw [ei] at e
    simp only at e
    split at e
    · rename_i hlen
      rw [Option.map_eq_some_iff] at e
      obtain ⟨out, ec, rfl⟩ := e
      refine ⟨O0, ow, ρ, S, ds, ei, fun J H1 s1 Wk Dd o0 nD => ?_⟩
      have SW := (S.same s1).wipe vs
      refine ⟨fun i m H => m = ds.length - i ∧ i ≤ ds.length ∧ Same H1 H ∧ ∃ o es acc bb, H Dd = some (DK.tab Dd o es) ∧ RepE K (hide (hid (fun b => O0 b ∨ b = Dd) ow) H) es acc ∧ Keys bb es ∧ compD b t fk fv (wipeD ρ vs) (ds.drop i) acc = some out,
        ⟨ds.length, by simp, Nat.zero_le _, same_upd nD, _, [], [], true, upd_same, .nil, ⟨List.nodup_nil, fun _ z => nomatch z⟩, ec⟩, ?_⟩
      rintro i m H2 ⟨rfl, hi, sm, o, es, acc, bb, hD, re, kq, er⟩
      have hsm : Same (hide (hid O0 ow) H1) H2 := Same.trans hide_le sm
      by_cases hlt : i < ds.length
      · obtain ⟨d, hd⟩ : ∃ d, ds[i]? = some d := ⟨_, List.getElem?_eq_getElem hlt⟩
        have hdr : ds.drop i = d :: ds.drop (i + 1) := by
          rw [List.getElem?_eq_getElem hlt] at hd; cases hd
          exact List.drop_eq_getElem_cons hlt
        rw [hdr] at er
        rw [compD] at er
        cases eb : b d (wipeD ρ vs) with
        | none => rw [eb] at er; cases er
        | some ρ1 =>
          rw [eb] at er
          refine .inr ⟨Wk.go i d H2 hsm hd, fun H' => i + 1 ≤ ds.length ∧ Same H1 H' ∧ ∃ o es acc bb, H' Dd = some (DK.tab Dd o es) ∧ RepE K (hide (hid (fun b => O0 b ∨ b = Dd) ow) H') es acc ∧ Keys bb es ∧ compD b t fk fv (wipeD ρ vs) (ds.drop (i + 1)) acc = some out,
            fun H' h' => ⟨_, by omega, rfl, h'⟩, fun x H3 y => ?_⟩
          obtain ⟨s3, rp⟩ := Wk.yld i d H2 x H3 hsm hd y
          have SM := SW.more sm nD ⟨_, hD⟩
          have rx := rp (hid (fun b => O0 b ∨ b = Dd) ow) (fun b z => by
            rcases z with (z | z) | z
            · exact .inl (.inl z)
            · subst z; exact .inr nD
            · exact .inl (.inr z)) SM.trk
          refine ⟨_, ow, _, d, SM.same s3, rx, ρ1, eb, fun σ2 S2 hw => ⟨(hw vs his).trans (wipe_wipe (fun _ h => h)), ?_⟩⟩
          simp only at er
          split at er
          · rename_i et
            refine ⟨_, ow, ρ1, S2, true, et, fun H4 s4 => iteT ?_⟩
            split at er
            · rename_i xk zv ek ev
              split at er
              · rename_i kk hkk
                split at er
                · rename_i ok
                  refine ⟨_, ow, ρ1, S2.same s4, xk, ek, fun v H5 s5 rk => ⟨_, ow, ρ1, S2.same (s4.trans s5), zv, ev, fun u H6 s6 rv => ?_⟩⟩
                  have s26 : Same H2 H6 := ((s3.trans s4).trans s5).trans s6
                  have re6 := re.same (hide_same s26)
                  have rk6 := rk.same (hide_same s6)
                  have hl := repE_len re
                  obtain ⟨k1, k2⟩ := kq.ok re ok.1
                  have hh : hid (fun b => O0 b ∨ b = Dd) ow Dd := .inl (.inr rfl)
                  refine ⟨o, es, kk, s26 _ _ hD, askedA re6 kq ok.1 rk6 hkk, by have := small1000' (n := es.length) (by omega); have := ok.2; unfold sizeLine at *; omega, fun o' => ⟨hlt, fun c q hc => ?_, o', _, _, _, upd_same, (rep_put re6 rk6 hkk rv).same (hide_upd hh), k1.put rfl k2, er⟩⟩
                  rw [upd_ne (ne_of_none hc nD)]
                  exact s26 _ _ (sm _ _ hc)
                · cases er
              · cases er
            · cases er
          · rename_i et
            refine ⟨_, ow, ρ1, S2, false, et, fun H4 s4 => iteF ?_⟩
            have s24 : Same H2 H4 := s3.trans s4
            exact ⟨hlt, sm.trans s24, o, es, acc, bb, s24 _ _ hD, re.same (hide_same s24), kq, er⟩
          · cases er
      · have e : i = ds.length := by omega
        subst e
        rw [List.drop_length, compD] at er
        cases er
        exact .inl ⟨Wk.stop H2 hsm, k Dd H2 (s1.trans sm) (Same.free s1 nD) (.dic hD (re.same (hide_sub fun c z => by
          rcases z with z | z
          · rcases z with z | z
            · exact .inl (.inl z)
            · exact .inr z
          · exact .inl (.inr z))) kq)⟩
    · cases e
theorem df_dc {scope : Scope} (own : List (Str × Nat)) (hu : X.A.units + 64 < cLine) (hc : X.calm = true) (hN : X.N.Nodup) (hi : DI X tg iter it) {ifs : List Expr} (ok : BlkOk X.N X.env.scope scope own)
    (hg : DK.Blks X scope fun Y => DG Y tg is b) (ht : DK.Blks X scope fun Y => DTs Y ifs t) (hk : DK.Blks X scope fun Y => DE Y kx fk) (he : DK.Blks X scope fun Y => DE Y vx fv)
    (his : ∀ i ∈ is, i ∈ own.map (·.2) := by decide) (hs : ∀ x, foldedSetIterable iter X.env x = pure x := by intro _; rfl) :
    DF X (.DictComp kx vx [⟨tg, iter, ifs, 0⟩] scope pos) (eDc it (own.map (·.2)) b t fk fv) := PE.imp (DK.pe_tc (g := tDG X.K is b) (tt := tDT X.K t) (tk := tDE X.K fk) (tv := tDE X.K fv) (by omega) hc hN hi ok hg ht hk he hs) (tTc_D his)
theorem ds_setDc (i : Nat) {y : Str} {py spos : Pos} {scope : Scope} (own : List (Str × Nat)) (hu : X.A.units + 64 < cLine) (hc : X.calm = true) (hN : X.N.Nodup) (hy : X.N[i]? = some y) (hyl : X.env.scope.names.lookup y = some .local) {ifs : List Expr}
    (hsw : swapsWith (.DictComp kx vx [⟨tg, iter, ifs, 0⟩] scope pos) (some (.Name y py)) spos.line X.env = pure true) (hi : DI X tg iter it) (ok : BlkOk X.N X.env.scope scope own)
    (hg : DK.Blks X scope fun Y => DG Y tg is b) (ht : DK.Blks X scope fun Y => DTs Y ifs t) (hk : DK.Blks X scope fun Y => DE Y kx fk) (he : DK.Blks X scope fun Y => DE Y vx fv)
    (his : ∀ i ∈ is, i ∈ own.map (·.2) := by decide) (hs : ∀ x, foldedSetIterable iter X.env x = pure x := by intro _; rfl) :
    DS X (.Assign [.Name y py] (.DictComp kx vx [⟨tg, iter, ifs, 0⟩] scope pos) spos) (gSet i (eDc it (own.map (·.2)) b t fk fv)) := PS.imp (DK.ps_tc (g := tDG X.K is b) (tt := tDT X.K t) (tk := tDE X.K fk) (tv := tDE X.K fv) (by omega) hc hN hy hyl hsw hi ok hg ht hk he hs) fun N σ H h => by
  have z := set_post (K := X.K) (i := i) (f := eDc it (own.map (·.2)) b t fk fv) N σ H h
  exact tTc_D his σ H _ (tDE_F σ H _ z)
end
/-! ### == of two dicts with flat keys -/
def flats (ds : List (D × D)) : Bool := ds.all fun p => (keyD p.1).map DK.flat == some true
def hitsD (ys : List (D × D)) : List (D × D) → Option Bool
  | [] => some true
  | (x, v) :: r => (keyD x).bind fun k => match lookD ys k with
    | none => some false
    | some w => (toPy v).bind fun a => (toPy w).bind fun c => if SeqAt.shaped a && SeqAt.shaped c then (hitsD ys r).map fun b => PyData.eqv a c && b else none
def eqDic (neg : Bool) : D → D → Option D
  | .dic xs, .dic ys => if flats xs && flats ys && decide (xs.length ≤ 1000) then
      (if xs.length = ys.length then (hitsD ys xs).map fun r => .bl (neg != r) else some (.bl neg)) else none
  | _, _ => none
section
variable {X : Cx} {pins : List (Addr × Obj)} {σ : L2.St} {H Hh : Hp} {s : Shared}
theorem flats_keys {K : PySem.W.Frag} {es : List DK.Ent} {ds : List (D × D)} {b : Bool} (r : RepE K Hh es ds) (kq : Keys b es) (f : flats ds = true) : Keys true es := by
  refine ⟨kq.nd, fun e he => ⟨?_, (kq.kind e he).2⟩⟩
  have hm : (some e.1) ∈ ds.map fun p => keyD p.1 := by rw [repE_keys r]; exact List.mem_map.mpr ⟨e, he, rfl⟩
  obtain ⟨p, hp, ep⟩ := List.mem_map.mp hm
  have := (List.all_eq_true.mp f) p hp
  rw [ep] at this
  simpa using this
theorem rep_flat {K : PySem.W.Frag} {v : V} {d : D} {k : NestedKey} (r : Rep K Hh v d) (hk : keyD d = some k) (f : DK.flat k = true) : v = DK.vK k := by
  cases r with
  | non => simp [keyD] at hk; subst hk; rfl
  | int i => simp [keyD] at hk; subst hk; rfl
  | tup sq rs =>
    rw [keyD] at hk
    obtain ⟨ks, _, rfl⟩ := Option.map_eq_some_iff.mp hk
    simp [DK.flat] at f
  | _ => simp [keyD] at hk
theorem flats_flat {K : PySem.W.Frag} : ∀ {es : List DK.Ent} {ds : List (D × D)}, RepE K Hh es ds → (∀ x ∈ es, DK.flat x.1 = true ∧ x.1.depth ≤ 8) → DK.Flat es
  | _, _, .nil, _ => fun _ z => nomatch z
  | _, _, .cons hk r q t, h => fun x hx => by
    rcases List.mem_cons.mp hx with hx | hx
    · subst hx
      have f := (h _ (List.mem_cons_self ..)).1
      exact ⟨f, rep_flat r hk f⟩
    · exact flats_flat t (fun y hy => h y (List.mem_cons_of_mem _ hy)) x hx
theorem hits_of (I : L2.Inv X pins σ H s) (le : Same Hh H) (hu : X.A.units + 65 < cLine) {fs : List DK.Ent} {ys : List (D × D)} {vb : List (Option Key × Value)} (rf : RepE X.K Hh fs ys) (Ff : DK.Flat fs) (rb : KV (DK.okv fs) vb) :
    ∀ {es : List DK.Ent} {xs : List (D × D)} {va : List (Option Key × Value)} {r : Bool}, RepE X.K Hh es xs → DK.Flat es → KV (DK.okv es) va → hitsD ys xs = some r → PySem.W.KeqHits X.A.in1 s vb va r
  | [], _, va, r, .nil, _, ra, e => by
    cases ra
    simp only [hitsD, Option.some.injEq] at e
    subst e
    exact .nil
  | (k, kv, v) :: es, (x, d) :: xs, va, r, .cons hk rk rv t, F, ra, e => by
    have ra : KV ((DK.keyO k, v) :: DK.okv es) va := ra
    cases ra with
    | @cons _ q _ qs h tt =>
      obtain ⟨j, u⟩ := q
      obtain ⟨h1, h2⟩ := h
      have h1 : DK.keyO k = j := h1
      have h2 : RelV v u := h2
      subst h1
      simp only [hitsD, hk, Option.bind_some] at e
      have at_ := rep_at (k := k) rf
      have look : RelO (DK.atE fs k) (PySem.valueAt vb (DK.keyO k)) := by
        have := rb.val (DK.keyO k)
        rwa [DK.flat_at Ff (F _ (List.mem_cons_self ..)).1] at this
      cases el : lookD ys k with
      | none =>
        rw [el] at e at_
        simp only [Option.some.injEq] at e
        subst e
        simp only at at_
        rw [at_] at look
        exact .miss look.none_of
      | some w =>
        rw [el] at e at_
        simp only [Option.bind_eq_some_iff] at e
        obtain ⟨a, ea, c, ec, e⟩ := e
        split at e
        · rename_i hs
          rw [Bool.and_eq_true] at hs
          rw [Option.map_eq_some_iff] at e
          obtain ⟨b, eb, rfl⟩ := e
          obtain ⟨v', hv', rv'⟩ := at_
          rw [hv'] at look
          obtain ⟨y, hy, ry⟩ := look.some_of
          obtain ⟨as, r1⟩ := Dp.reads I a v u ((rv.same le).dp ea) h2
          obtain ⟨bs, r2⟩ := Dp.reads I c v' y ((rv'.same le).dp ec) ry
          refine .hit hy (SeqAt.eqAt_reads a c X.A.in1 s u y as bs r1 r2 (SeqAt.canLay_of_shaped hs.1) (SeqAt.canLay_of_shaped hs.2) (SeqAt.room_of_shaped hs.1 ?_)) (hits_of I le hu rf Ff rb t (fun z hz => F z (List.mem_cons_of_mem _ hz)) tt eb)
          show X.A.units + 1 + 64 < cLine
          omega
        · cases e
def rTEq (X : Cx) (neg : Bool) : R2 := fun x y H Q => ∃ a b o p es fs, x = .ref a ∧ y = .ref b ∧ Rd H a (DK.tab a o es) ∧ Rd H b (DK.tab b p fs) ∧ (es.map (·.1)).Nodup ∧ (fs.map (·.1)).Nodup ∧ DK.Flat es ∧ DK.Flat fs ∧
  ∃ r, (∀ pins σ s va vb, L2.Inv X pins σ H s → KV (DK.okv es) va → KV (DK.okv fs) vb → es.length = fs.length → PySem.W.KeqHits X.A.in1 s vb va r) ∧ Q (.bl (neg != (es.length == fs.length && r))) H
theorem tab_pair (I : L2.Inv X pins σ H s) {a b : Addr} {o p : Obj} {es fs : List DK.Ent} (ha : Rd H a (DK.tab a o es)) (hb : Rd H b (DK.tab b p fs)) (ne : (es.map (·.1)).Nodup) (nf : (fs.map (·.1)).Nodup) (Fe : DK.Flat es) (Ff : DK.Flat fs) {r : Bool}
    (hh : ∀ pins σ s va vb, L2.Inv X pins σ H s → KV (DK.okv es) va → KV (DK.okv fs) vb → es.length = fs.length → PySem.W.KeqHits X.A.in1 s vb va r) :
    ∃ va vb, (a == sysModules) = false ∧ (b == sysModules) = false ∧ s.heap.DictOf (noneKind X.prog X.w) a va ∧ s.heap.DictOf (noneKind X.prog X.w) b vb ∧ (va.length = vb.length → PySem.W.KeqHits X.A.in1 s vb va r) ∧ (va.length == vb.length) = (es.length == fs.length) := by
  have ta := DK.tab_at I ha
  have tb := DK.tab_at I hb
  obtain ⟨va, da, ra⟩ := DK.dictOf (P := X.prog) (w := X.w) ta Fe ne
  obtain ⟨vb, db, rb⟩ := DK.dictOf (P := X.prog) (w := X.w) tb Ff nf
  have la : va.length = es.length := by rw [← ra.length]; unfold DK.okv; rw [List.length_map]
  have lb : vb.length = fs.length := by rw [← rb.length]; unfold DK.okv; rw [List.length_map]
  exact ⟨va, vb, ta.2.1, tb.2.1, da, db, fun h => hh _ _ _ va vb I ra rb (by omega), by rw [la, lb]⟩
theorem op_eqT (hu : X.A.units < cLine) : OpR X (compareOp .Eq) (rTEq X false) := by
  intro pins s σ H x y v u Q I rx ry h
  obtain ⟨a, b, o, p, es, fs, rfl, rfl, ha, hb, ne, nf, Fe, Ff, r, hh, q⟩ := h
  cases DK.ref_of rx
  cases DK.ref_of ry
  obtain ⟨va, vb, ya, yb, da, db, hits, hl⟩ := tab_pair I ha hb ne nf Fe Ff hh
  exact PySem.W.keq_eq (r := r) ya yb da db hu hits (fin_bl I q (by rw [hl]; simp))
theorem op_neT (hu : X.A.units < cLine) : OpR X (compareOp .NotEq) (rTEq X true) := by
  intro pins s σ H x y v u Q I rx ry h
  obtain ⟨a, b, o, p, es, fs, rfl, rfl, ha, hb, ne, nf, Fe, Ff, r, hh, q⟩ := h
  cases DK.ref_of rx
  cases DK.ref_of ry
  obtain ⟨va, vb, ya, yb, da, db, hits, hl⟩ := tab_pair I ha hb ne nf Fe Ff hh
  exact PySem.W.keq_ne (r := r) ya yb da db hu hits (fin_bl I q (by rw [hl]; simp))
theorem eqDic_to (hu : X.A.units + 65 < cLine) {neg : Bool} {O : Addr → Prop} {x y : V} {p q d : D} {Q : VK} (hx : BV X.K (hide O H) H x p) (hy : BV X.K (hide O H) H y q) (e : eqDic neg p q = some d) (c : ∀ v H', Same H H' → Rep X.K (hide O H') v d → Q v H') : rTEq X neg x y H Q := by
  unfold eqDic at e
  split at e
  · rename_i xs ys
    split at e
    · rename_i hf
      rw [Bool.and_eq_true, Bool.and_eq_true] at hf
      obtain ⟨a, o, es, b1, rfl, ha, re, ka⟩ := hx.dic
      obtain ⟨b, o', fs, b2, rfl, hb, rf, kb⟩ := hy.dic
      have Ke := flats_keys re ka hf.1.1
      have Kf := flats_keys rf kb hf.1.2
      have Ff := flats_flat rf Kf.kind
      have Fe := flats_flat re Ke.kind
      have l1 := repE_len re
      have l2 := repE_len rf
      split at e
      · rename_i hl
        rw [Option.map_eq_some_iff] at e
        obtain ⟨r, er, rfl⟩ := e
        exact ⟨a, b, o, o', es, fs, rfl, rfl, .inl ha, .inl hb, ka.nd, kb.nd, Fe, Ff, r, fun pins σ s va vb I ra rb _ => hits_of I hide_le hu rf Ff rb re Fe ra er, by
          have z : (es.length == fs.length) = true := by rw [l1, l2, hl]; simp
          rw [z, Bool.true_and]; exact c _ _ (.refl _) (.bl _)⟩
      · rename_i hl
        cases e
        exact ⟨a, b, o, o', es, fs, rfl, rfl, .inl ha, .inl hb, ka.nd, kb.nd, Fe, Ff, true, fun pins σ s va vb I ra rb z => absurd (by omega) hl, by
          have z : (es.length == fs.length) = false := by rw [l1, l2]; simpa using hl
          rw [z, Bool.false_and]; simpa using c _ _ (.refl _) (.bl _)⟩
    · cases e
  · cases e
theorem od_eqDic (hu : X.A.units + 65 < cLine) : OpD X (compareOp .Eq) (eqDic false) := ⟨_, op_eqT (by omega), fun O H x y p q d Q hx hy e c _ => eqDic_to hu hx hy e c⟩
theorem od_neDic (hu : X.A.units + 65 < cLine) : OpD X (compareOp .NotEq) (eqDic true) := ⟨_, op_neT (by omega), fun O H x y p q d Q hx hy e c _ => eqDic_to hu hx hy e c⟩
end
end DL

set_option maxHeartbeats 4000000
/-! rules that serve several kinds of data at once -/
namespace DL
open PySem PySem.Spec PyProof.Rows L2
variable [CT]
section
variable {X : Cx} {tg e a b c : Expr} {es : List Expr} {f g fa fb k : DE1} {fs : DEnv → Option (List D)} {pos p : Pos}
theorem DE.two (h1 : DE X e f) (h2 : DE X e g) (hk : ∀ ρ d, k ρ = some d → f ρ = some d ∨ g ρ = some d) : DE X e k := ⟨fun pins s σ H Q I ⟨O0, ow, ρ, S, d, z, q⟩ =>
  (hk ρ d z).elim (fun z => h1.run pins s σ H Q I ⟨O0, ow, ρ, S, d, z, q⟩) fun z => h2.run pins s σ H Q I ⟨O0, ow, ρ, S, d, z, q⟩⟩
theorem DI.two {f g k : DEnv → Option (List D)} (h1 : DI X tg e f) (h2 : DI X tg e g) (hk : ∀ ρ d, k ρ = some d → f ρ = some d ∨ g ρ = some d) : DI X tg e k := ⟨fun pins s σ H Q I ⟨O0, ow, ρ, S, d, z, q⟩ =>
  (hk ρ d z).elim (fun z => h1.run pins s σ H Q I ⟨O0, ow, ρ, S, d, z, q⟩) fun z => h2.run pins s σ H Q I ⟨O0, ow, ρ, S, d, z, q⟩⟩
def gOr {α β : Type} (g g' : α → β → Option D) : α → β → Option D := fun x y => (g x y).or (g' x y)
theorem or_some {α : Type} {x y : Option α} {d : α} (h : x.or y = some d) : x = some d ∨ y = some d := by
  cases x with
  | none => exact .inr (by simpa using h)
  | some z => exact .inl (by simpa using h)
/-! what is walked: a list, a tuple, a dict's keys -/
def iA (f : DE1) : DEnv → Option (List D) := fun ρ => match f ρ with
  | some (.lst xs) => some xs
  | some (.tup xs) => some xs
  | some (.dic ds) => some (ds.map (·.1))
  | some (.scr ns) => (iL f ρ)
  | _ => none
theorem di_A (h : DE X e f) : DI X tg e (iA f) := DI.two (di_list h) (DI.two (di_tup h) (di_keysD h) (k := fun ρ => (iT f ρ).or (iKD f ρ)) fun ρ d z => or_some z) fun ρ d z => by
  unfold iA at z
  split at z
  · rename_i xs ef; cases z; left; unfold iL; rw [ef]
  · rename_i xs ef; cases z; right; unfold iT; rw [ef]; rfl
  · rename_i xs ef; cases z; right; unfold iT iKD; rw [ef]; rfl
  · exact .inl z
  · cases z
/-! subscripts -/
def gIxA : D → D → Option D := gOr gIx gIxD
theorem e2_or {g g' : D → D → Option D} {ρ : DEnv} {d : D} (z : e2 (gOr g g') fa fb ρ = some d) : e2 g fa fb ρ = some d ∨ e2 g' fa fb ρ = some d := by
  obtain ⟨x, y, h1, h2, h3⟩ := e2_some z
  rcases or_some h3 with h | h
  · left; unfold e2; rw [h1, h2]; exact h
  · right; unfold e2; rw [h1, h2]; exact h
theorem de_ixA (hu : X.A.units + 64 < cLine) (ha : DB X a fa) (hb : DB X b fb) (hs : PlainIx b := by exact fun _ _ => rfl) : DE X (.Subscript a b pos) (e2 gIxA fa fb) := DE.two (de_ix ha hb hs) (de_ixD hu ha hb hs) fun ρ d z => e2_or z
/-! operators -/
def gAddA : D → D → Option D := gOr gAddI (gOr gCat gCatT)
def gMulA : D → D → Option D := gOr gMulI (gOr gRep gRepT)
theorem od_addA : OpD X (binaryOp .Add) gAddA := OpD.or od_addI (OpD.or od_cat od_catT)
theorem OpD.of {f : Value → Value → Sem Value} {g : D → D → Option D} (h : OpF X f g) : OpD X f g := by
  obtain ⟨r, o, k⟩ := h
  exact ⟨r, o, fun O H x y p q d Q hx hy e c t => k O H x y p q d Q hx hy e (fun a H' s n tt => c (.ref a) H' s (tt.rep (hide_sub fun b z => .inl z) fun o q => hide_some.mpr ⟨fun z => (let ⟨u, w⟩ := t a z; by rw [n] at w; cases w), q⟩)) t⟩
theorem od_mulA : OpD X (binaryOp .Mult) gMulA := OpD.or od_mulI (OpD.or (OpD.of of_rep) od_repT)
def gEqA (neg : Bool) : D → D → Option D := gOr (eqD neg) (eqDic neg)
theorem od_eqA (h5 : X.A.units + 65 < cLine) : OpD X (compareOp .Eq) (gEqA false) := OpD.or (od_eq (by omega)) (od_eqDic h5)
theorem od_neA (h5 : X.A.units + 65 < cLine) : OpD X (compareOp .NotEq) (gEqA true) := OpD.or (od_ne (by omega)) (od_neDic h5)
def gInA (neg : Bool) : D → D → Option D := gOr (gInL neg) (gInD neg)
theorem od_inA (h5 : X.A.units + 65 < cLine) : OpD X (compareOp .In) (gInA false) := OpD.or (od_inL h5) (od_inD (by omega))
theorem od_notInA (h5 : X.A.units + 65 < cLine) : OpD X (compareOp .NotIn) (gInA true) := OpD.or (od_notInL h5) (od_notInD (by omega))
/-! len, list -/
def cOr (g g' : List D → Option D) : List D → Option D := fun x => (g x).or (g' x)
theorem CallF.or {v : Value} {g g' : List D → Option D} (h : CallF X v g) (h' : CallF X v g') : CallF X v (cOr g g') := by
  obtain ⟨r, o, k⟩ := h
  obtain ⟨r', o', k'⟩ := h'
  refine ⟨_, CallR.or2 o o', fun O H xs ds d Q hx e c t => ?_⟩
  rcases or_some e with z | z
  · exact .inl (k O H xs ds d Q hx z c t)
  · exact .inr (k' O H xs ds d Q hx z c t)
def gLenA : List D → Option D := cOr gLen gLenD
theorem cd_lenA : CallD X (.builtin "len") gLenA := CallD.or cd_len cd_lenD
def gListA : List D → Option D := cOr gListOf gListD
theorem cf_listA (hc : X.calm = true) : CallF X (.type "list") gListA := CallF.or cf_list (cf_listD hc)
/-! truth -/
def eTru (f : DE1) : DE1 := fun ρ => match f ρ with
  | some (.bl b) => some (.bl b)
  | some (.lst xs) => some (.bl (!xs.isEmpty))
  | some (.tup xs) => some (.bl (!xs.isEmpty))
  | _ => none
theorem dt_tru (h : DB X e f) (he : ∀ whole, isTrue e X.env whole = (do let v ← whole; standAt e.pos; holding [v] (truthy v)) := by intro _; rfl) : DT X e (eTru f) := PT.imp (pt_truth h he) fun σ H Q ⟨O0, ow, ρ, S, b, e, k⟩ => by
  unfold eTru at e
  split at e
  · rename_i b' ef
    cases e
    refine ⟨O0, ow, ρ, S, _, ef, fun v H1 s r => ?_⟩
    rcases r with r | ⟨a, rfl, t⟩
    · cases r; exact ⟨b, rfl, k _ s⟩
    · cases t
  · rename_i xs ef
    cases e
    refine ⟨O0, ow, ρ, S, _, ef, fun v H1 s r => ?_⟩
    obtain ⟨a, vs, rfl, ha, rs⟩ := r.lst hide_le
    have z : vs.isEmpty = xs.isEmpty := by cases rs <;> rfl
    exact ⟨_, .inl ⟨vs, SqL.of ha, rfl⟩, by rw [z]; exact k _ s⟩
  · rename_i xs ef
    cases e
    refine ⟨O0, ow, ρ, S, _, ef, fun v H1 s r => ?_⟩
    obtain ⟨a, vs, rfl, ha, rs⟩ := r.tup hide_le
    have z : vs.isEmpty = xs.isEmpty := by cases rs <;> rfl
    exact ⟨_, .inr (.inl ⟨vs, ha, rfl⟩), by rw [z]; exact k _ s⟩
  · cases e
/-! slices of tuples, not the whole -/
def eSlT (f : DE1) (l h : DEnv → Option (Option Int)) : DE1 := fun ρ => (f ρ).bind fun x => (l ρ).bind fun a => (h ρ).bind fun b => match x with
  | .tup xs => if HT.sIx xs.length 0 a = 0 ∧ HT.sIx xs.length xs.length b = xs.length then none else some (.tup (cutD xs a b))
  | _ => none
theorem de_slT {lo hi : Option Expr} {l h : DEnv → Option (Option Int)} {p2 : Pos} (he : DB X e f) (hl : DO X lo l) (hh : DO X hi h) : DE X (.Subscript e (.Slice lo hi none p2) pos) (eSlT f l h) := PE.imp (pe_slice sl_tup he hl hh) fun σ H Q ⟨O0, ow, ρ, S, d, e, k⟩ => by
  unfold eSlT at e
  simp only [Option.bind_eq_some_iff] at e
  obtain ⟨x, ex, lo', el, hi', eh, eg⟩ := e
  refine ⟨O0, ow, ρ, S, x, ex, fun v H1 s1 r1 => ⟨O0, ow, ρ, S.same s1, lo', el, fun H2 s2 => ⟨O0, ow, ρ, (S.same s1).same s2, hi', eh, fun H3 s3 => ?_⟩⟩⟩
  replace r1 := r1.same (hide_same (s2.trans s3)) (s2.trans s3)
  have s13 := s1.trans (s2.trans s3)
  split at eg
  · rename_i xs
    split at eg
    · cases eg
    · rename_i hw
      cases eg
      obtain ⟨a, vs, rfl, ha, rs⟩ := r1.tup hide_le
      have n := rs.length
      refine ⟨a, vs, rfl, ha, by rw [n]; exact hw, fun q nq => k _ _ (s13.trans (same_upd nq)) ?_⟩
      have nO := new_rep (K := X.K) ((S.same s13)).trk nq
      exact .tup (SqT.of (hide_some.mpr ⟨nO, upd_same⟩)) ((cut_reps rs lo' hi').same (hide_same (same_upd nq)))
  · cases eg
def oOr (f g : DE1) : DE1 := fun ρ => (f ρ).or (g ρ)
theorem de_slA {lo hi : Option Expr} {l h : DEnv → Option (Option Int)} {p2 : Pos} (he : DB X e f) (hl : DO X lo l) (hh : DO X hi h) : DE X (.Subscript e (.Slice lo hi none p2) pos) (oOr (eSl f l h) (eSlT f l h)) := DE.two (de_of (df_sl he hl hh)) (de_slT he hl hh) fun ρ d z => or_some z
/-! a call of nothing -/
theorem de_call0 {fa : Addr} {fd : FuncData} {ps : List Str} {k : Nat} {x : Str} {F : List D → Option D} (Fk : FnOk X.prog X.w X.K X.mg X.base CX0 k fa fd ps (spD X.K 0 F)) (hr : Room k X.A) (hg : Gl X x) (hm : X.mg x = some (.ref fa)) (hk : PySem.W.keepIn X.K (.ref fa) = true) (hb : Binds X.K fd ps [])
    (hdb : (x == ("__debug__" : Str)) = false := by decide) : DE X (.Call (.Name x p) [] [] pos) (eCall 0 F aNil) := PE.imp (pe_call0 Fk hr hg hm hk hb .nil pass0 hdb) fun σ H Q ⟨O0, ow, ρ, S, d, e, k⟩ =>
  ⟨rfl, hid O0 ow, [], S.trk, .nil, d, e, fun v H' s r => k v H' s r⟩
/-! a list that a name alone holds is lent: what comes back holds nothing -/
def flatD : D → Bool
  | .non => true
  | .bl _ => true
  | .int _ => true
  | .str _ => true
  | _ => false
def eLend (i : Nat) (f : DE1) : DE1 := fun ρ => match f (frz i ρ) with
  | some d => if flatD d then some d else none
  | none => none
theorem flat_rep {K : PySem.W.Frag} {H H' : Hp} {v : V} {d : D} (h : flatD d = true) (r : Rep K H v d) : Rep K H' v d := by
  cases r with
  | non => exact .non
  | bl b => exact .bl b
  | int b => exact .int b
  | str b => exact .str b
  | _ => cases h
theorem de_lend (i : Nat) (h : DE X e f) : DE X e (eLend i f) := PE.imp h fun σ H Q ⟨O0, ow, ρ, S, d, e, k⟩ => by
  unfold eLend at e
  split at e
  · split at e
    · rename_i hf
      cases e
      rename_i ef
      obtain ⟨ow', S', _⟩ := S.frz (i := i)
      exact ⟨O0, ow', _, S', d, ef, fun v H' s r => k v H' s (flat_rep hf r)⟩
    · cases e
  · cases e
/-! the table of methods -/
section
variable {P : Program} {w : World} {K : PySem.W.Frag} {mg : Str → Option Value} {base : Heap} {lev lv n kk : Nat} {m : Str} {dd : List D} {ks ps : List Str} {tbl : MTab} {F : List D → Option D} {g' : Addr} {fd : FuncData} {dvs : List V}
theorem MthD.nil : MthD P w K mg base lev m n dd [] := fun k F h => by simp at h
theorem MthD.cons (r : MthD P w K mg base lev m n dd tbl) (hlv : lv ≤ lev) (cl : Cls K (CT.ct kk)) (me : Meth K (CT.ct kk) m g') (fn : FnOk P w K mg base CX0 lv g' fd ps (spD K (n + dd.length + 1) F)) (rd : ∀ h, Reps K h dvs dd) (hb : ∃ ds, Vals dvs ds ∧ Binds K fd ps ds) : MthD P w K mg base lev m n dd ((kk, F) :: tbl) := fun k F' h => by
  rw [List.lookup_cons] at h
  by_cases e : k = kk
  · subst e
    simp at h
    subst h
    obtain ⟨ds, v, b⟩ := hb
    exact ⟨lv, g', fd, ps, hlv, cl, me, fn, dvs, ds, rd, v, b⟩
  · have : (k == kk) = false := by simpa using e
    rw [this] at h
    exact r k F' h
theorem MthK.nil : MthK P w K mg base lev m n ks [] := fun k F h => by simp at h
theorem MthK.cons (r : MthK P w K mg base lev m n ks tbl) (hlv : lv ≤ lev) (cl : Cls K (CT.ct kk)) (me : Meth K (CT.ct kk) m g') (fn : FnOk P w K mg base CX0 lv g' fd ps (spD K (n + ks.length + 1) F)) (hb : KBn K fd ps (n + 1) ks (fun us ws => us ++ ws) (fun vs zs => vs ++ zs)) : MthK P w K mg base lev m n ks ((kk, F) :: tbl) := fun k F' h => by
  rw [List.lookup_cons] at h
  by_cases e : k = kk
  · subst e
    simp at h
    subst h
    exact ⟨lv, g', fd, ps, hlv, cl, me, fn, hb⟩
  · have : (k == kk) = false := by simpa using e
    rw [this] at h
    exact r k F' h
end
end
end DL

set_option maxHeartbeats 4000000
/-! what the words do at an environment; fractions; the number drawn from a script -/
namespace DL
open PySem PySem.Spec PyProof.Rows L2
/-! ### fractions -/
abbrev Qp := Int × Int
def fr (a b : Int) : D := .tup [.int a, .int b]
def qd (p : Qp) : D := fr p.1 p.2
def low (t b : Int) : Qp := (t / (Nat.gcd t.natAbs b.natAbs : Nat), b / (Nat.gcd t.natAbs b.natAbs : Nat))
def qadd (p q : Qp) : Qp := low (p.1 * q.2 + q.1 * p.2) (p.2 * q.2)
def qsub (p q : Qp) : Qp := low (p.1 * q.2 - q.1 * p.2) (p.2 * q.2)
def qmul (p q : Qp) : Qp := low (p.1 * q.1) (p.2 * q.2)
def qlt (p q : Qp) : Bool := decide (p.1 * q.2 < q.1 * p.2)
structure Ok (n : Nat) (p : Qp) : Prop where
  pos : 0 < p.2
  cop : Nat.gcd p.1.natAbs p.2.natAbs = 1
  b1 : p.1.natAbs < 2 ^ n
  b2 : p.2.natAbs < 2 ^ n
theorem Ok.mono {n m : Nat} {p : Qp} (h : Ok n p) (l : n ≤ m) : Ok m p := ⟨h.pos, h.cop, Nat.lt_of_lt_of_le h.b1 (Nat.pow_le_pow_right (by decide) l), Nat.lt_of_lt_of_le h.b2 (Nat.pow_le_pow_right (by decide) l)⟩
theorem sz_of {a : Int} {n : Nat} (h : a.natAbs < 2 ^ n) (l : n ≤ 8000) : sz a = true := by
  unfold sz
  apply decide_eq_true
  by_cases h0 : a.natAbs = 0
  · rw [h0]; decide
  · exact (Nat.log2_lt h0).mpr (Nat.lt_of_lt_of_le h (Nat.pow_le_pow_right (by decide) l))
theorem g_pos {t b : Int} (h : 0 < b) : 0 < Nat.gcd t.natAbs b.natAbs := Nat.gcd_pos_of_pos_right _ (by omega)
theorem low_val {t b : Int} (h : 0 < b) : (low t b).1 * b = t * (low t b).2 := by
  unfold low
  have d1 : ((Nat.gcd t.natAbs b.natAbs : Nat) : Int) ∣ t := Int.ofNat_dvd_left.mpr (Nat.gcd_dvd_left _ _)
  have d2 : ((Nat.gcd t.natAbs b.natAbs : Nat) : Int) ∣ b := Int.ofNat_dvd_left.mpr (Nat.gcd_dvd_right _ _)
  generalize ((Nat.gcd t.natAbs b.natAbs : Nat) : Int) = g at *
  obtain ⟨x, rfl⟩ := d1
  obtain ⟨y, rfl⟩ := d2
  have hg : g ≠ 0 := by rintro rfl; simp at h
  show g * x / g * (g * y) = g * x * (g * y / g)
  rw [Int.mul_ediv_cancel_left _ hg, Int.mul_ediv_cancel_left _ hg]
  rw [Int.mul_left_comm, Int.mul_assoc]
theorem low_ok {t b : Int} {n : Nat} (h : 0 < b) (h1 : t.natAbs < 2 ^ n) (h2 : b.natAbs < 2 ^ n) : Ok n (low t b) := by
  have d1 : (Nat.gcd t.natAbs b.natAbs) ∣ t.natAbs := Nat.gcd_dvd_left _ _
  have d2 : (Nat.gcd t.natAbs b.natAbs) ∣ b.natAbs := Nat.gcd_dvd_right _ _
  have hg : 0 < Nat.gcd t.natAbs b.natAbs := g_pos h
  have e1 : (t / ((Nat.gcd t.natAbs b.natAbs : Nat) : Int)).natAbs = t.natAbs / Nat.gcd t.natAbs b.natAbs := by
    rw [Int.natAbs_ediv_of_dvd (Int.ofNat_dvd_left.mpr d1)]; rfl
  have e2 : (b / ((Nat.gcd t.natAbs b.natAbs : Nat) : Int)).natAbs = b.natAbs / Nat.gcd t.natAbs b.natAbs := by
    rw [Int.natAbs_ediv_of_dvd (Int.ofNat_dvd_left.mpr d2)]; rfl
  refine ⟨?_, ?_, ?_, ?_⟩
  · have := Nat.div_pos (Nat.le_of_dvd (by omega) d2) hg
    have h3 : 0 ≤ b / ((Nat.gcd t.natAbs b.natAbs : Nat) : Int) := Int.ediv_nonneg (by omega) (by omega)
    show 0 < b / ((Nat.gcd t.natAbs b.natAbs : Nat) : Int)
    omega
  · show Nat.gcd (t / ((Nat.gcd t.natAbs b.natAbs : Nat) : Int)).natAbs (b / ((Nat.gcd t.natAbs b.natAbs : Nat) : Int)).natAbs = 1
    rw [e1, e2]
    exact Nat.coprime_div_gcd_div_gcd hg
  · exact Nat.lt_of_le_of_lt (by show (t / ((Nat.gcd t.natAbs b.natAbs : Nat) : Int)).natAbs ≤ _; rw [e1]; exact Nat.div_le_self _ _) h1
  · exact Nat.lt_of_le_of_lt (by show (b / ((Nat.gcd t.natAbs b.natAbs : Nat) : Int)).natAbs ≤ _; rw [e2]; exact Nat.div_le_self _ _) h2
theorem mulb {a b : Int} {n m : Nat} (h1 : a.natAbs < 2 ^ n) (h2 : b.natAbs < 2 ^ m) : (a * b).natAbs < 2 ^ (n + m) := by
  rw [Int.natAbs_mul, Nat.pow_add]
  exact Nat.mul_lt_mul'' h1 h2
theorem addb {a b : Int} {n : Nat} (h1 : a.natAbs < 2 ^ n) (h2 : b.natAbs < 2 ^ n) : (a + b).natAbs < 2 ^ (n + 1) := by
  rw [Nat.pow_succ]; omega
theorem subb {a b : Int} {n : Nat} (h1 : a.natAbs < 2 ^ n) (h2 : b.natAbs < 2 ^ n) : (a - b).natAbs < 2 ^ (n + 1) := by
  rw [Nat.pow_succ]; omega
theorem qadd_ok {p q : Qp} {n m : Nat} (hp : Ok n p) (hq : Ok m q) : Ok (n + m + 1) (qadd p q) := by
  refine low_ok (Int.mul_pos hp.pos hq.pos) (addb (mulb hp.b1 hq.b2) ?_) (Nat.lt_of_lt_of_le (mulb hp.b2 hq.b2) (Nat.pow_le_pow_right (by decide) (Nat.le_succ _)))
  rw [Nat.add_comm]
  exact mulb hq.b1 hp.b2
theorem qsub_ok {p q : Qp} {n m : Nat} (hp : Ok n p) (hq : Ok m q) : Ok (n + m + 1) (qsub p q) := by
  refine low_ok (Int.mul_pos hp.pos hq.pos) (subb (mulb hp.b1 hq.b2) ?_) (Nat.lt_of_lt_of_le (mulb hp.b2 hq.b2) (Nat.pow_le_pow_right (by decide) (Nat.le_succ _)))
  rw [Nat.add_comm]
  exact mulb hq.b1 hp.b2
theorem qmul_ok {p q : Qp} {n m : Nat} (hp : Ok n p) (hq : Ok m q) : Ok (n + m) (qmul p q) := low_ok (Int.mul_pos hp.pos hq.pos) (mulb hp.b1 hq.b1) (mulb hp.b2 hq.b2)
/-- lowest terms tell a fraction -/
theorem q_ext {p q : Qp} {n m : Nat} (hp : Ok n p) (hq : Ok m q) (h : p.1 * q.2 = q.1 * p.2) : p = q := by
  have hn : p.1.natAbs * q.2.natAbs = q.1.natAbs * p.2.natAbs := by rw [← Int.natAbs_mul, ← Int.natAbs_mul, h]
  have d1 : p.2.natAbs ∣ q.2.natAbs := by
    have : p.2.natAbs ∣ p.1.natAbs * q.2.natAbs := ⟨q.1.natAbs, by rw [hn, Nat.mul_comm]⟩
    exact Nat.Coprime.dvd_of_dvd_mul_left (by rw [Nat.Coprime, Nat.gcd_comm]; exact hp.cop) this
  have d2 : q.2.natAbs ∣ p.2.natAbs := by
    have : q.2.natAbs ∣ q.1.natAbs * p.2.natAbs := ⟨p.1.natAbs, by rw [← hn, Nat.mul_comm]⟩
    exact Nat.Coprime.dvd_of_dvd_mul_left (by rw [Nat.Coprime, Nat.gcd_comm]; exact hq.cop) this
  have e2 : p.2 = q.2 := by
    have := Nat.dvd_antisymm d1 d2
    have := hp.pos; have := hq.pos
    omega
  have e1 : p.1 = q.1 := by
    rw [e2] at h
    exact Int.eq_of_mul_eq_mul_right (by have := hq.pos; omega) h
  exact Prod.ext e1 e2
/-- (x - y) + y is x -/
theorem sub_add {x y : Qp} {n m : Nat} (hx : Ok n x) (hy : Ok m y) : qadd (qsub x y) y = x := by
  have hs := qsub_ok hx hy
  refine q_ext (qadd_ok hs hy) hx ?_
  have v1 := low_val (t := x.1 * y.2 - y.1 * x.2) (Int.mul_pos hx.pos hy.pos)
  have v2 := low_val (t := (qsub x y).1 * y.2 + y.1 * (qsub x y).2) (Int.mul_pos hs.pos hy.pos)
  change (qsub x y).1 * (x.2 * y.2) = (x.1 * y.2 - y.1 * x.2) * (qsub x y).2 at v1
  change (qadd (qsub x y) y).1 * ((qsub x y).2 * y.2) = ((qsub x y).1 * y.2 + y.1 * (qsub x y).2) * (qadd (qsub x y) y).2 at v2
  generalize (qsub x y).1 = s1 at *
  generalize es2 : (qsub x y).2 = s2 at *
  generalize (qadd (qsub x y) y).1 = r1 at *
  generalize (qadd (qsub x y) y).2 = r2 at *
  have hs2 : 0 < s2 := by have := hs.pos; omega
  have hy2 := hy.pos
  obtain ⟨x1, x2⟩ := x
  obtain ⟨y1, y2⟩ := y
  try simp only at *
  have hne : s2 * y2 * y2 ≠ 0 := Int.ne_of_gt (Int.mul_pos (Int.mul_pos hs2 hy2) hy2)
  apply Int.eq_of_mul_eq_mul_right hne
  have w1 : s1 * y2 * (x2 * y2) = (x1 * y2 - y1 * x2) * s2 * y2 := by
    rw [← v1, Int.mul_right_comm]
  calc r1 * x2 * (s2 * y2 * y2) = (r1 * (s2 * y2)) * (x2 * y2) := by ac_rfl
    _ = ((s1 * y2 + y1 * s2) * r2) * (x2 * y2) := by rw [v2]
    _ = (s1 * y2 * (x2 * y2) + y1 * s2 * (x2 * y2)) * r2 := by rw [Int.add_mul, Int.add_mul, Int.add_mul]; ac_rfl
    _ = ((x1 * y2 - y1 * x2) * s2 * y2 + y1 * s2 * (x2 * y2)) * r2 := by rw [w1]
    _ = x1 * r2 * (s2 * y2 * y2) := by
      rw [Int.sub_mul, Int.sub_mul]
      have : y1 * x2 * s2 * y2 = y1 * s2 * (x2 * y2) := by ac_rfl
      rw [this, Int.sub_add_cancel]
      ac_rfl
/-! ### what each word does at an environment -/
section
variable {ρ : DEnv} {d : D} {i j n : Nat} {f g c fa fb : DE1} {fs : DEnv → Option (List D)} {s s' : DS1} {op op' : D → D → Option D} {F : List D → Option D}
theorem ap_C : eC d ρ = some d := rfl
theorem ap_V : eV i ρ = match ρ[i]? with | some (some (false, d)) => some d | _ => none := rfl
theorem ap_VB : eVB i ρ = match ρ[i]? with | some (some (_, d)) => some d | _ => none := rfl
theorem ap_2 : DL.e2 op fa fb ρ = (fa ρ).bind fun x => (fb ρ).bind fun y => op x y := rfl
theorem ap_Nil : aNil ρ = some [] := rfl
theorem ap_Cons : aCons f fs ρ = (f ρ).bind fun x => (fs ρ).map (x :: ·) := rfl
theorem ap_Tup : eTup fs ρ = (fs ρ).bind fun ds => if ds.length ≤ 1000 then some (.tup ds) else none := rfl
theorem ap_Lst : eLst fs ρ = (fs ρ).bind fun ds => if ds.length ≤ 1000 then some (.lst ds) else none := rfl
theorem ap_Call : eCall n F fs ρ = (fs ρ).bind fun ds => if ds.length = n then F ds else none := rfl
theorem ap_CB : eCB F fs ρ = (fs ρ).bind F := rfl
theorem ap_Not : eNot f ρ = match f ρ with | some (.bl b) => some (.bl (!b)) | _ => none := rfl
theorem ap_And : eAnd fa fb ρ = match fa ρ with | some (.bl true) => fb ρ | some (.bl false) => some (.bl false) | _ => none := rfl
theorem ap_Or : eOr fa fb ρ = match fa ρ with | some (.bl true) => some (.bl true) | some (.bl false) => fb ρ | _ => none := rfl
theorem ap_If : eIf c f g ρ = match c ρ with | some (.bl true) => f ρ | some (.bl false) => g ρ | _ => none := rfl
theorem ap_Ch : eCh op op' fa fb c ρ = (fa ρ).bind fun x => (fb ρ).bind fun y => match op x y with | some (.bl true) => (c ρ).bind fun z => op' y z | some (.bl false) => some (.bl false) | _ => none := rfl
theorem ap_Set : gSet i f ρ = match f ρ with | some d => .nx (ρ.set i (some (false, d))) | none => .stuck := rfl
theorem ap_SetF : gSetF i f ρ = match f ρ with | some d => .nx (ρ.set i (some (true, d))) | none => .stuck := rfl
theorem ap_Seq : gSeq s s' ρ = match s ρ with | .nx ρ1 => s' ρ1 | x => x := rfl
theorem ap_IfS : gIf c s s' ρ = match c ρ with | some (.bl true) => s ρ | some (.bl false) => s' ρ | _ => .stuck := rfl
theorem ap_Nx : gNx ρ = .nx ρ := rfl
theorem ap_Exp : gExp f ρ = match f ρ with | some _ => .nx ρ | none => .stuck := rfl
theorem ap_Par : gPar i j fs ρ = match fs ρ with | some [x, y] => .nx ((ρ.set i (some (false, x))).set j (some (false, y))) | _ => .stuck := rfl
theorem ap_ParF : gParF i j f g ρ = match f ρ, g ρ with | some x, some y => .nx ((ρ.set i (some (true, x))).set j (some (true, y))) | _, _ => .stuck := rfl
theorem ap_Wh {fu : DEnv → Nat} : gWh fu c s ρ = whL c s (fu ρ) ρ := rfl
theorem ap_For {it : DEnv → Option (List D)} {b : D → DEnv → Option DEnv} : gFor it b s ρ = match it ρ with | some ds => forL b s ds ρ | none => .stuck := rfl
theorem ap_iL : iL f ρ = match f ρ with | some (.lst ds) => some ds | _ => none := rfl
theorem ap_iT : iT f ρ = match f ρ with | some (.tup ds) => some ds | _ => none := rfl
theorem ap_iZX : iZX f g ρ = ((f ρ).bind seqD).bind fun xs => ((g ρ).bind seqD).map fun ys => zipD xs ys := rfl
theorem ap_iR1 : iR1 f ρ = match f ρ with | some (.int j) => if rngOk 0 j then some (rngD 0 j) else none | _ => none := rfl
theorem ap_Isi {n : String} : eIsi n f ρ = (f ρ).bind (gIsi n) := rfl
theorem ap_Fld {ks : List Nat} {x : Str} : eFld ks x f ρ = match f ρ with | some (.ins k fs) => if ks.contains k then fs.lookup x else none | _ => none := rfl
theorem ap_IsC {ks : List Nat} {C : Nat} : eIsC ks C f ρ = match f ρ with | some (.ins k _) => if ks.contains k then some (.bl (k == C)) else none | _ => none := rfl
theorem ap_App : gApp i f ρ = match f ρ, ρ[i]? with | some d, some (some (true, .lst ds)) => if ds.length < 1000 then .nx (ρ.set i (some (true, .lst (ds ++ [d])))) else .stuck | _, _ => .stuck := rfl
theorem ap_Make {C : Nat} {G : List D → Option (List (Str × D))} : eMake C n G fs ρ = (fs ρ).bind fun ds => if ds.length = n then (G ds).map (.ins C) else none := rfl
theorem ap_Asg {b : D → DEnv → Option DEnv} : gAsg f b ρ = match (f ρ).bind fun d => b d ρ with | some ρ' => .nx ρ' | none => .stuck := rfl
theorem back_ret (f : DE1) (ρ : DEnv) : backD (gRet f ρ) = f ρ := by unfold gRet; cases f ρ <;> rfl
theorem ap_Ret (h : f ρ = some d) : gRet f ρ = .rt d := by unfold gRet; rw [h]
theorem ap_bN : bN i d ρ = some (ρ.set i (some (false, d))) := rfl
theorem ap_bT {b : List D → DEnv → Option DEnv} {ds : List D} : bT b (.tup ds) ρ = b ds ρ := rfl
theorem ap_bC {b : D → DEnv → Option DEnv} {bs : List D → DEnv → Option DEnv} {ds : List D} : bCons b bs (d :: ds) ρ = (b d ρ).bind (bs ds) := rfl
theorem ap_b0 : bNil [] ρ = some ρ := rfl
end
theorem bind_s {α β : Type} (a : α) (f : α → Option β) : (some a).bind f = f a := rfl
theorem ix0 (a b : Int) : gIx (fr a b) (.int 0) = some (.int a) := rfl
theorem ix1 (a b : Int) : gIx (fr a b) (.int 1) = some (.int b) := rfl
theorem mMul_eq {a b : Int} (ha : sz a = true) (hb : sz b = true) : gMulI (.int a) (.int b) = some (.int (a * b)) := by
  show mMul a b = _; unfold mMul; rw [ha, hb]; rfl
theorem mDiv_eq {a b : Int} (h0 : 0 < b) (hb : sz b = true) : gDivI (.int a) (.int b) = some (.int (a / b)) := by
  show mDiv a b = _; unfold mDiv; rw [hb, decide_eq_true h0]; rfl
theorem mMod_eq {a b : Int} (h0 : 0 < b) : gModI (.int a) (.int b) = some (.int (a % b)) := by
  show mMod a b = _; unfold mMod; rw [if_pos h0]
theorem gAdd_eq (a b : Int) : gAddI (.int a) (.int b) = some (.int (a + b)) := rfl
theorem gSub_eq (a b : Int) : gSubI (.int a) (.int b) = some (.int (a - b)) := rfl
theorem gLt_eq (a b : Int) : gLt (.int a) (.int b) = some (.bl (decide (a < b))) := rfl
theorem gLe_eq (a b : Int) : gLe (.int a) (.int b) = some (.bl (decide (a ≤ b))) := rfl
theorem gGt_eq (a b : Int) : gGt (.int a) (.int b) = some (.bl (decide (b < a))) := rfl
theorem gGe_eq (a b : Int) : gGe (.int a) (.int b) = some (.bl (decide (b ≤ a))) := rfl
theorem gGcd_eq (a b : Int) : gGcd [.int a, .int b] = some (.int (Nat.gcd a.natAbs b.natAbs : Nat)) := rfl
theorem gInt_eq (a : Int) : gInt [.int a] = some (.int a) := rfl

theorem gAddA_eq (a b : Int) : gAddA (.int a) (.int b) = some (.int (a + b)) := rfl
theorem mMulA_eq {a b : Int} (ha : sz a = true) (hb : sz b = true) : gMulA (.int a) (.int b) = some (.int (a * b)) := by
  unfold gMulA gOr
  rw [mMul_eq ha hb]; rfl
theorem gLenA_lst (xs : List D) : gLenA [.lst xs] = some (.int xs.length) := rfl
theorem gLenA_tup (xs : List D) : gLenA [.tup xs] = some (.int xs.length) := rfl
theorem gEqA_int (a b : Int) : gEqA false (.int a) (.int b) = some (.bl (a == b)) := rfl
theorem gEqA_int' (a b : Int) : gEqA true (.int a) (.int b) = some (.bl (!(a == b))) := rfl
theorem ixA0 (a b : Int) : gIxA (fr a b) (.int 0) = some (.int a) := rfl
theorem ixA1 (a b : Int) : gIxA (fr a b) (.int 1) = some (.int b) := rfl
theorem or_left {f g : DE1} {ρ : DEnv} {d : D} (h : f ρ = some d) : oOr f g ρ = some d := by unfold oOr; rw [h]; rfl
theorem gOr_left {g g' : D → D → Option D} {x y d : D} (h : g x y = some d) : gOr g g' x y = some d := by unfold gOr; rw [h]; rfl
theorem intsOf_map : ∀ l : List Int, intsOf (l.map D.int) = some l
  | [] => rfl
  | x :: l => by simp only [List.map_cons, intsOf, intsOf_map l, Option.map_some]
theorem gSum_lst (l : List Int) : gSum [.lst (l.map .int)] = some (.int l.sum) := by
  show (intsOf _).map _ = _
  rw [intsOf_map]
  rfl
theorem at_map {α : Type} {f : α → D} {l : List α} {i : Nat} {x : α} (h : l[i]? = some x) : atI (l.map f) (i : Int) = some (f x) := atI_nat (by rw [List.getElem?_map, h]; rfl)
theorem ixA_lst_map {α : Type} {f : α → D} {l : List α} {i : Nat} {x : α} (h : l[i]? = some x) : gIxA (.lst (l.map f)) (.int i) = some (f x) := gOr_left (at_map h)
theorem ixA_tup_map {α : Type} {f : α → D} {l : List α} {i : Nat} {x : α} (h : l[i]? = some x) : gIxA (.tup (l.map f)) (.int i) = some (f x) := gOr_left (at_map h)
/-! ### numbers drawn from the script -/
theorem lay_ints : ∀ l : List Int, PyData.canLayAll0 (l.map .int) = true
  | [] => rfl
  | x :: l => by
    show (PyData.canLay0 (.int x) && PyData.canLayAll0 (l.map .int)) = true
    rw [lay_ints l]; rfl
theorem depth_ints : ∀ l : List Int, PyData.depthAll (l.map .int) = 0
  | [] => rfl
  | x :: l => by
    show max 0 (PyData.depthAll (l.map .int)) = 0
    rw [depth_ints l]; rfl
theorem shaped_ints (l : List Int) (h : l.length ≤ 1000) : SeqAt.shaped (.list (l.map .int)) = true := by
  unfold SeqAt.shaped
  rw [Bool.and_eq_true]
  constructor
  · have := lay_ints l
    simp only [PyData.canLay0, this]
  · show decide (PyData.depthAll (l.map .int) + 1 ≤ 64) = true
    rw [depth_ints]; rfl
theorem script_ne (ns : List Int) (h : ns.length ≤ 63) : eqD true (.scr ns) (.lst []) = some (.bl (!ns.isEmpty)) := by
  have h1 := shaped_ints ns (by omega)
  have h2 : SeqAt.shaped (.list []) = true := shaped_ints [] (by decide)
  show (if SeqAt.shaped (.list (ns.map .int)) && SeqAt.shaped (.list []) then some (D.bl (if true = true then !PyData.eqv (.list (ns.map .int)) (.list []) else _)) else none) = _
  rw [h1, h2]
  cases ns <;> rfl
theorem script_neA (ns : List Int) (h : ns.length ≤ 63) : gEqA true (.scr ns) (.lst []) = some (.bl (!ns.isEmpty)) := gOr_left (script_ne ns h)
/-- a number drawn from the script: the laws' own first def -/
def gNum : DS1 := (gSeq (gSet 2 (eIf (e2 (gEqA true) (eVB 0) (eLst aNil)) (oOr (eSl (eVB 0) oNone (oSome (eC (.int 63)))) (eSlT (eVB 0) oNone (oSome (eC (.int 63))))) (eLst (aCons (eC (.int 5)) aNil))))
  (gSeq (gSet 3 (e2 gAddA (e2 gIxA (eVB 2) (e2 gModI (eCB gInt (aCons (eVB 1) aNil)) (eCB gLenA (aCons (eVB 2) aNil)))) (e2 gMulA (eC (.int 13)) (e2 gDivI (eVB 1) (eCB gLenA (aCons (eVB 2) aNil))))))
  (gSeq (gPar 4 5 (aCons (e2 gModI (eCB gInt (aCons (eVB 3) aNil)) (eC (.int 1000003))) (aCons (e2 gModI (eCB gInt (aCons (e2 gDivI (eVB 3) (eC (.int 1000003))) aNil)) (eC (.int 999983))) aNil)))
  (gSeq (gSet 6 (e2 gModI (eCB gInt (aCons (e2 gAddA (e2 gAddA (e2 gMulA (e2 gAddA (eVB 4) (e2 gMulA (eC (.int 977)) (eVB 1))) (eC (.int 48271))) (e2 gMulA (eC (.int 31)) (eVB 5))) (e2 gModI (eCB gInt (aCons (eCB gSum (aCons (eVB 2) aNil)) aNil)) (eC (.int 65521)))) aNil)) (eC (.int 2147483647))))
  (gRet (e2 gAddA (e2 gMulA (e2 gModI (eCB gInt (aCons (e2 gMulA (eVB 6) (e2 gAddA (e2 gAddA (eVB 6) (e2 gMulA (eC (.int 31)) (eVB 1))) (eC (.int 7)))) aNil)) (eC (.int 2147483629))) (eC (.int 65537))) (eVB 5)))))))
theorem num_ex (ns : List Int) (h : ns.length ≤ 63) {i : Int} (h0 : 0 ≤ i) (h1 : i ≤ 100000) : ∃ n : Int, mkF 7 gNum [.scr ns, .int i] = some (.int n) := by
  obtain ⟨L, hL, hl, e⟩ : ∃ L : List Int, L ≠ [] ∧ L.length ≤ 63 ∧ eIf (DL.e2 (gEqA true) (eVB 0) (eLst aNil)) (oOr (eSl (eVB 0) oNone (oSome (eC (.int 63)))) (eSlT (eVB 0) oNone (oSome (eC (.int 63))))) (eLst (aCons (eC (.int 5)) aNil)) [some (false, .scr ns), some (false, .int i), none, none, none, none, none] = some (.lst (L.map .int)) := by
    cases ns with
    | nil => exact ⟨[5], by decide, by decide, by simp only [mkF, startD, ap_Seq, back_ret, ap_Set, ap_SetF, ap_Call, ap_CB, ap_Cons, ap_Nil, ap_2, ap_C, ap_V, ap_VB, ap_Tup, ap_Lst, ap_If, ap_Not, ap_Nx, ap_Exp, ap_Par, ap_ParF, ap_Wh, ap_For, ap_IfS, ap_bN, ap_bT, ap_bC, ap_b0, ix0, ix1, gAdd_eq, gAddA_eq, gEqA_int, gEqA_int', ixA0, ixA1, gSub_eq, List.map_cons, List.map_nil, List.length_cons, List.length_nil, List.cons_append, List.nil_append, List.replicate, List.getElem?_cons_zero, List.getElem?_cons_succ, List.set_cons_zero, List.set_cons_succ, bind_s, Option.map_some, if_true, Nat.reduceAdd, Nat.reduceSub, Nat.reduceLeDiff, reduceIte, script_neA [] (by decide)]; rfl⟩
    | cons x r =>
      refine ⟨x :: r, by simp, h, ?_⟩
      have e1 : DL.cutD (x :: r) none (some 63) = x :: r := by
        unfold DL.cutD
        rw [HT.sIx_none, show HT.sIx (x :: r).length (x :: r).length (some 63) = min 63 (x :: r).length from HT.sIx_nat _ _ 63]
        rw [List.drop_zero, Nat.sub_zero, Nat.min_eq_right h, List.take_length]
      have e2 : eSl (eVB 0) oNone (oSome (eC (.int 63))) [some (false, .scr (x :: r)), some (false, .int i), none, none, none, none, none] = some (.lst ((x :: r).map .int)) := by
        show gSl (.scr (x :: r)) none (some 63) = _
        show some (D.lst ((DL.cutD (x :: r) none (some 63)).map D.int)) = _
        rw [e1]
      have e3 := or_left (g := eSlT (eVB 0) oNone (oSome (eC (.int 63)))) e2
      simp only [mkF, startD, ap_Seq, back_ret, ap_Set, ap_SetF, ap_Call, ap_CB, ap_Cons, ap_Nil, ap_2, ap_C, ap_V, ap_VB, ap_Tup, ap_Lst, ap_If, ap_Not, ap_Nx, ap_Exp, ap_Par, ap_ParF, ap_Wh, ap_For, ap_IfS, ap_bN, ap_bT, ap_bC, ap_b0, ix0, ix1, gAdd_eq, gAddA_eq, gEqA_int, gEqA_int', ixA0, ixA1, gSub_eq, List.map_cons, List.map_nil, List.length_cons, List.length_nil, List.cons_append, List.nil_append, List.replicate, List.getElem?_cons_zero, List.getElem?_cons_succ, List.set_cons_zero, List.set_cons_succ, bind_s, Option.map_some, if_true, Nat.reduceAdd, Nat.reduceSub, Nat.reduceLeDiff, reduceIte, script_neA (x :: r) h, List.isEmpty_cons, Bool.not_false]
      exact e3
  have hp : (0 : Int) < L.length := by
    cases L with
    | nil => exact absurd rfl hL
    | cons x r => simp
  have el : gLenA [.lst (L.map D.int)] = some (.int L.length) := by rw [gLenA_lst, List.length_map]
  have hm0 := Int.emod_nonneg i (show (L.length : Int) ≠ 0 by omega)
  have hm1 := Int.emod_lt_of_pos i hp
  have hd0 : 0 ≤ i / (L.length : Int) := Int.ediv_nonneg h0 (by omega)
  have hd1 : i / (L.length : Int) ≤ i := Int.ediv_le_self _ h0
  obtain ⟨k, hk⟩ : ∃ k : Nat, i % (L.length : Int) = k := ⟨(i % (L.length : Int)).toNat, by omega⟩
  obtain ⟨x, hx⟩ : ∃ x, L[k]? = some x := ⟨_, List.getElem?_eq_getElem (show k < L.length by omega)⟩
  have ex : gIxA (.lst (L.map D.int)) (.int (i % (L.length : Int))) = some (.int x) := by rw [hk]; exact ixA_lst_map hx
  have s1 : sz (L.length : Int) = true := sz_of (n := 10) (by omega) (by omega)
  have s2 : sz 13 = true := by decide
  have s3 : sz (i / (L.length : Int)) = true := sz_of (n := 20) (by omega) (by omega)
  have s4 : sz 1000003 = true := by decide
  have bnd : ∀ (a m : Int), 0 < m → m ≤ 2147483647 → 0 ≤ a % m ∧ a % m < 2147483647 := fun a m hm hm2 => ⟨Int.emod_nonneg _ (by omega), Int.lt_of_lt_of_le (Int.emod_lt_of_pos _ hm) hm2⟩
  generalize hA : (x + 13 * (i / (L.length : Int))) % 1000003 = A
  generalize hB : (x + 13 * (i / (L.length : Int))) / 1000003 % 999983 = B
  have bA : 0 ≤ A ∧ A < 2147483647 := hA ▸ bnd _ 1000003 (by decide) (by decide)
  have bB : 0 ≤ B ∧ B < 2147483647 := hB ▸ bnd _ 999983 (by decide) (by decide)
  generalize hM : ((A + 977 * i) * 48271 + 31 * B + L.sum % 65521) % 2147483647 = M
  have bM : 0 ≤ M ∧ M < 2147483647 := hM ▸ bnd _ 2147483647 (by decide) (by decide)
  have t1 : sz 977 = true := by decide
  have t2 : sz i = true := sz_of (n := 20) (by omega) (by omega)
  have t3 : sz (A + 977 * i) = true := sz_of (n := 40) (by omega) (by omega)
  have t4 : sz 48271 = true := by decide
  have t5 : sz 31 = true := by decide
  have t6 : sz B = true := sz_of (n := 40) (by omega) (by omega)
  have t7 : sz M = true := sz_of (n := 40) (by omega) (by omega)
  have t8 : sz (M + 31 * i + 7) = true := sz_of (n := 40) (by omega) (by omega)
  have t9 : sz (M * (M + 31 * i + 7) % 2147483629) = true := by
    have := bnd (M * (M + 31 * i + 7)) 2147483629 (by decide) (by decide)
    exact sz_of (n := 40) (by omega) (by omega)
  have t10 : sz 65537 = true := by decide
  refine ⟨M * (M + 31 * i + 7) % 2147483629 * 65537 + B, ?_⟩
  simp only [gNum, mkF, startD, ap_Seq, ap_Set, List.map_cons, List.map_nil, List.length_cons, List.length_nil, List.cons_append, List.nil_append, List.replicate, Nat.reduceAdd, Nat.reduceSub, e, List.set_cons_zero, List.set_cons_succ]
  simp only [mkF, startD, ap_Seq, back_ret, ap_Set, ap_SetF, ap_Call, ap_CB, ap_Cons, ap_Nil, ap_2, ap_C, ap_V, ap_VB, ap_Tup, ap_Lst, ap_If, ap_Not, ap_Nx, ap_Exp, ap_Par, ap_ParF, ap_Wh, ap_For, ap_IfS, ap_bN, ap_bT, ap_bC, ap_b0, ix0, ix1, gAdd_eq, gAddA_eq, gEqA_int, gEqA_int', ixA0, ixA1, gSub_eq, List.map_cons, List.map_nil, List.length_cons, List.length_nil, List.cons_append, List.nil_append, List.replicate, List.getElem?_cons_zero, List.getElem?_cons_succ, List.set_cons_zero, List.set_cons_succ, bind_s, Option.map_some, if_true, Nat.reduceAdd, Nat.reduceSub, Nat.reduceLeDiff, reduceIte, gInt_eq, el, mMod_eq hp, ex, mDiv_eq hp s1, mMulA_eq s2 s3, mMod_eq (show (0 : Int) < 1000003 by decide), mMod_eq (show (0 : Int) < 999983 by decide), mDiv_eq (show (0 : Int) < 1000003 by decide) s4, hA, hB, mMulA_eq t1 t2, mMulA_eq t3 t4, mMulA_eq t5 t6, gSum_lst, mMod_eq (show (0 : Int) < 65521 by decide), mMod_eq (show (0 : Int) < 2147483647 by decide), hM, mMulA_eq t5 t2, mMulA_eq t7 t8, mMod_eq (show (0 : Int) < 2147483629 by decide), mMulA_eq t9 t10]
end DL

set_option maxHeartbeats 4000000
/-! defs that may raise -/
namespace DL
open PySem PySem.Spec PyProof.Rows L2
variable [CT]
/-- what a def gives: a value, or an exception of the class with this number -/
inductive Out where
  | v (d : D) | ex (c : Nat)
inductive Fx where
  | fl (f : Fl) | ex (c : Nat) (ρ : DEnv)
abbrev DX1 := DEnv → Fx
def PostX (K : PySem.W.Frag) (H0 : Hp) (O0 : Addr → Prop) (N : Ends) (W : WX) : Fx → Prop
  | .fl f => Post K H0 O0 N f
  | .ex c ρ => ∀ d σ H, Stt K H0 O0 σ H ρ → W (.ref (CT.ct c)) d σ H
def tDSX (K : PySem.W.Frag) (W : WX) (g : DX1) : TS := fun N σ H => ∃ H0 O0 ρ, Stt K H0 O0 σ H ρ ∧ PostX K H0 O0 N W (g ρ)
def DSX (X : Cx) (W : WX) (st : Stmt) (g : DX1) : Prop := PS X st (tDSX X.K W g)
def DSsX (X : Cx) (W : WX) (st : List Stmt) (g : DX1) : Prop := PSs X st (tDSX X.K W g)
section
variable {X : Cx} {W : WX} {st : Stmt} {sts rest : List Stmt} {g g' : DS1} {gx gx' : DX1} {c e : Expr} {es : List Expr} {fc : DE1} {fs : DEnv → Option (List D)} {pos p : Pos}
def xOf (g : DS1) : DX1 := fun ρ => .fl (g ρ)
theorem dsx_of (h : DS X st g) : DSX X W st (xOf g) := PS.imp h fun N σ H q => q
theorem dssx_of (h : DSs X sts g) : DSsX X W sts (xOf g) := PSs.imp h fun N σ H q => q
def xSeq (g g' : DX1) : DX1 := fun ρ => match g ρ with
  | .fl (.nx ρ1) => g' ρ1
  | x => x
theorem dssx_one (h : DSX X W st gx) : DSsX X W [st] gx := pss_one h
theorem dssx_cons (h1 : DSX X W st gx) (h2 : DSsX X W rest gx') : DSsX X W (st :: rest) (xSeq gx gx') := PSs.imp (pss_cons h1 h2) fun N σ H ⟨H0, O0, ρ, S, p⟩ => by
  refine ⟨H0, O0, ρ, S, ?_⟩
  unfold xSeq at p
  cases e : gx ρ with
  | ex c ρ' => rw [e] at p; exact p
  | fl f =>
    rw [e] at p
    cases f with
    | nx ρ1 => exact fun σ' H' S' => ⟨H0, O0, ρ1, S', p⟩
    | rt d => exact p
    | bk ρ => exact p
    | ct ρ => exact p
    | stuck => exact p
def xIf (c : DE1) (g g' : DX1) : DX1 := fun ρ => match c ρ with
  | some (.bl true) => g ρ
  | some (.bl false) => g' ρ
  | _ => .fl .stuck
theorem dsx_if {A B : List Stmt} (hc : DT X c fc) (ha : DSsX X W A gx) (hb : DSsX X W B gx') : DSX X W (.If c A B pos) (xIf fc gx gx') := PS.imp (ps_if hc ha hb) fun N σ H ⟨H0, O0, ρ, S, p⟩ => by
  obtain ⟨s, ow, S1, h⟩ := id S
  unfold xIf at p
  split at p
  · rename_i e
    exact ⟨O0, ow, ρ, S1, true, e, fun H' s' => iteT ⟨H0, O0, ρ, S.same s', p⟩⟩
  · rename_i e
    exact ⟨O0, ow, ρ, S1, false, e, fun H' s' => iteF ⟨H0, O0, ρ, S.same s', p⟩⟩
  · exact p.elim
def xRaise (c : Nat) : DX1 := fun ρ => .ex c ρ
theorem dsx_raise {c : Nat} (hc : X.calm = true) (tk : Takes X W) (he : PMk X e (fun _ H Q => Q (.ref (CT.ct c)) none H)) : DSX X W (.Raise (some e) none pos) (xRaise c) := PS.imp (ps_raise hc tk he) fun N σ H ⟨H0, O0, ρ, S, p⟩ => p none σ H S
/-! a def that may raise -/
def spX (K : PySem.W.Frag) (n : Nat) (F : List D → Option Out) : Sp := fun vs H Q E => vs.length = n ∧ ∃ (O0 : Addr → Prop) (ds : List D), (∀ a, O0 a → ∃ o, H a = some o) ∧ Reps K (hide O0 H) vs ds ∧ ∃ o, F ds = some o ∧
  match o with
  | .v d => ∀ v H', Same H H' → Rep K (hide O0 H') v d → Q v H'
  | .ex c => ∀ a H', Same H H' → E (.ref (CT.ct c)) a H'
def mkX (m : Nat) (g : DX1) : List D → Option Out := fun ds => match g (startD m ds) with
  | .fl (.rt d) => some (.v d)
  | .fl (.nx _) => some (.v .non)
  | .ex c _ => some (.ex c)
  | _ => none
theorem defX_ok {P : Program} {w : World} {K : PySem.W.Frag} {mg : Str → Option Value} {base : Heap} {x qual : Str} {f : Addr} {fd : FuncData} (st : Stmt) (N ps : List Str) (k m n : Nat) (g : DX1) (F : Fun K x qual st f fd) (S : FnScope N ps (defScope st)) (hm : N.length = m) (hn : ps.length = n)
    (h : ∀ (cdv : Value) (A : Around) (outer : List Env) (s : Shared) (H : Hp) (E : XK), Room k (A.deeper (envOfC qual (defScope st) s.heap.objs.size f cdv)) →
      DSsX (cxOf (L2.CX P w) P w K mg base N qual (defScope st) f cdv A outer s H E) (fun cls d _ H => E cls d H) (defBody st) g) :
    FnOk P w K mg base (L2.CX P w) (k + 1) f fd ps (spX K n (mkX m g)) := by
  subst hm hn
  refine F.okX S (fun vs H Q E h => h.1) (fun cdv A outer s H vs Q E hr h' => ⟨_, h cdv A outer s H E hr, ?_⟩)
  obtain ⟨hn, O0, ds, t, r, o, e, q⟩ := h'
  refine ⟨H, O0, _, ⟨.refl _, _, start_sl t r, fun i a z => (by cases z)⟩, ?_⟩
  unfold mkX at e
  split at e
  · rename_i d eg; cases e; rw [eg]; exact q
  · rename_i ρ eg; cases e; rw [eg]; exact fun σ H' S' => q .non H' S'.1 .non
  · rename_i c ρ eg; cases e; rw [eg]; exact fun a σ H' S' => q a H' S'.1
  · cases e
/-! calls of it: as a statement that may raise; where it does not raise -/
def xCall (n : Nat) (F : List D → Option Out) (fs : DEnv → Option (List D)) : DX1 := fun ρ => match fs ρ with
  | some ds => if ds.length = n then (match F ds with
    | some (.v _) => .fl (.nx ρ)
    | some (.ex c) => .ex c ρ
    | none => .fl .stuck) else .fl .stuck
  | none => .fl .stuck
theorem dsx_call {fa : Addr} {fd : FuncData} {ps : List Str} {k n : Nat} {x : Str} {F : List D → Option Out} {spos : Pos} (tk : Takes X W) (Fk : FnOk X.prog X.w X.K X.mg X.base (L2.CX X.prog X.w) k fa fd ps (spX X.K n F)) (hr : Room k X.A) (hg : Gl X x) (hm : X.mg x = some (.ref fa)) (hk : PySem.W.keepIn X.K (.ref fa) = true) (hb : Binds X.K fd ps [])
    (ha : DA X (e :: es) fs) (hdb : (x == ("__debug__" : Str)) = false := by decide) (he : starEach (e :: es) X.env = (false, eval e X.env) :: starEach es X.env := by rfl) (hpl : (backTo pos (starEach es X.env)).any (·.1) = false := by rfl)
    (hs : swapsWith (.Call (.Name x p) (e :: es) [] pos) none spos.line X.env = pure false := by rfl) :
    DSX X W (.Expr (.Call (.Name x p) (e :: es) [] pos) spos) (xCall n F fs) := PS.imp (ps_expr (pe_callS Fk hr hg hm hk hb (fun σ => passAt tk σ) ha hdb he hpl) hs) fun N σ H ⟨H0, O0, ρ, S, p⟩ => by
  obtain ⟨s, ow, S1, hh⟩ := id S
  unfold xCall at p
  split at p
  · rename_i ds ef
    split at p
    · rename_i hl
      refine ⟨O0, ow, ρ, S1, ds, ef, fun vs H1 s1 r1 => ⟨by rw [r1.length]; exact hl, hid O0 ow, ds, (S1.same s1).trk, r1, ?_⟩⟩
      split at p
      · rename_i d eF
        exact ⟨_, eF, fun v H' s' _ => p σ H' (S.same (s1.trans s'))⟩
      · rename_i c eF
        exact ⟨_, eF, fun a H' s' => p a σ H' (S.same (s1.trans s'))⟩
      · exact p.elim
    · exact p.elim
  · exact p.elim
def eCallV (n : Nat) (F : List D → Option Out) (fs : DEnv → Option (List D)) : DE1 := fun ρ => (fs ρ).bind fun ds => if ds.length = n then (match F ds with
  | some (.v d) => some d
  | _ => none) else none
theorem de_callV {fa : Addr} {fd : FuncData} {ps : List Str} {k n : Nat} {x : Str} {F : List D → Option Out} (Fk : FnOk X.prog X.w X.K X.mg X.base (L2.CX X.prog X.w) k fa fd ps (spX X.K n F)) (hr : Room k X.A) (hg : Gl X x) (hm : X.mg x = some (.ref fa)) (hk : PySem.W.keepIn X.K (.ref fa) = true) (hb : Binds X.K fd ps [])
    (ha : DA X (e :: es) fs) (hdb : (x == ("__debug__" : Str)) = false := by decide) (he : starEach (e :: es) X.env = (false, eval e X.env) :: starEach es X.env := by rfl) (hpl : (backTo pos (starEach es X.env)).any (·.1) = false := by rfl) :
    DE X (.Call (.Name x p) (e :: es) [] pos) (eCallV n F fs) := PE.imp (pe_call Fk hr hg hm hk hb .nil passL ha hdb he hpl) fun σ H Q ⟨O0, ow, ρ, S, d, e, k⟩ => by
  unfold eCallV at e
  simp only [Option.bind_eq_some_iff] at e
  obtain ⟨ds, e1, e⟩ := e
  split at e
  · rename_i hl
    split at e
    · rename_i d' eF
      cases e
      refine ⟨O0, ow, ρ, S, ds, e1, fun vs H1 s1 r1 => ⟨by rw [List.append_nil, r1.length]; exact hl, hid O0 ow, ds, (S.same s1).trk, by rw [List.append_nil]; exact r1, _, eF, fun v H2 s2 r => k v H2 (s1.trans s2) r⟩⟩
    · cases e
  · cases e
/-! try: .. except X: .. -/
def gTry (cs : List Nat) (gb : DX1) (gs : DS1) : DS1 := fun ρ => match gb ρ with
  | .fl f => f
  | .ex c ρ' => if cs.contains c then gs ρ' else .stuck
def ExmOk (K : PySem.W.Frag) (cs : List Nat) (C : Nat) : Prop := ∀ c, cs.contains c = true → PySem.W.exmOne K (.ref (CT.ct c)) (.ref (CT.ct C)) = some true
theorem ds_try {body suite : List Stmt} {b₀ : Stmt} {x : Str} {np pos' : Pos} {cs : List Nat} {C : Nat} {gb : DX1} {gs : DS1} (hs : X.stack = X.env :: X.outer) (hf : X.env.frame = some X.env.locals) (hc : Names X x (.ref (CT.ct C))) (xm : ExmOk X.K cs C)
    (hb : ∀ (W : WX) (pn : List (Addr × Obj)) (xe : Value → Shared → Prop), Takes (X.tr pn xe) W → PassesOwn (model X.prog X.w) X.A X.env xe → DSsX (X.tr pn xe) W body gb)
    (hsu : ∀ (a : Addr) (pn : List (Addr × Obj)), DSs (X.suite a pn) (b₀ :: suite) gs) :
    DS X (.Try body [.ExceptHandler (some (.Name x np)) none (b₀ :: suite) pos'] [] [] pos) (gTry cs gb gs) := PS.imp (ps_try_only (tb := fun W => tDSX X.K W gb) (ts := fun _ _ _ => tDS X.K gs) hs hf hc takes0 hb fun a oe cls d pn _ _ => hsu a _) fun N σ H ⟨H0, O0, ρ, S, p⟩ => by
  refine ⟨H0, O0, ρ, S, ?_⟩
  unfold gTry at p
  cases e : gb ρ with
  | fl f => rw [e] at p; exact p
  | ex c ρ' =>
    rw [e] at p
    simp only at p
    split at p
    · rename_i hcs
      exact fun d σ' H' S' => ⟨true, xm c hcs, fun _ a _ => ⟨H0, O0, ρ', S', p⟩, fun z => nomatch z⟩
    · exact p.elim
end
end DL

/-! enumerate of a tuple -/
namespace DK
open PySem PySem.Spec PyProof.Rows L2
set_option maxHeartbeats 1000000 in
theorem enum_new1 {v : Value} {o : Obj} {H : Heap → Prop} (B : Begins v o H) : Meets (Builtin.«enumerate.__new__» ⟨[.type "enumerate", v], []⟩) (fun _ R s => H s.heap ∧
    R (.ok (.ret (.ref (s.heap.push o).objs.size))) { s with heap := (s.heap.push o).push { cls := .type "enumerate", data := .fields #[.none, .bool false, .ref s.heap.objs.size, rawInt 0, .none, .none] } }) :=
  .of_wp fun prog w A R s hh => by
    obtain ⟨hp, g, d, tk, os⟩ := s
    obtain ⟨hv, hh⟩ := hh
    have sub := sub_enumerate
    have it1 : ∀ {A' : Around} {E : Value → Shared → Prop} {Q : Value → Shared → Prop}, Q (.ref hp.objs.size) ⟨hp.push o, g, d, tk, os⟩ → wpAny (model prog w) A' (pyIter v) Q E ⟨hp, g, d, tk, os⟩ := fun q => B.iter prog w _ _ ⟨hp, g, d, tk, os⟩ _ hv q
    wp_walk using it1
    refine wpAny_stack_any fun st => wpAny_pure ?_
    split
    · rename_i c _ _ _ _ _
      cases (c == Value.type "enumerate") <;> (wp_walk using it1; exact ⟨_, rfl, hh⟩)
    · wp_walk using it1
      exact ⟨_, rfl, hh⟩
theorem enum_call1 {prog : Program} {w : World} {A : Around} {E : Value → Shared → Prop} {s : Shared} {v : Value} {o : Obj} {H : Heap → Prop} {Q : Value → Shared → Prop} (B : Begins v o H) (hv : H s.heap)
    (h : ∀ h', IsEnum h' (s.heap.objs.size + 1) s.heap.objs.size 0 .none → h'.get? s.heap.objs.size = some o → (∀ b u, s.heap.get? b = some u → h'.get? b = some u) → Q (.ref (s.heap.objs.size + 1)) { s with heap := h' }) :
    wpAny (model prog w) A (call (.type "enumerate") [v]) Q E s := by
  refine callType_new F.called_enumerate (by decide) (F.typeCall_enumerate_1 _) (F.newCall_enumerate_1 _) (fun obj => F.args_object_init_2 obj _) F.entry_enumerate_new (enum_new1 B) ⟨hv, ?_⟩
  have n1 : (s.heap.push o).objs.size = s.heap.objs.size + 1 := Heap.size_push ..
  show _ ∧ _
  rw [n1]
  have top := Heap.get?_push_size (s.heap.push o) (o := { cls := .type "enumerate", data := .fields #[.none, .bool false, .ref s.heap.objs.size, rawInt 0, .none, .none] }) rfl
  rw [n1] at top
  exact ⟨⟨_, top, rfl⟩, h _ top (Heap.get?_push_of_some _ (Heap.get?_push_size _ B.free)) fun b u q => Heap.get?_push_of_some _ (Heap.get?_push_of_some _ q)⟩
/-- the tuple at a, each item in a new pair with its index -/
def ItT (K : PySem.W.Frag) (a : Addr) : It where
  go := fun i H => ∃ (xs : List V) (x : V), SqT K H a xs ∧ xs[i]? = some x
  yld := fun i H v H' => ∃ T x, v = .ref T ∧ H T = none ∧ H' = upd H T (.tup [.int (i : Nat), x]) ∧ ∀ xs, SqT K H a xs → xs[i]? = some x
  stop := fun i H => ∃ xs : List V, SqT K H a xs ∧ xs.length ≤ i
section
variable {P : Program} {w : World} {K : PySem.W.Frag} {elts : List Expr} {kk : Nat} {tpos : Pos}
theorem of_two {b e it : Addr} (h : b ∈ [e, it]) : b = e ∨ b = it := by simpa using h
theorem turn_enumT (a e it : Addr) : Turn P w K (.Tuple elts kk tpos) (ItT K a) [e, it] e (fun i h => (∃ old, IsEnum h e it ((i : Nat) : Int) old) ∧ h.IsTupleIter it a i ∧ e ≠ it ∧ a ≠ it ∧ a ≠ e) := by
  refine ⟨by simp, fun i h st b hb => ?_, fun i h h' st k => ?_, ?_, ?_, fun A i s Q E st h => let ⟨⟨_, z⟩, _⟩ := st; wpAny_pyIter_enum z h⟩
  · obtain ⟨⟨old, he⟩, ⟨o, ho, hc, hd⟩, _⟩ := st
    rcases of_two hb with z | z
    · subst z; exact ⟨_, he, fun v q => nomatch q⟩
    · subst z; exact ⟨o, ho, fun v q => by rw [hd] at q; cases q⟩
  · obtain ⟨⟨old, he⟩, hi, r⟩ := st
    exact ⟨⟨old, k e (by simp) _ he⟩, hi.at fun o q => k it (by simp) o q, r⟩
  · rintro X rfl rfl rfl hc i pins s σ H E I hf ⟨⟨old, he⟩, hit, n1, n2, n3⟩ ⟨xs, x, hq, hx⟩
    obtain ⟨its, rv, ht, hz⟩ := I.tuple hq
    obtain ⟨u, hu, ru⟩ := rv.get hx
    have el : e < s.heap.objs.size := Heap.lt_size he
    have il : it < s.heap.objs.size := by obtain ⟨_, q, _⟩ := hit; exact Heap.lt_size q
    have lt : i < its.toArray.size := by
      obtain ⟨z, _⟩ := List.getElem?_eq_some_iff.mp hu
      simpa using z
    have D := Draws.tuple (prog := X.prog) (w := X.w) (A := X.A.in1) (I.ok.hd hc) it a n2 its.toArray
    refine wpAny_pyNext_enum_itemC D he ⟨hit, ht⟩ lt n1 (by simp [n1, Ne.symm n3]) fun y h1 tk hy out ⟨hit1, _⟩ hT hsz hk => ⟨_, rfl, wpAny_letOwnedTupleGo_enum (s := { s with heap := h1, toks := tk + 1 }) out fun h2 he2 sb => ?_⟩
    have ey : y = u := by
      have : its.toArray[i]? = some y := hy
      rw [List.getElem?_toArray, hu] at this
      exact (Option.some.inj this).symm
    subst ey
    have hT2 : h2.get? s.heap.objs.size = some { cls := .type "tuple", data := .seq #[.int i tk, y] } := (sb.2 _ (Nat.ne_of_gt el)).trans hT
    have fresh : ObjOk X.prog X.w (upd H s.heap.objs.size (.tup [.int (i : Nat), x])) h2 s.heap.objs.size (.tup [.int (i : Nat), x]) :=
      ⟨(by decide : 2 ≤ sizeLine), [.int i tk, y], .cons ⟨_, rfl⟩ (.cons ru .nil), ⟨_, hT2, rfl, _, rfl⟩⟩
    refine ⟨.ref s.heap.objs.size, _, I.turnedNew (t' := tk + 1) (ch := [e, it]) (fun b ob hb q => ?_) hf (Nat.le_refl _) fresh, rfl, ⟨_, x, rfl, I.hok.fresh (Nat.le_refl _), rfl, fun ys hy => by rw [I.tuple_inj hy hq]; exact hx⟩, ⟨⟨y, ?_⟩, hit1.at fun o q => (sb.2 it (Ne.symm n1)).trans q, n1, n2, n3⟩, fun b hb => ?_⟩
    · exact (sb.2 b (fun z => hb (by simp [z]))).trans (hk b ob (fun z => hb (by simp [z])) (fun z => hb (by simp [z])) q)
    · rw [show ((i + 1 : Nat) : Int) = (i : Int) + 1 by omega]; exact he2
    · have lb : b < s.heap.objs.size := by
        rcases of_two hb with z | z
        · rw [z]; exact el
        · rw [z]; exact il
      rw [upd_ne (Nat.ne_of_lt lb)]
      exact (hf b hb).1
  · rintro X rfl rfl rfl hc i pins s σ H E I hf ⟨⟨old, he⟩, hit, n1, n2, n3⟩ ⟨xs, hq, hx⟩
    obtain ⟨its, rv, ht, hz⟩ := I.tuple hq
    have hl := rv.length
    obtain ⟨a0, a1, a2, a3, a4, a5⟩ := hf it (by simp)
    -- behind the end the iterator stands wherever the walk has come to
    have ei : its.toArray[i]? = none := by rw [List.getElem?_toArray]; exact List.getElem?_eq_none (by omega)
    have D : Draws X.prog X.w X.A.in1 it [it, a] i (fun _ _ => False) (fun j h => j = i ∧ h.IsTupleIter it a i ∧ h.IsTuple a its.toArray) :=
      ⟨fun _ _ st => let ⟨o, ho, _⟩ := st.2.1; ⟨o, ho⟩, fun _ _ _ st hk => ⟨st.1, st.2.1.at fun o q => hk it (by simp) o q, st.2.2.at fun o q => hk a (by simp) o q⟩, fun j s Q E hj st _ => absurd hj (by rw [st.1]; exact Nat.lt_irrefl _),
        fun s Q E st hE => wpAny_nextOf_tuple_end (I.ok.hd hc) st.2.1 st.2.2 ei hE⟩
    exact wpAny_pyNext_enum_endD D he ⟨rfl, hit, ht⟩ fun h' eb => ⟨rfl, I.turned (t' := s.toks) (fun b o hb q => eb b o hb q) a0 a1 a3 a4 a5⟩
end
def iEnumT (K : PySem.W.Frag) (ta : TA) : TI := fun σ H R => ta σ H fun vs H1 => ∃ a xs, vs = [.ref a] ∧ SqT K H1 a xs ∧ R (ItT K a) H1
theorem pi_enumT {X : Cx} {e : Expr} {ta : TA} {p pos tpos : Pos} {elts : List Expr} {kk : Nat} (hg : Gl X "enumerate") (hm : X.mg "enumerate" = none) (ha : PA X [e] ta) (hs : starEach [e] X.env = [(false, eval e X.env)] := by rfl) :
    PI X (.Tuple elts kk tpos) (.Call (.Name "enumerate" p) [e] [] pos) (iEnumT X.K ta) := ⟨fun pins s σ H R I h => by
  refine Call_ (ld_blt I hg hm boot_enumerate (PyProof.Rows.callWith_type1 (thn (ha.run pos pins s σ H _ I h) fun us s1 ⟨vs, H1, I1, r1, a, xs, ex, hq, q⟩ => ?_) hs rfl))
  subst ex
  cases r1 with
  | cons r rr =>
    cases rr
    cases ref_of r
    obtain ⟨its, rv, ht, hz⟩ := I1.tuple hq
    have al : a < s1.heap.objs.size := by obtain ⟨o, ho, _⟩ := ht; exact Heap.lt_size ho
    refine enum_call1 (begins_tuple a its.toArray) ht fun h' he hit hk => wpAny_pyIter_enum he ?_
    have I2 : L2.Inv X pins σ H1 { s1 with heap := h' } := I1.kept (t' := s1.toks) hk
    refine ⟨s1.heap.objs.size + 1, [s1.heap.objs.size + 1, s1.heap.objs.size], _, _, H1, rfl, I2, turn_enumT a (s1.heap.objs.size + 1) s1.heap.objs.size, ⟨⟨.none, he⟩, ⟨_, hit, rfl, rfl⟩, Nat.succ_ne_self _, Nat.ne_of_lt al, Nat.ne_of_lt (Nat.lt_succ_of_lt al)⟩, fun b hb => ?_, q⟩
    have hle : s1.heap.objs.size ≤ b := by
      rcases of_two hb with z | z
      · rw [z]; exact Nat.le_add_right _ _
      · rw [z]; exact Nat.le_refl _
    exact I1.fpOk hle (I1.hok.fresh hle)⟩
end DK

set_option maxHeartbeats 4000000
namespace DL
open PySem PySem.Spec PyProof.Rows L2
variable [CT]
section
variable {X : Cx} {tg e e1 e2 ia ib : Expr} {f g fa fb : DE1} {st : Stmt} {p pos tpos : Pos}
/-! enumerate of a list or a tuple -/
def iEnT (f : DE1) : DEnv → Option (List D) := fun ρ => match f ρ with
  | some (.tup xs) => some (enD 0 xs)
  | _ => none
theorem di_enumT {elts : List Expr} {kk : Nat} (hg : Gl X "enumerate") (hm : X.mg "enumerate" = none) (h : DE X e f) (hs : starEach [e] X.env = [(false, eval e X.env)] := by rfl) :
    DI X (.Tuple elts kk tpos) (.Call (.Name "enumerate" p) [e] [] pos) (iEnT f) :=
  PI.imp (DK.pi_enumT hg hm (pa_cons h pa_nil (hs := hs)) hs) fun σ H R ⟨O0, ow, ρ, S, ds, q, k⟩ => by
  unfold iEnT at q
  split at q
  · rename_i xs ef
    cases q
    refine ⟨O0, ow, ρ, S, _, ef, fun v H1 s r => ?_⟩
    cases r with
    | tup sq rs =>
      rename_i a vs
      have ln := rs.length
      refine ⟨a, vs, rfl, Same.sqT hide_le sq, k _ H1 s ⟨fun H2 e2 => ⟨vs, Same.sqT e2 sq, by rw [enD_length]; omega⟩, fun i d H2 e2 hd => ?_, fun i d H2 x H3 e2 hd y => ?_⟩⟩
      · obtain ⟨z, hz, _⟩ := enD_get hd
        obtain ⟨v, hv, _⟩ := rs.get hz
        exact ⟨vs, v, Same.sqT e2 sq, hv⟩
      · obtain ⟨z, hz, rfl⟩ := enD_get hd
        obtain ⟨v, hv, r⟩ := rs.get hz
        obtain ⟨T, x1, rfl, nT, rfl, f1⟩ := y
        have e1 := f1 _ (Same.sqT e2 sq)
        rw [hv] at e1; cases e1
        refine ⟨same_upd nT, fun O' h1 h2 => pair_rep e2 nT h1 h2 ?_ r⟩
        rw [Nat.zero_add]; exact .int _
  · cases q
def iEnA (f : DE1) : DEnv → Option (List D) := fun ρ => (iEn f ρ).or (iEnT f ρ)
theorem di_enumA {elts : List Expr} {kk : Nat} (hg : Gl X "enumerate") (hm : X.mg "enumerate" = none) (h : DE X e f) (hs : starEach [e] X.env = [(false, eval e X.env)] := by rfl) :
    DI X (.Tuple elts kk tpos) (.Call (.Name "enumerate" p) [e] [] pos) (iEnA f) := DI.two (di_enum hg hm h hs) (di_enumT hg hm h hs) fun ρ d z => or_some z
/-! an item of a list or a dict that a name alone holds -/
theorem DS.two {g1 g2 k : DS1} (h1 : DS X st g1) (h2 : DS X st g2) (hk : ∀ ρ, k ρ = g1 ρ ∨ k ρ = g2 ρ) : DS X st k := ⟨fun pins s σ H N I ⟨H0, O0, ρ, S, p⟩ => by
  rcases hk ρ with z | z
  · exact h1.run pins s σ H N I ⟨H0, O0, ρ, S, by rw [← z]; exact p⟩
  · exact h2.run pins s σ H N I ⟨H0, O0, ρ, S, by rw [← z]; exact p⟩⟩
def isLst : Slot → Bool
  | some (true, .lst _) => true
  | _ => false
def gSetA (i : Nat) (fi f : DE1) : DS1 := fun ρ => if (ρ[i]?.map isLst) = some true then gSetI i fi f ρ else gSetD i fi f ρ
theorem ds_setA (hu : X.A.units + 64 < cLine) (i : Nat) {x : Str} {p1 spos : Pos} (hv : PE X (.Name x p1) (tVar i)) (hi : DE X ia fa) (he : DE X e f)
    (hl : PS X (.Assign [.Subscript (.Name x p1) ia tpos] e spos) (tAsg (tDE X.K f) (gSub (tVar i) (tDE X.K fa) rSetL)))
    (hd : PS X (.Assign [.Subscript (.Name x p1) ia tpos] e spos) (tAsg (tDE X.K f) (gSub (tVar i) (tDE X.K fa) (rTSet X)))) : DS X (.Assign [.Subscript (.Name x p1) ia tpos] e spos) (gSetA i fa f) :=
  DS.two (ds_setI i hv hi he hl) (ds_setD hu i hv hi he hd) fun ρ => by
    unfold gSetA
    split
    · exact .inl rfl
    · exact .inr rfl
/-! l[a], l[b] = x, y -/
def gSwap (i : Nat) (fa fb f g : DE1) : DS1 := fun ρ => match f ρ, g ρ, ρ[i]? with
  | some d1, some d2, some (some (true, .lst ds)) => match fa ρ with
    | some (.int k1) => match ixN ds.length k1 with
      | some j1 => match fb (ρ.set i (some (true, .lst (ds.set j1 d1)))) with
        | some (.int k2) => match ixN ds.length k2 with
          | some j2 => .nx ((ρ.set i (some (true, .lst (ds.set j1 d1)))).set i (some (true, .lst ((ds.set j1 d1).set j2 d2))))
          | none => .stuck
        | _ => .stuck
      | none => .stuck
    | _ => .stuck
  | _, _, _ => .stuck
theorem Sl.lenσ {K : PySem.W.Frag} {O0 : Addr → Prop} {H : Hp} {σ : L2.St} {ρ : DEnv} {ow : Nat → Option Addr} (S : Sl K O0 H σ ρ ow) {i : Nat} {s : Slot} (h : ρ[i]? = some s) : (ρ.set i s).length = ρ.length := by simp
theorem ds_swap (i : Nat) {x : Str} {p1 p2 spos t1 t2 tt : Pos} {kk k2 : Nat} (hv : PE X (.Name x p1) (tVar i)) (hw : PE X (.Name x p2) (tVar i)) (ha : DE X ia fa) (hb : DE X ib fb) (h1 : DE X e1 f) (h2 : DE X e2 g)
    (h : PS X (.Assign [.Tuple [.Subscript (.Name x p1) ia t1, .Subscript (.Name x p2) ib t2] kk tt] (.Tuple [e1, e2] k2 pos) spos) (tAsg (tDE X.K (eTup (aCons f (aCons g aNil)))) (gTup X.K 2 (gCons (gSub (tVar i) (tDE X.K fa) rSetL) (gCons (gSub (tVar i) (tDE X.K fb) rSetL) gNil))))) :
    DS X (.Assign [.Tuple [.Subscript (.Name x p1) ia t1, .Subscript (.Name x p2) ib t2] kk tt] (.Tuple [e1, e2] k2 pos) spos) (gSwap i fa fb f g) := PS.imp h fun N σ H ⟨H0, O0, ρ, ⟨s, ow, S, hn⟩, p⟩ => by
  unfold gSwap at p
  split at p
  · rename_i d1 d2 ds ef eg ei
    split at p
    · rename_i k1 ea
      split at p
      · rename_i j1 hj1
        split at p
        · rename_i k2' eb
          split at p
          · rename_i j2 hj2
            obtain ⟨o, h1, l, hwl, rfl, t⟩ := S.sl i _ ei
            cases t with
            | lst hL rs =>
              rename_i vs
              have hid_l : hid O0 ow l := .inr ⟨i, hwl⟩
              refine ⟨O0, ow, ρ, S, .tup [d1, d2], by simp [eTup, aCons, aNil, ef, eg], fun v H1 s1 r1 => ?_⟩
              cases r1 with
              | tup sq rr =>
                cases rr with
                | @cons v1 _ _ _ r1 rr =>
                  cases rr with
                  | @cons v2 _ _ _ r2 rr =>
                    cases rr
                    refine ⟨_, _, rfl, Same.sqT hide_le sq, rfl, v1, _, rfl, .ref l, h1, O0, ow, ρ, S.same s1, _, ea, fun vi H2 s2 ri => ?_⟩
                    cases ri
                    have s12 := s1.trans s2
                    have hL2 := s12 _ _ hL
                    have r1' := r1.same (hide_same s2)
                    have r2' := r2.same (hide_same s2)
                    have S2 := (S.same s12).wr ei hwl (o := .lst (vs.set j1 v1)) (d' := .lst (ds.set j1 d1)) fun Hh sm => .lst upd_same (((rs.same (hide_same s12)).set r1' j1).same sm)
                    refine ⟨l, vs, k1, j1, rfl, rfl, hL2, by rw [rs.length]; exact hj1, v2, _, rfl, .ref l, h1, O0, ow, _, S2, _, eb, fun vj H3 s3 rj => ?_⟩
                    cases rj
                    have r2'' := (r2'.same (hide_upd hid_l)).same (hide_same (O := hid O0 ow) s3)
                    have hL3 := s3 _ _ (upd_same (H := H2) (a := l) (o := .lst (vs.set j1 v1)))
                    have lt : i < ρ.length := by
                      obtain ⟨z, _⟩ := List.getElem?_eq_some_iff.mp ei
                      exact z
                    have ei2 : (ρ.set i (some (true, D.lst (ds.set j1 d1))))[i]? = some (some (true, .lst (ds.set j1 d1))) := by simp [lt]
                    have rs2 : Reps X.K (hide (hid O0 ow) (upd H2 l (.lst (vs.set j1 v1)))) (vs.set j1 v1) (ds.set j1 d1) := ((rs.same (hide_same s12)).set r1' j1).same (hide_upd hid_l)
                    refine ⟨l, vs.set j1 v1, k2', j2, rfl, rfl, hL3, by rw [List.length_set, rs.length]; exact hj2, rfl, p _ _ ⟨fun b u q => ?_, ow, (S2.same s3).wr ei2 hwl fun Hh sm => .lst upd_same (((rs2.same (hide_same s3)).set r2'' j2).same sm), hn⟩⟩
                    have nl := hn i l hwl
                    have bl : b ≠ l := fun z => by subst z; rw [nl] at q; cases q
                    rw [upd_ne bl]
                    refine s3 _ _ ?_
                    rw [upd_ne bl]
                    exact s12 _ _ (s _ _ q)
          · exact p.elim
        · exact p.elim
      · exact p.elim
    · exact p.elim
  · exact p.elim
end
end DL

set_option maxHeartbeats 4000000
/-! names set together, a new list among them -/
namespace DL
open PySem PySem.Spec PyProof.Rows L2
variable [CT]
section
variable {X : Cx} {a b c : Expr} {f g h : DE1} {pos : Pos}
theorem own_sub {O0 : Addr → Prop} {ow : Nat → Option Addr} {j : Nat} {q : Addr} : ∀ b, hid O0 (owSet ow j (some q)) b → hid (fun b => O0 b ∨ b = q) ow b := fun b z => by
  rcases z with z | ⟨i, z⟩
  · exact .inl (.inl z)
  · unfold owSet at z
    split at z
    · cases z; exact .inl (.inr rfl)
    · exact .inr ⟨i, z⟩
/-- kept, owned -/
def gParKO (i j : Nat) (f g : DE1) : DS1 := fun ρ => match f ρ, g ρ with
  | some x, some y => .nx ((ρ.set i (some (false, x))).set j (some (true, y)))
  | _, _ => .stuck
theorem ds_parKO (i j : Nat) {x y : Str} {px py pt : Pos} {kt k2 pt2} (hc : X.calm = true) (hN : X.N.Nodup) (ha : DE X a f) (hb : DF X b g) (hs1 : starEach [a, b] X.env = (false, eval a X.env) :: starEach [b] X.env := by rfl) (hs2 : starEach [b] X.env = (false, eval b X.env) :: starEach [] X.env := by rfl)
    (hi : X.N[i]? = some x := by rfl) (hj : X.N[j]? = some y := by rfl) (hij : i ≠ j := by decide) (hx : X.env.scope.names.lookup x = some .local := by rfl) (hy : X.env.scope.names.lookup y = some .local := by rfl)
    (hw : swappedStores [.Tuple [.Name x px, .Name y py] kt pt] (.Tuple [a, b] k2 pt2) X.env = pure (some [x, y]) := by rfl)
    (hs : swapsWithSole [.Tuple [.Name x px, .Name y py] kt pt] (.Tuple [a, b] k2 pt2) pos.line X.env = pure false := by rfl) :
    DS X (.Assign [.Tuple [.Name x px, .Name y py] kt pt] (.Tuple [a, b] k2 pt2) pos) (gParKO i j f g) := PS.imp (ps_par hc hN hi hj hij hx hy (pa_cons ha (pa_cons hb pa_nil hs2) hs1) hw hs) fun N σ H ⟨H0, O0, ρ, ⟨s, ow, S, h⟩, p⟩ => by
  unfold gParKO at p
  split at p
  · rename_i d1 d2 ef1 ef2
    refine ⟨O0, ow, ρ, S, _, ef1, fun v1 H1 s1 r1 => ⟨O0, ow, ρ, S.same s1, _, ef2, fun a2 H2 s2 n2 t2 => ⟨_, _, rfl, p _ H2 ?_⟩⟩⟩
    refine ⟨s.trans (s1.trans s2), _, ((S.same s1).set r1).setF (i := j) s2 n2 t2, fun l b q => ?_⟩
    unfold owSet at q
    split at q
    · cases q; exact Same.free (s.trans s1) n2
    · exact h l b q
  · exact p.elim
/-- kept, owned, kept -/
def gParKOK (i j l : Nat) (f g h : DE1) : DS1 := fun ρ => match f ρ, g ρ, h ρ with
  | some x, some y, some z => .nx (((ρ.set i (some (false, x))).set j (some (true, y))).set l (some (false, z)))
  | _, _, _ => .stuck
theorem ds_parKOK (i j l : Nat) {x y z : Str} {px py pz pt : Pos} {kt k2 pt2} (hc : X.calm = true) (hN : X.N.Nodup) (ha : DE X a f) (hb : DF X b g) (hcc : DE X c h) (hs1 : starEach [a, b, c] X.env = (false, eval a X.env) :: starEach [b, c] X.env := by rfl) (hs2 : starEach [b, c] X.env = (false, eval b X.env) :: starEach [c] X.env := by rfl)
    (hs3 : starEach [c] X.env = (false, eval c X.env) :: starEach [] X.env := by rfl) (hi : X.N[i]? = some x := by rfl) (hj : X.N[j]? = some y := by rfl) (hl : X.N[l]? = some z := by rfl) (hij : i ≠ j := by decide) (hil : i ≠ l := by decide) (hjl : j ≠ l := by decide)
    (hx : X.env.scope.names.lookup x = some .local := by rfl) (hy : X.env.scope.names.lookup y = some .local := by rfl) (hz : X.env.scope.names.lookup z = some .local := by rfl)
    (hw : swappedStores [.Tuple [.Name x px, .Name y py, .Name z pz] kt pt] (.Tuple [a, b, c] k2 pt2) X.env = pure (some [x, y, z]) := by rfl)
    (hs : swapsWithSole [.Tuple [.Name x px, .Name y py, .Name z pz] kt pt] (.Tuple [a, b, c] k2 pt2) pos.line X.env = pure false := by rfl) :
    DS X (.Assign [.Tuple [.Name x px, .Name y py, .Name z pz] kt pt] (.Tuple [a, b, c] k2 pt2) pos) (gParKOK i j l f g h) := PS.imp (ps_par3 hc hN hi hj hl hij hil hjl hx hy hz (pa_cons ha (pa_cons hb (pa_cons hcc pa_nil hs3) hs2) hs1) hw hs) fun N σ H ⟨H0, O0, ρ, ⟨s, ow, S, hh⟩, p⟩ => by
  unfold gParKOK at p
  split at p
  · rename_i d1 d2 d3 ef1 ef2 ef3
    refine ⟨O0, ow, ρ, S, _, ef1, fun v1 H1 s1 r1 => ⟨O0, ow, ρ, S.same s1, _, ef2, fun a2 H2 s2 n2 t2 => ?_⟩⟩
    obtain ⟨o2, ho2⟩ := t2.some
    refine ⟨fun b => O0 b ∨ b = a2, ow, ρ, (S.same s1).more s2 n2 ⟨o2, ho2⟩, _, ef3, fun v3 H3 s3 r3 => ⟨_, _, _, rfl, p _ H3 ?_⟩⟩
    have t3 : TopR X.K (hide (fun b => hid O0 ow b ∨ b = a2) H3) H3 a2 d2 := t2.same (hide_same s3) ((s3 _ _ ho2).trans ho2.symm)
    refine ⟨s.trans (s1.trans (s2.trans s3)), _, (((S.same s1).set r1).setF (i := j) (s2.trans s3) n2 t3).set (r3.same (hide_sub own_sub)), fun l b q => ?_⟩
    unfold owSet at q
    split at q
    · cases q; exact Same.free (s.trans s1) n2
    · exact hh l b q
  · exact p.elim
end
end DL

set_option maxHeartbeats 8000000
namespace K04
open PySem PySem.Spec PyProof.Rows L2 DL
def g_is_integer : DS1 := (gRet (eAnd (eIsi "int" (eVB 0)) (eNot (eIsi "bool" (eVB 0)))))
def F_is_integer : List D → Option D := mkF 1 g_is_integer

def g_is_integer_within : DS1 := (gRet (eAnd (eCall 1 F_is_integer (aCons (eV 0) aNil)) (eCh gLe gLe (eVB 1) (eVB 0) (eVB 2))))
def F_is_integer_within : List D → Option D := mkF 3 g_is_integer_within

def g_u_are_parts : DS1 := (gSeq (gIf (eOr (eNot (eIsi "tuple" (eVB 0))) (e2 (gEqA true) (eCB gLenA (aCons (eVB 0) aNil)) (eVB 1))) (gRet (eC (.bl false))) gNx)
  (gRet (eAnd (eCB gAll (aCons (eLc (iA (eV 0)) ([(Str.ofString "part", 2)].map (·.2)) (bN 2) (eC (.bl true)) (eCall 3 F_is_integer_within (aCons (eV 2) (aCons (eC (.int 0)) (aCons (eC (.int 6)) aNil))))) aNil)) (e2 gGt (eCB gSum (aCons (eVB 0) aNil)) (eC (.int 0))))))
def F_u_are_parts : List D → Option D := mkF 3 g_u_are_parts

def g_u_is_work : DS1 := (gSeq (gIf (eOr (eNot (eIsi "tuple" (eVB 0))) (e2 (gEqA true) (eCB gLenA (aCons (eVB 0) aNil)) (eC (.int 2)))) (gRet (eC (.bl false))) gNx)
  (gSeq (gAsg (eV 0) (bT (bCons (bN 2) (bCons (bN 3) bNil))))
  (gRet (eAnd (eCall 3 F_is_integer_within (aCons (eV 2) (aCons (eC (.int 0)) (aCons (eC (.int 9)) aNil)))) (eCall 2 F_u_are_parts (aCons (eV 3) (aCons (eV 1) aNil)))))))
def F_u_is_work : List D → Option D := mkF 4 g_u_is_work

def g_u_are_works : DS1 := (gSeq (gIf (eOr (eNot (eIsi "tuple" (eVB 0))) (eNot (eCh gLe gLe (eC (.int 2)) (eCB gLenA (aCons (eVB 0) aNil)) (eC (.int 4))))) (gRet (eC (.bl false))) gNx)
  (gRet (eCB gAll (aCons (eLc (iA (eV 0)) ([(Str.ofString "work", 2)].map (·.2)) (bN 2) (eC (.bl true)) (eCall 2 F_u_is_work (aCons (eV 2) (aCons (eV 1) aNil)))) aNil))))
def F_u_are_works : List D → Option D := mkF 3 g_u_are_works

def g_u_are_worths : DS1 := (gSeq (gIf (eOr (eNot (eIsi "tuple" (eVB 0))) (eNot (eCh gLe gLe (eC (.int 2)) (eCB gLenA (aCons (eVB 0) aNil)) (eC (.int 4))))) (gRet (eC (.bl false))) gNx)
  (gRet (eCB gAll (aCons (eLc (iA (eV 0)) ([(Str.ofString "worth", 1)].map (·.2)) (bN 1) (eC (.bl true)) (eCall 3 F_is_integer_within (aCons (eV 1) (aCons (eC (.int 0)) (aCons (eC (.int 20)) aNil))))) aNil))))
def F_u_are_worths : List D → Option D := mkF 2 g_u_are_worths

def g_JobD_initD : DI1 := (iIf (eNot (eCall 1 F_u_are_worths (aCons (eV 1) aNil)))
  (iIf (eNot (eCall 2 F_u_are_works (aCons (eV 2) (aCons (eCB gLenA (aCons (eVB 1) aNil)) aNil))))
  (iFld (Str.ofString "_worths") (eCB gTupOf (aCons (eVB 1) aNil))
  (iFld (Str.ofString "_works") (eCB gTupOf (aCons (eLc (iA (eV 2)) ([(Str.ofString "effort", 3), (Str.ofString "parts", 4)].map (·.2)) (bT (bCons (bN 3) (bCons (bN 4) bNil))) (eC (.bl true)) (eTup (aCons (eV 3) (aCons (eCB gTupOf (aCons (eVB 4) aNil)) aNil)))) aNil))
  (fun _ fs => some fs)))))
def F_JobD_initD : List D → Option (List (Str × D)) := mkI 4 g_JobD_initD

def g_JobD_lenD : DS1 := (gRet (eCB gLenA (aCons (eFld [0] (Str.ofString "_works") (eV 0)) aNil)))
def F_JobD_lenD : List D → Option D := mkF 1 g_JobD_lenD

def g_is_fraction : DS1 := (gSeq (gIf (eOr (eNot (eIsi "tuple" (eVB 0))) (e2 (gEqA true) (eCB gLenA (aCons (eVB 0) aNil)) (eC (.int 2)))) (gRet (eC (.bl false))) gNx)
  (gSeq (gAsg (eV 0) (bT (bCons (bN 1) (bCons (bN 2) bNil))))
  (gSeq (gIf (eOr (eNot (eCall 1 F_is_integer (aCons (eV 1) aNil))) (eNot (eCall 1 F_is_integer (aCons (eV 2) aNil)))) (gRet (eC (.bl false))) gNx)
  (gRet (eAnd (e2 gGe (eVB 2) (eC (.int 1))) (e2 (gEqA false) (eCB gGcd (aCons (eVB 1) (aCons (eVB 2) aNil))) (eC (.int 1))))))))
def F_is_fraction : List D → Option D := mkF 3 g_is_fraction

def g_is_amount : DS1 := (gRet (eAnd (eCall 1 F_is_fraction (aCons (eV 0) aNil)) (e2 gGe (e2 gIxA (eVB 0) (eC (.int 0))) (eC (.int 0)))))
def F_is_amount : List D → Option D := mkF 1 g_is_amount

def g_is_less : DS1 := (gRet (e2 gLt (e2 gMulA (e2 gIxA (eVB 0) (eC (.int 0))) (e2 gIxA (eVB 1) (eC (.int 1)))) (e2 gMulA (e2 gIxA (eVB 1) (eC (.int 0))) (e2 gIxA (eVB 0) (eC (.int 1))))))
def F_is_less : List D → Option D := mkF 2 g_is_less

def g_u_check_share : DX1 := (xIf (eOr (eNot (eCall 1 F_is_amount (aCons (eV 0) aNil))) (eCall 2 F_is_less (aCons (eC (.tup [(.int 1), (.int 1)])) (aCons (eV 0) aNil)))) (xRaise 1) (xOf gNx))
def F_u_check_share : List D → Option Out := mkX 1 g_u_check_share

def g_Job_works : DS1 := (gRet (eFld [0] (Str.ofString "_works") (eV 0)))
def F_Job_works : List D → Option D := mkF 1 g_Job_works

def g_work_efforts : DS1 := (gRet (eLc (iA (eProp 0 F_Job_works (eV 0))) ([(Str.ofString "effort", 1), (Str.ofString "parts", 2)].map (·.2)) (bT (bCons (bN 1) (bCons (bN 2) bNil))) (eC (.bl true)) (eTup (aCons (eV 1) (aCons (eC (.int 1)) aNil)))))
def F_work_efforts : List D → Option D := mkF 3 g_work_efforts

def g_u_effort : DS1 := (gRet (eIf (e2 (gIsN false) (eVB 1) (eC .non)) (eC (.tup [(.int 0), (.int 1)])) (e2 gIxA (eCall 1 F_work_efforts (aCons (eV 0) aNil)) (eVB 1))))
def F_u_effort : List D → Option D := mkF 2 g_u_effort

def g_Job_worths : DS1 := (gRet (eFld [0] (Str.ofString "_worths") (eV 0)))
def F_Job_worths : List D → Option D := mkF 1 g_Job_worths

def g_ratio : DS1 := (gSeq (gSet 2 (eCB gGcd (aCons (eVB 0) (aCons (eVB 1) aNil))))
  (gRet (eTup (aCons (e2 gDivI (eVB 0) (eVB 2)) (aCons (e2 gDivI (eVB 1) (eVB 2)) aNil)))))
def F_ratio : List D → Option D := mkF 3 g_ratio

def g_times : DS1 := (gRet (eCall 2 F_ratio (aCons (e2 gMulA (e2 gIxA (eVB 0) (eC (.int 0))) (e2 gIxA (eVB 1) (eC (.int 0)))) (aCons (e2 gMulA (e2 gIxA (eVB 0) (eC (.int 1))) (e2 gIxA (eVB 1) (eC (.int 1)))) aNil))))
def F_times : List D → Option D := mkF 2 g_times

def g_plus : DS1 := (gRet (eCall 2 F_ratio (aCons (e2 gAddA (e2 gMulA (e2 gIxA (eVB 0) (eC (.int 0))) (e2 gIxA (eVB 1) (eC (.int 1)))) (e2 gMulA (e2 gIxA (eVB 1) (eC (.int 0))) (e2 gIxA (eVB 0) (eC (.int 1))))) (aCons (e2 gMulA (e2 gIxA (eVB 0) (eC (.int 1))) (e2 gIxA (eVB 1) (eC (.int 1)))) aNil))))
def F_plus : List D → Option D := mkF 2 g_plus

def g_total : DS1 := (gSeq (gSet 1 (eC (.tup [(.int 0), (.int 1)])))
  (gSeq (gFor (iA (eV 0)) (bN 2)
  (gSet 1 (eCall 2 F_plus (aCons (eV 1) (aCons (eV 2) aNil)))))
  (gRet (eV 1))))
def F_total : List D → Option D := mkF 3 g_total

def g_weighted : DS1 := (gRet (eCall 1 F_total (aCons (eLc (iZX (eV 0) (eV 1)) ([(Str.ofString "weight", 2), (Str.ofString "amount", 3)].map (·.2)) (bT (bCons (bN 2) (bCons (bN 3) bNil))) (eC (.bl true)) (eCall 2 F_times (aCons (eV 2) (aCons (eV 3) aNil)))) aNil)))
def F_weighted : List D → Option D := mkF 4 g_weighted

def g_work_chances : DS1 := (gSeq (gSet 2 (e2 gIxA (e2 gIxA (eProp 0 F_Job_works (eV 0)) (eVB 1)) (eC (.int 1))))
  (gRet (eLc (iA (eV 2)) ([(Str.ofString "part", 3)].map (·.2)) (bN 3) (eC (.bl true)) (eCall 2 F_ratio (aCons (eV 3) (aCons (eCB gSum (aCons (eVB 2) aNil)) aNil))))))
def F_work_chances : List D → Option D := mkF 4 g_work_chances

def g_average_worth : DS1 := (gRet (eCall 2 F_weighted (aCons (eCall 2 F_work_chances (aCons (eV 0) (aCons (eV 1) aNil))) (aCons (eLc (iA (eProp 0 F_Job_worths (eV 0))) ([(Str.ofString "worth", 2)].map (·.2)) (bN 2) (eC (.bl true)) (eTup (aCons (eV 2) (aCons (eC (.int 1)) aNil)))) aNil))))
def F_average_worth : List D → Option D := mkF 3 g_average_worth

def g_u_worth : DS1 := (gRet (eIf (e2 (gIsN false) (eVB 1) (eC .non)) (eC (.tup [(.int 0), (.int 1)])) (eCall 2 F_average_worth (aCons (eV 0) (aCons (eV 1) aNil)))))
def F_u_worth : List D → Option D := mkF 2 g_u_worth

def g_negative : DS1 := (gRet (eTup (aCons (eNeg (e2 gIxA (eVB 0) (eC (.int 0)))) (aCons (e2 gIxA (eVB 0) (eC (.int 1))) aNil))))
def F_negative : List D → Option D := mkF 1 g_negative

def g_minus : DS1 := (gRet (eCall 2 F_plus (aCons (eV 0) (aCons (eCall 1 F_negative (aCons (eV 1) aNil)) aNil))))
def F_minus : List D → Option D := mkF 2 g_minus

def g_u_gain : DS1 := (gRet (eCall 2 F_minus (aCons (eCall 2 F_times (aCons (eV 1) (aCons (eCall 2 F_u_worth (aCons (eV 0) (aCons (eV 2) aNil))) aNil))) (aCons (eCall 2 F_u_effort (aCons (eV 0) (aCons (eV 2) aNil))) aNil))))
def F_u_gain : List D → Option D := mkF 3 g_u_gain

def g_u_is_preferred : DS1 := (gSeq (gSet 4 (eCall 3 F_u_gain (aCons (eV 0) (aCons (eV 1) (aCons (eV 2) aNil)))))
  (gSeq (gSet 5 (eCall 3 F_u_gain (aCons (eV 0) (aCons (eV 1) (aCons (eV 3) aNil)))))
  (gSeq (gIf (e2 (gEqA false) (eVB 4) (eVB 5)) (gRet (eCall 2 F_is_less (aCons (eCall 2 F_u_worth (aCons (eV 0) (aCons (eV 3) aNil))) (aCons (eCall 2 F_u_worth (aCons (eV 0) (aCons (eV 2) aNil))) aNil)))) gNx)
  (gRet (eCall 2 F_is_less (aCons (eV 5) (aCons (eV 4) aNil)))))))
def F_u_is_preferred : List D → Option D := mkF 6 g_u_is_preferred

def g_check_job : DS1 := (gIf (eNot (eIsC [0] 0 (eV 0))) gStuck gNx)
def F_check_job : List D → Option D := mkF 1 g_check_job

def g_done : DX1 := (xSeq (xOf (gExp (eCall 1 F_check_job (aCons (eV 0) aNil))))
  (xSeq (xCall 1 F_u_check_share (aCons (eV 1) aNil))
  (xSeq (xOf (gSet 2 (eC .non)))
  (xSeq (xOf (gFor (iR1 (eCB (fun x => (gLen x).or (gLenO 0 F_JobD_lenD x)) (aCons (eVB 0) aNil))) (bN 3)
  (gIf (eCall 4 F_u_is_preferred (aCons (eV 0) (aCons (eV 1) (aCons (eV 3) (aCons (eV 2) aNil))))) (gSet 2 (eV 3)) gNx)))
  (xOf (gRet (eV 2)))))))
def F_done : List D → Option Out := mkX 4 g_done

def g_u_law_is_refused : DS1 := (gSeq (gTry [1] (xCall 2 F_done (aCons (eV 0) (aCons (eV 1) aNil))) (gRet (eC (.bl true))))
  (gRet (eC (.bl false))))
def F_u_law_is_refused : List D → Option D := mkF 2 g_u_law_is_refused

def g_u_law_number : DS1 := (gSeq (gSet 2 (eIf (e2 (gEqA true) (eVB 0) (eLst aNil)) (oOr (eSl (eVB 0) oNone (oSome (eC (.int 63)))) (eSlT (eVB 0) oNone (oSome (eC (.int 63))))) (eLst (aCons (eC (.int 5)) aNil))))
  (gSeq (gSet 3 (e2 gAddA (e2 gIxA (eVB 2) (e2 gModI (eCB gInt (aCons (eVB 1) aNil)) (eCB gLenA (aCons (eVB 2) aNil)))) (e2 gMulA (eC (.int 13)) (e2 gDivI (eVB 1) (eCB gLenA (aCons (eVB 2) aNil))))))
  (gSeq (gPar 4 5 (aCons (e2 gModI (eCB gInt (aCons (eVB 3) aNil)) (eC (.int 1000003))) (aCons (e2 gModI (eCB gInt (aCons (e2 gDivI (eVB 3) (eC (.int 1000003))) aNil)) (eC (.int 999983))) aNil)))
  (gSeq (gSet 6 (e2 gModI (eCB gInt (aCons (e2 gAddA (e2 gAddA (e2 gMulA (e2 gAddA (eVB 4) (e2 gMulA (eC (.int 977)) (eVB 1))) (eC (.int 48271))) (e2 gMulA (eC (.int 31)) (eVB 5))) (e2 gModI (eCB gInt (aCons (eCB gSum (aCons (eVB 2) aNil)) aNil)) (eC (.int 65521)))) aNil)) (eC (.int 2147483647))))
  (gRet (e2 gAddA (e2 gMulA (e2 gModI (eCB gInt (aCons (e2 gMulA (eVB 6) (e2 gAddA (e2 gAddA (eVB 6) (e2 gMulA (eC (.int 31)) (eVB 1))) (eC (.int 7)))) aNil)) (eC (.int 2147483629))) (eC (.int 65537))) (eVB 5)))))))
def F_u_law_number : List D → Option D := mkF 7 g_u_law_number

def g_u_law_job : DS1 := (gSeq (gPar 2 3 (aCons (e2 gAddA (eC (.int 2)) (e2 gModI (eCB gInt (aCons (eCall 2 F_u_law_number (aCons (eV 0) (aCons (eV 1) aNil))) aNil)) (eC (.int 3)))) (aCons (e2 gAddA (eC (.int 2)) (e2 gModI (eCB gInt (aCons (eCall 2 F_u_law_number (aCons (eV 0) (aCons (e2 gAddA (eVB 1) (eC (.int 1))) aNil))) aNil)) (eC (.int 3)))) aNil)))
  (gSeq (gParF 4 5 (eLst aNil) (eLst aNil))
  (gSeq (gFor (iR1 (eV 2)) (bN 6)
  (gApp 4 (e2 gModI (eCB gInt (aCons (eCall 2 F_u_law_number (aCons (eV 0) (aCons (e2 gAddA (e2 gAddA (eVB 1) (eC (.int 2))) (eVB 6)) aNil))) aNil)) (eC (.int 21)))))
  (gSeq (gFor (iR1 (eV 3)) (bN 7)
  (gSeq (gSet 8 (e2 gIxA (eTup (aCons (eC (.int 3)) (aCons (eC (.int 7)) aNil))) (e2 gModI (eCB gInt (aCons (eCall 2 F_u_law_number (aCons (eV 0) (aCons (e2 gAddA (eVB 1) (eC (.int 8))) aNil))) aNil)) (eC (.int 2)))))
  (gSeq (gSet 9 (eLc (iR1 (eV 2)) ([(Str.ofString "at", 6)].map (·.2)) (bN 6) (eC (.bl true)) (e2 gModI (eCB gInt (aCons (eCall 2 F_u_law_number (aCons (eV 0) (aCons (e2 gAddA (e2 gAddA (e2 gAddA (eVB 1) (eC (.int 10))) (e2 gMulA (eC (.int 5)) (eVB 7))) (eVB 6)) aNil))) aNil)) (eVB 8))))
  (gSeq (gSet 9 (eIf (e2 gGt (eCB gSum (aCons (eVB 9) aNil)) (eC (.int 0))) (eV 9) (e2 gMulA (eLst (aCons (eC (.int 1)) aNil)) (eVB 2))))
  (gApp 5 (eTup (aCons (e2 gModI (eCB gInt (aCons (eCall 2 F_u_law_number (aCons (eV 0) (aCons (e2 gAddA (e2 gAddA (eVB 1) (eC (.int 30))) (eVB 7)) aNil))) aNil)) (eC (.int 10))) (aCons (eCB gTupOf (aCons (eVB 9) aNil)) aNil))))))))
  (fun ρ => (fun ρ => (gRet (eTup (aCons (eCB gTupOf (aCons (eVB 4) aNil)) (aCons (eCB gTupOf (aCons (eVB 5) aNil)) aNil)))) (frz 4 ρ)) (frz 5 ρ))))))
def F_u_law_job : List D → Option D := mkF 10 g_u_law_job

def g_u_law_below : DS1 := (gRet (e2 gLt (e2 gMulA (e2 gIxA (eVB 0) (eC (.int 0))) (e2 gIxA (eVB 1) (eC (.int 1)))) (e2 gMulA (e2 gIxA (eVB 1) (eC (.int 0))) (e2 gIxA (eVB 0) (eC (.int 1))))))
def F_u_law_below : List D → Option D := mkF 2 g_u_law_below

def g_u_law_lowest : DS1 := (gSeq (gPar 2 3 (aCons (eCB gAbs (aCons (eVB 0) aNil)) (aCons (eCB gAbs (aCons (eVB 1) aNil)) aNil)))
  (gSeq (gWh (fun ρ => match ρ[3]? with | some (some (_, D.int b)) => b.natAbs + 1 | _ => 0) (e2 (gEqA true) (eVB 3) (eC (.int 0))) (gPar 2 3 (aCons (eV 3) (aCons (e2 gModI (eCB gInt (aCons (eVB 2) aNil)) (eVB 3)) aNil))))
  (gRet (eIf (e2 gGt (eVB 1) (eC (.int 0))) (eTup (aCons (e2 gDivI (eVB 0) (eVB 2)) (aCons (e2 gDivI (eVB 1) (eVB 2)) aNil))) (eTup (aCons (e2 gDivI (eNeg (eVB 0)) (eVB 2)) (aCons (e2 gDivI (eNeg (eVB 1)) (eVB 2)) aNil)))))))
def F_u_law_lowest : List D → Option D := mkF 4 g_u_law_lowest

def g_u_law_less : DS1 := (gRet (eCall 2 F_u_law_lowest (aCons (e2 gSubI (e2 gMulA (e2 gIxA (eVB 0) (eC (.int 0))) (e2 gIxA (eVB 1) (eC (.int 1)))) (e2 gMulA (e2 gIxA (eVB 1) (eC (.int 0))) (e2 gIxA (eVB 0) (eC (.int 1))))) (aCons (e2 gMulA (e2 gIxA (eVB 0) (eC (.int 1))) (e2 gIxA (eVB 1) (eC (.int 1)))) aNil))))
def F_u_law_less : List D → Option D := mkF 2 g_u_law_less

def g_u_law_product : DS1 := (gRet (eCall 2 F_u_law_lowest (aCons (e2 gMulA (e2 gIxA (eVB 0) (eC (.int 0))) (e2 gIxA (eVB 1) (eC (.int 0)))) (aCons (e2 gMulA (e2 gIxA (eVB 0) (eC (.int 1))) (e2 gIxA (eVB 1) (eC (.int 1)))) aNil))))
def F_u_law_product : List D → Option D := mkF 2 g_u_law_product

def g_u_law_chances : DS1 := (gSeq (gSet 2 (e2 gIxA (e2 gIxA (e2 gIxA (eVB 0) (eC (.int 1))) (eVB 1)) (eC (.int 1))))
  (gRet (eLc (iA (eV 2)) ([(Str.ofString "part", 3)].map (·.2)) (bN 3) (eC (.bl true)) (eCall 2 F_u_law_lowest (aCons (eV 3) (aCons (eCB gSum (aCons (eVB 2) aNil)) aNil))))))
def F_u_law_chances : List D → Option D := mkF 4 g_u_law_chances

def g_u_law_sum : DS1 := (gRet (eCall 2 F_u_law_lowest (aCons (e2 gAddA (e2 gMulA (e2 gIxA (eVB 0) (eC (.int 0))) (e2 gIxA (eVB 1) (eC (.int 1)))) (e2 gMulA (e2 gIxA (eVB 1) (eC (.int 0))) (e2 gIxA (eVB 0) (eC (.int 1))))) (aCons (e2 gMulA (e2 gIxA (eVB 0) (eC (.int 1))) (e2 gIxA (eVB 1) (eC (.int 1)))) aNil))))
def F_u_law_sum : List D → Option D := mkF 2 g_u_law_sum

def g_u_law_dot : DS1 := (gSeq (gSet 2 (eTup (aCons (eC (.int 0)) (aCons (eC (.int 1)) aNil))))
  (gSeq (gFor (iZX (eV 0) (eV 1)) (bT (bCons (bN 3) (bCons (bN 4) bNil)))
  (gSet 2 (eCall 2 F_u_law_sum (aCons (eV 2) (aCons (eCall 2 F_u_law_product (aCons (eV 3) (aCons (eV 4) aNil))) aNil)))))
  (gRet (eV 2))))
def F_u_law_dot : List D → Option D := mkF 5 g_u_law_dot

def g_u_law_worth : DS1 := (gSeq (gIf (e2 (gIsN false) (eVB 1) (eC .non)) (gRet (eTup (aCons (eC (.int 0)) (aCons (eC (.int 1)) aNil)))) gNx)
  (gRet (eCall 2 F_u_law_dot (aCons (eCall 2 F_u_law_chances (aCons (eV 0) (aCons (eV 1) aNil))) (aCons (eLc (iA (e2 gIxA (eVB 0) (eC (.int 0)))) ([(Str.ofString "worth", 2)].map (·.2)) (bN 2) (eC (.bl true)) (eTup (aCons (eV 2) (aCons (eC (.int 1)) aNil)))) aNil)))))
def F_u_law_worth : List D → Option D := mkF 3 g_u_law_worth

def g_u_law_done : DS1 := (gSeq (gAsg (eTup (aCons (eC .non) (aCons (eTup (aCons (eTup (aCons (eC (.int 0)) (aCons (eC (.int 1)) aNil))) (aCons (eTup (aCons (eC (.int 0)) (aCons (eC (.int 1)) aNil))) aNil))) aNil))) (bT (bCons (bN 2) (bCons (bN 3) bNil))))
  (gSeq (gFor (iEnA (e2 gIxA (eVB 0) (eC (.int 1)))) (bT (bCons (bN 4) (bCons (bT (bCons (bN 5) (bCons (bN 6) bNil))) bNil)))
  (gSeq (gSet 7 (eCall 2 F_u_law_worth (aCons (eV 0) (aCons (eV 4) aNil))))
  (gSeq (gSet 8 (eTup (aCons (eCall 2 F_u_law_less (aCons (eCall 2 F_u_law_product (aCons (eV 1) (aCons (eV 7) aNil))) (aCons (eTup (aCons (eV 5) (aCons (eC (.int 1)) aNil))) aNil))) (aCons (eV 7) aNil))))
  (gIf (eOr (eCall 2 F_u_law_below (aCons (e2 gIxA (eVB 3) (eC (.int 0))) (aCons (e2 gIxA (eVB 8) (eC (.int 0))) aNil))) (eAnd (e2 (gEqA false) (e2 gIxA (eVB 3) (eC (.int 0))) (e2 gIxA (eVB 8) (eC (.int 0)))) (eCall 2 F_u_law_below (aCons (e2 gIxA (eVB 3) (eC (.int 1))) (aCons (e2 gIxA (eVB 8) (eC (.int 1))) aNil))))) (gPar 2 3 (aCons (eV 4) (aCons (eV 8) aNil))) gNx))))
  (gRet (eV 2))))
def F_u_law_done : List D → Option D := mkF 9 g_u_law_done

def g_u_law_spots : DS1 := (gSeq (gSetF 1 (eDisp (pCons (eTup (aCons (eC (.int 0)) (aCons (eC (.int 1)) aNil))) (eC (.bl true)) (pCons (eTup (aCons (eC (.int 1)) (aCons (eC (.int 1)) aNil))) (eC (.bl true)) pNil))))
  (gSeq (gSet 2 (e2 gAddA (eLst (aCons (eTup (aCons (eTup (aCons (eC (.int 0)) (aCons (eC (.int 1)) aNil))) (aCons (eC (.int 0)) aNil))) aNil)) (eLc (iEnA (e2 gIxA (eVB 0) (eC (.int 1)))) ([(Str.ofString "work", 13), (Str.ofString "effort", 4), (Str.ofString "parts", 14)].map (·.2)) (bT (bCons (bN 13) (bCons (bT (bCons (bN 4) (bCons (bN 14) bNil))) bNil))) (eC (.bl true)) (eTup (aCons (eCall 2 F_u_law_worth (aCons (eV 0) (aCons (eV 13) aNil))) (aCons (eV 4) aNil))))))
  (gSeq (gFor (iA (eV 2)) (bT (bCons (bN 3) (bCons (bN 4) bNil)))
  (gFor (iA (eV 2)) (bT (bCons (bN 5) (bCons (bN 6) bNil)))
  (gIf (eAnd (eCall 2 F_u_law_below (aCons (eV 3) (aCons (eV 5) aNil))) (e2 gGt (eVB 6) (eVB 4))) (gSeq (gSet 7 (eCall 2 F_u_law_less (aCons (eV 5) (aCons (eV 3) aNil))))
  (gSeq (gSet 8 (eCall 2 F_u_law_product (aCons (eTup (aCons (e2 gSubI (eVB 6) (eVB 4)) (aCons (eC (.int 1)) aNil))) (aCons (eTup (aCons (e2 gIxA (eVB 7) (eC (.int 1))) (aCons (e2 gIxA (eVB 7) (eC (.int 0))) aNil))) aNil))))
  (gIf (eNot (eCall 2 F_u_law_below (aCons (eTup (aCons (eC (.int 1)) (aCons (eC (.int 1)) aNil))) (aCons (eV 8) aNil)))) (gSetA 1 (eV 8) (eC (.bl true))) gNx))) gNx)))
  (gSeq (gSetF 9 (eCB gListA (aCons (eVB 1) aNil)))
  (gSeq (gFor (iR1 (eCB gLenA (aCons (eVB 9) aNil))) (bN 10)
  (gFor (iR1 (e2 gSubI (eCB gLenA (aCons (eVB 9) aNil)) (eC (.int 1)))) (bN 11)
  (gIf (eCall 2 F_u_law_below (aCons (e2 gIxA (eVB 9) (e2 gAddA (eVB 11) (eC (.int 1)))) (aCons (e2 gIxA (eVB 9) (eVB 11)) aNil))) (gSeq (gPar 12 5 (aCons (e2 gIxA (eVB 9) (eVB 11)) (aCons (e2 gIxA (eVB 9) (e2 gAddA (eVB 11) (eC (.int 1)))) aNil)))
  (gSwap 9 (eV 11) (e2 gAddA (eVB 11) (eC (.int 1))) (eV 5) (eV 12))) gNx)))
  (fun ρ => gRet (eV 9) (frz 9 ρ)))))))
def F_u_law_spots : List D → Option D := mkF 15 g_u_law_spots

def g_inverse : DS1 := (gSeq (gAsg (eV 0) (bT (bCons (bN 1) (bCons (bN 2) bNil))))
  (gRet (eIf (e2 gGt (eVB 1) (eC (.int 0))) (eTup (aCons (eV 2) (aCons (eV 1) aNil))) (eTup (aCons (eNeg (eVB 2)) (aCons (eNeg (eVB 1)) aNil))))))
def F_inverse : List D → Option D := mkF 3 g_inverse

def g_over : DS1 := (gRet (eCall 2 F_times (aCons (eV 0) (aCons (eCall 1 F_inverse (aCons (eV 1) aNil)) aNil))))
def F_over : List D → Option D := mkF 2 g_over

def g_u_next_share : DS1 := (gSeq (gSet 2 (eC .non))
  (gSeq (gFor (iR1 (eCB (fun x => (gLen x).or (gLenO 0 F_JobD_lenD x)) (aCons (eVB 0) aNil))) (bN 3)
  (gSeq (gSet 4 (eCall 2 F_minus (aCons (eCall 2 F_u_worth (aCons (eV 0) (aCons (eV 3) aNil))) (aCons (eCall 2 F_u_worth (aCons (eV 0) (aCons (eV 1) aNil))) aNil))))
  (gSeq (gIf (eNot (eCall 2 F_is_less (aCons (eC (.tup [(.int 0), (.int 1)])) (aCons (eV 4) aNil)))) (fun ρ => .ct ρ) gNx)
  (gSeq (gSet 5 (eCall 2 F_over (aCons (eCall 2 F_minus (aCons (eCall 2 F_u_effort (aCons (eV 0) (aCons (eV 3) aNil))) (aCons (eCall 2 F_u_effort (aCons (eV 0) (aCons (eV 1) aNil))) aNil))) (aCons (eV 4) aNil))))
  (gIf (eAnd (eNot (eCall 2 F_is_less (aCons (eC (.tup [(.int 1), (.int 1)])) (aCons (eV 5) aNil)))) (eOr (e2 (gIsN false) (eVB 2) (eC .non)) (eCall 2 F_is_less (aCons (eV 5) (aCons (eV 2) aNil))))) (gSet 2 (eV 5)) gNx)))))
  (gRet (eV 2))))
def F_u_next_share : List D → Option D := mkF 6 g_u_next_share

def g_turns : DS1 := (gSeq (gExp (eCall 1 F_check_job (aCons (eV 0) aNil)))
  (gSeq (gSetF 1 (eLst aNil))
  (gSeq (gSet 2 (eC (.tup [(.int 0), (.int 1)])))
  (gSeq (gWh (fun _ => 100) (e2 (gIsN true) (eVB 2) (eC .non)) (gSeq (gSet 3 (eCallV 2 F_done (aCons (eV 0) (aCons (eV 2) aNil))))
  (gSeq (gApp 1 (eTup (aCons (eV 2) (aCons (eV 3) aNil))))
  (gSet 2 (eCall 2 F_u_next_share (aCons (eV 0) (aCons (eV 3) aNil)))))))
  (fun ρ => gRet (eV 1) (frz 1 ρ))))))
def F_turns : List D → Option D := mkF 4 g_turns

def g_best_share : DS1 := (gSeq (gSet 1 (eC .non))
  (gSeq (gSet 2 (eC .non))
  (gSeq (gFor (iA (eCall 1 F_turns (aCons (eV 0) aNil))) (bT (bCons (bN 3) (bCons (bN 4) bNil)))
  (gSeq (gSet 5 (eCall 2 F_times (aCons (eCall 2 F_minus (aCons (eC (.tup [(.int 1), (.int 1)])) (aCons (eV 3) aNil))) (aCons (eCall 2 F_u_worth (aCons (eV 0) (aCons (eV 4) aNil))) aNil))))
  (gIf (eOr (e2 (gIsN false) (eVB 1) (eC .non)) (eCall 2 F_is_less (aCons (eV 2) (aCons (eV 5) aNil)))) (gSeq (gSet 1 (eV 3))
  (gSet 2 (eV 5))) gNx)))
  (gRet (eTup (aCons (eV 1) (aCons (eV 2) aNil)))))))
def F_best_share : List D → Option D := mkF 6 g_best_share

def g_u_law_job_right : DS1 := (gSeq (gParKOK 3 4 5 (eMake 0 2 F_JobD_initD (aCons (e2 gIxA (eVB 2) (eC (.int 0))) (aCons (e2 gIxA (eVB 2) (eC (.int 1))) aNil))) (eLst aNil) (eC .non))
  (gSeq (gFor (iA (eCall 1 F_u_law_spots (aCons (eV 2) aNil))) (bN 6)
  (gSeq (gSet 7 (eCall 2 F_u_law_done (aCons (eV 2) (aCons (eV 6) aNil))))
  (gSeq (gIf (e2 (gEqA true) (eCallV 2 F_done (aCons (eV 3) (aCons (eV 6) aNil))) (eVB 7)) (gRet (eC (.bl false))) gNx)
  (gSeq (gIf (eOr (e2 (gEqA false) (eVB 4) (eLst aNil)) (e2 (gEqA true) (e2 gIxA (e2 gIxA (eVB 4) (eNeg (eC (.int 1)))) (eC (.int 1))) (eVB 7))) (gApp 4 (eTup (aCons (eV 6) (aCons (eV 7) aNil)))) gNx)
  (gSeq (gSet 8 (eCall 2 F_u_law_product (aCons (eCall 2 F_u_law_less (aCons (eTup (aCons (eC (.int 1)) (aCons (eC (.int 1)) aNil))) (aCons (eV 6) aNil))) (aCons (eCall 2 F_u_law_worth (aCons (eV 2) (aCons (eV 7) aNil))) aNil))))
  (gIf (eOr (e2 (gIsN false) (eVB 5) (eC .non)) (eCall 2 F_u_law_below (aCons (e2 gIxA (eVB 5) (eC (.int 1))) (aCons (eV 8) aNil)))) (gSet 5 (eTup (aCons (eV 6) (aCons (eV 8) aNil)))) gNx))))))
  (gSeq (gIf (eOr (e2 (gEqA true) (eCall 1 F_turns (aCons (eV 3) aNil)) (eVB 4)) (e2 (gEqA true) (eCall 1 F_best_share (aCons (eV 3) aNil)) (eVB 5))) (gRet (eC (.bl false))) gNx)
  (gSeq (gFor (iR1 (eC (.int 6))) (bN 9)
  (gSeq (gSet 10 (e2 gAddA (eC (.int 1)) (e2 gModI (eCB gInt (aCons (eCall 2 F_u_law_number (aCons (eV 0) (aCons (e2 gAddA (eVB 1) (eVB 9)) aNil))) aNil)) (e2 gIxA (eTup (aCons (eC (.int 6)) (aCons (eC (.int 90)) aNil))) (e2 gModI (eCB gInt (aCons (eVB 9) aNil)) (eC (.int 2)))))))
  (gSeq (gSet 11 (eCall 2 F_u_law_lowest (aCons (e2 gModI (eCB gInt (aCons (eCall 2 F_u_law_number (aCons (eV 0) (aCons (e2 gAddA (e2 gAddA (eVB 1) (eC (.int 10))) (eVB 9)) aNil))) aNil)) (e2 gAddA (eVB 10) (eC (.int 1)))) (aCons (eV 10) aNil))))
  (gIf (e2 (gEqA true) (eCallV 2 F_done (aCons (eV 3) (aCons (eV 11) aNil))) (eCall 2 F_u_law_done (aCons (eV 2) (aCons (eV 11) aNil)))) (gRet (eC (.bl false))) gNx))))
  (gRet (eC (.bl true)))))))
def F_u_law_job_right : List D → Option D := mkF 12 g_u_law_job_right

def g_u_law_all_right : DS1 := (gSeq (gFor (iR1 (eC (.int 3))) (bN 1)
  (gSeq (gSet 2 (eCall 2 F_u_law_job (aCons (eV 0) (aCons (e2 gAddA (eC (.int 10)) (e2 gMulA (eC (.int 50)) (eVB 1))) aNil))))
  (gSeq (gIf (eNot (eCall 3 F_u_law_job_right (aCons (eV 0) (aCons (e2 gAddA (eC (.int 200)) (e2 gMulA (eC (.int 30)) (eVB 1))) (aCons (eV 2) aNil))))) (gRet (eC (.bl false))) gNx)
  (gSeq (gSet 3 (eTup (aCons (eC .non) (aCons (eC (.int 1)) (aCons (eTup (aCons (eC (.int 1)) aNil)) (aCons (eTup (aCons (eC (.int 2)) (aCons (eC (.int 1)) aNil))) (aCons (eTup (aCons (eNeg (eC (.int 1))) (aCons (eC (.int 2)) aNil))) (aCons (eTup (aCons (eC (.int 2)) (aCons (eC (.int 4)) aNil))) (aCons (eTup (aCons (eC (.int 0)) (aCons (eC (.int 2)) aNil))) (aCons (eTup (aCons (eC (.int 1)) (aCons (eC (.int 0)) aNil))) (aCons (eLst (aCons (eC (.int 1)) (aCons (eC (.int 2)) aNil))) (aCons (eTup (aCons (eC (.int 1)) (aCons (eC (.bl true)) aNil))) (aCons (eC (.str (Str.ofString "12"))) (aCons (eTup (aCons (eC (.int 1)) (aCons (eC (.int 2)) (aCons (eC (.int 3)) aNil)))) (aCons (eTup (aCons (eC (.int 3)) (aCons (eC (.int 2)) aNil))) aNil)))))))))))))))
  (gIf (eNot (eCB gAll (aCons (eLc (iA (eV 3)) ([(Str.ofString "one", 4)].map (·.2)) (bN 4) (eC (.bl true)) (eCall 2 F_u_law_is_refused (aCons (eMake 0 2 F_JobD_initD (aCons (e2 gIxA (eVB 2) (eC (.int 0))) (aCons (e2 gIxA (eVB 2) (eC (.int 1))) aNil))) (aCons (eV 4) aNil)))) aNil))) (gRet (eC (.bl false))) gNx)))))
  (gRet (eC (.bl true))))
def F_u_law_all_right : List D → Option D := mkF 5 g_u_law_all_right
end K04

set_option maxHeartbeats 8000000
namespace K04
open PySem PySem.Spec PyProof.Rows L2 DL
variable [CT]
def topS (i : Nat) : Stmt := PySem.Challenge.pw_outcomepay_k04_whole_shares.main.body.getD i (.Pass ⟨0, 0, 0, 0⟩)
set_option genSizeOfSpec false in
set_option genInjectivity false in
structure Txt (K : PySem.W.Frag) (mg : Str → Option Value) where
  cl_Job : Cls K (CT.ct 0)
  mc_Job : mg "Job" = some (.ref (CT.ct 0))
  na_Job_worths : NoAttr K (CT.ct 0) "_worths"
  na_Job_works : NoAttr K (CT.ct 0) "_works"
  f_is_integer : Addr
  d_is_integer : FuncData
  fun_is_integer : Fun K "is_integer" "is_integer" (topS 8) f_is_integer d_is_integer
  b_is_integer : Binds K d_is_integer [Str.ofString "thing"] []
  m_is_integer : mg "is_integer" = some (.ref f_is_integer)
  f_is_integer_within : Addr
  d_is_integer_within : FuncData
  fun_is_integer_within : Fun K "is_integer_within" "is_integer_within" (topS 9) f_is_integer_within d_is_integer_within
  b_is_integer_within : Binds K d_is_integer_within [Str.ofString "thing", Str.ofString "least", Str.ofString "most"] []
  m_is_integer_within : mg "is_integer_within" = some (.ref f_is_integer_within)
  f_u_are_parts : Addr
  d_u_are_parts : FuncData
  fun_u_are_parts : Fun K "_are_parts" "_are_parts" (topS 32) f_u_are_parts d_u_are_parts
  b_u_are_parts : Binds K d_u_are_parts [Str.ofString "parts", Str.ofString "outcomes"] []
  m_u_are_parts : mg "_are_parts" = some (.ref f_u_are_parts)
  f_u_is_work : Addr
  d_u_is_work : FuncData
  fun_u_is_work : Fun K "is_work" "is_work" (topS 31) f_u_is_work d_u_is_work
  b_u_is_work : Binds K d_u_is_work [Str.ofString "work", Str.ofString "outcomes"] []
  m_u_is_work : mg "is_work" = some (.ref f_u_is_work)
  f_u_are_works : Addr
  d_u_are_works : FuncData
  fun_u_are_works : Fun K "_are_works" "_are_works" (topS 30) f_u_are_works d_u_are_works
  b_u_are_works : Binds K d_u_are_works [Str.ofString "works", Str.ofString "outcomes"] []
  m_u_are_works : mg "_are_works" = some (.ref f_u_are_works)
  f_u_are_worths : Addr
  d_u_are_worths : FuncData
  fun_u_are_worths : Fun K "are_worths" "are_worths" (topS 29) f_u_are_worths d_u_are_worths
  b_u_are_worths : Binds K d_u_are_worths [Str.ofString "worths"] []
  m_u_are_worths : mg "are_worths" = some (.ref f_u_are_worths)
  f_JobD_initD : Addr
  d_JobD_initD : FuncData
  fun_JobD_initD : Fun K "__init__" "Job.__init__" (inClass (topS 28) 0) f_JobD_initD d_JobD_initD
  b_JobD_initD : Binds K d_JobD_initD [Str.ofString "self", Str.ofString "worths", Str.ofString "works"] []
  f_JobD_lenD : Addr
  d_JobD_lenD : FuncData
  fun_JobD_lenD : Fun K "__len__" "Job.__len__" (inClass (topS 28) 3) f_JobD_lenD d_JobD_lenD
  b_JobD_lenD : Binds K d_JobD_lenD [Str.ofString "self"] []
  me_JobD_lenD : Meth K (CT.ct 0) "__len__" f_JobD_lenD
  f_is_fraction : Addr
  d_is_fraction : FuncData
  fun_is_fraction : Fun K "is_fraction" "is_fraction" (topS 10) f_is_fraction d_is_fraction
  b_is_fraction : Binds K d_is_fraction [Str.ofString "thing"] []
  m_is_fraction : mg "is_fraction" = some (.ref f_is_fraction)
  f_is_amount : Addr
  d_is_amount : FuncData
  fun_is_amount : Fun K "is_amount" "is_amount" (topS 11) f_is_amount d_is_amount
  b_is_amount : Binds K d_is_amount [Str.ofString "thing"] []
  m_is_amount : mg "is_amount" = some (.ref f_is_amount)
  f_is_less : Addr
  d_is_less : FuncData
  fun_is_less : Fun K "is_less" "is_less" (topS 19) f_is_less d_is_less
  b_is_less : Binds K d_is_less [Str.ofString "one", Str.ofString "other"] []
  m_is_less : mg "is_less" = some (.ref f_is_less)
  f_u_check_share : Addr
  d_u_check_share : FuncData
  fun_u_check_share : Fun K "_check_share" "_check_share" (topS 41) f_u_check_share d_u_check_share
  b_u_check_share : Binds K d_u_check_share [Str.ofString "share"] []
  m_u_check_share : mg "_check_share" = some (.ref f_u_check_share)
  f_Job_works : Addr
  d_Job_works : FuncData
  fun_Job_works : Fun K "works" "Job.works" (inClass (topS 28) 2) f_Job_works d_Job_works
  b_Job_works : Binds K d_Job_works [Str.ofString "self"] []
  p_Job_works : Addr
  pr_Job_works : PropOf K (CT.ct 0) "works" p_Job_works f_Job_works
  f_work_efforts : Addr
  d_work_efforts : FuncData
  fun_work_efforts : Fun K "work_efforts" "work_efforts" (topS 34) f_work_efforts d_work_efforts
  b_work_efforts : Binds K d_work_efforts [Str.ofString "job"] []
  m_work_efforts : mg "work_efforts" = some (.ref f_work_efforts)
  f_u_effort : Addr
  d_u_effort : FuncData
  fun_u_effort : Fun K "_effort" "_effort" (topS 46) f_u_effort d_u_effort
  b_u_effort : Binds K d_u_effort [Str.ofString "job", Str.ofString "work"] []
  m_u_effort : mg "_effort" = some (.ref f_u_effort)
  f_Job_worths : Addr
  d_Job_worths : FuncData
  fun_Job_worths : Fun K "worths" "Job.worths" (inClass (topS 28) 1) f_Job_worths d_Job_worths
  b_Job_worths : Binds K d_Job_worths [Str.ofString "self"] []
  p_Job_worths : Addr
  pr_Job_worths : PropOf K (CT.ct 0) "worths" p_Job_worths f_Job_worths
  f_ratio : Addr
  d_ratio : FuncData
  fun_ratio : Fun K "ratio" "ratio" (topS 12) f_ratio d_ratio
  b_ratio : Binds K d_ratio [Str.ofString "top", Str.ofString "bottom"] []
  m_ratio : mg "ratio" = some (.ref f_ratio)
  f_times : Addr
  d_times : FuncData
  fun_times : Fun K "times" "times" (topS 16) f_times d_times
  b_times : Binds K d_times [Str.ofString "one", Str.ofString "other"] []
  m_times : mg "times" = some (.ref f_times)
  f_plus : Addr
  d_plus : FuncData
  fun_plus : Fun K "plus" "plus" (topS 13) f_plus d_plus
  b_plus : Binds K d_plus [Str.ofString "one", Str.ofString "other"] []
  m_plus : mg "plus" = some (.ref f_plus)
  f_total : Addr
  d_total : FuncData
  fun_total : Fun K "total" "total" (topS 20) f_total d_total
  b_total : Binds K d_total [Str.ofString "amounts"] []
  m_total : mg "total" = some (.ref f_total)
  f_weighted : Addr
  d_weighted : FuncData
  fun_weighted : Fun K "weighted" "weighted" (topS 21) f_weighted d_weighted
  b_weighted : Binds K d_weighted [Str.ofString "weights", Str.ofString "amounts"] []
  m_weighted : mg "weighted" = some (.ref f_weighted)
  f_work_chances : Addr
  d_work_chances : FuncData
  fun_work_chances : Fun K "work_chances" "work_chances" (topS 35) f_work_chances d_work_chances
  b_work_chances : Binds K d_work_chances [Str.ofString "job", Str.ofString "work"] []
  m_work_chances : mg "work_chances" = some (.ref f_work_chances)
  f_average_worth : Addr
  d_average_worth : FuncData
  fun_average_worth : Fun K "average_worth" "average_worth" (topS 36) f_average_worth d_average_worth
  b_average_worth : Binds K d_average_worth [Str.ofString "job", Str.ofString "work"] []
  m_average_worth : mg "average_worth" = some (.ref f_average_worth)
  f_u_worth : Addr
  d_u_worth : FuncData
  fun_u_worth : Fun K "_worth" "_worth" (topS 45) f_u_worth d_u_worth
  b_u_worth : Binds K d_u_worth [Str.ofString "job", Str.ofString "work"] []
  m_u_worth : mg "_worth" = some (.ref f_u_worth)
  f_negative : Addr
  d_negative : FuncData
  fun_negative : Fun K "negative" "negative" (topS 14) f_negative d_negative
  b_negative : Binds K d_negative [Str.ofString "one"] []
  m_negative : mg "negative" = some (.ref f_negative)
  f_minus : Addr
  d_minus : FuncData
  fun_minus : Fun K "minus" "minus" (topS 15) f_minus d_minus
  b_minus : Binds K d_minus [Str.ofString "one", Str.ofString "other"] []
  m_minus : mg "minus" = some (.ref f_minus)
  f_u_gain : Addr
  d_u_gain : FuncData
  fun_u_gain : Fun K "_gain" "_gain" (topS 44) f_u_gain d_u_gain
  b_u_gain : Binds K d_u_gain [Str.ofString "job", Str.ofString "share", Str.ofString "work"] []
  m_u_gain : mg "_gain" = some (.ref f_u_gain)
  f_u_is_preferred : Addr
  d_u_is_preferred : FuncData
  fun_u_is_preferred : Fun K "_is_preferred" "_is_preferred" (topS 42) f_u_is_preferred d_u_is_preferred
  b_u_is_preferred : Binds K d_u_is_preferred [Str.ofString "job", Str.ofString "share", Str.ofString "work", Str.ofString "other"] []
  m_u_is_preferred : mg "_is_preferred" = some (.ref f_u_is_preferred)
  f_check_job : Addr
  d_check_job : FuncData
  fun_check_job : Fun K "check_job" "check_job" (topS 33) f_check_job d_check_job
  b_check_job : Binds K d_check_job [Str.ofString "job"] []
  m_check_job : mg "check_job" = some (.ref f_check_job)
  f_done : Addr
  d_done : FuncData
  fun_done : Fun K "done" "done" (topS 39) f_done d_done
  b_done : Binds K d_done [Str.ofString "job", Str.ofString "share"] []
  m_done : mg "done" = some (.ref f_done)
  f_u_law_is_refused : Addr
  d_u_law_is_refused : FuncData
  fun_u_law_is_refused : Fun K "_law_is_refused" "_law_is_refused" (topS 61) f_u_law_is_refused d_u_law_is_refused
  b_u_law_is_refused : Binds K d_u_law_is_refused [Str.ofString "job", Str.ofString "share"] []
  m_u_law_is_refused : mg "_law_is_refused" = some (.ref f_u_law_is_refused)
  f_u_law_number : Addr
  d_u_law_number : FuncData
  fun_u_law_number : Fun K "_law_number" "_law_number" (topS 48) f_u_law_number d_u_law_number
  b_u_law_number : Binds K d_u_law_number [Str.ofString "script", Str.ofString "index"] []
  m_u_law_number : mg "_law_number" = some (.ref f_u_law_number)
  f_u_law_job : Addr
  d_u_law_job : FuncData
  fun_u_law_job : Fun K "_law_job" "_law_job" (topS 55) f_u_law_job d_u_law_job
  b_u_law_job : Binds K d_u_law_job [Str.ofString "script", Str.ofString "index"] []
  m_u_law_job : mg "_law_job" = some (.ref f_u_law_job)
  f_u_law_below : Addr
  d_u_law_below : FuncData
  fun_u_law_below : Fun K "_law_below" "_law_below" (topS 53) f_u_law_below d_u_law_below
  b_u_law_below : Binds K d_u_law_below [Str.ofString "one", Str.ofString "other"] []
  m_u_law_below : mg "_law_below" = some (.ref f_u_law_below)
  f_u_law_lowest : Addr
  d_u_law_lowest : FuncData
  fun_u_law_lowest : Fun K "_law_lowest" "_law_lowest" (topS 49) f_u_law_lowest d_u_law_lowest
  b_u_law_lowest : Binds K d_u_law_lowest [Str.ofString "top", Str.ofString "bottom"] []
  m_u_law_lowest : mg "_law_lowest" = some (.ref f_u_law_lowest)
  f_u_law_less : Addr
  d_u_law_less : FuncData
  fun_u_law_less : Fun K "_law_less" "_law_less" (topS 51) f_u_law_less d_u_law_less
  b_u_law_less : Binds K d_u_law_less [Str.ofString "one", Str.ofString "other"] []
  m_u_law_less : mg "_law_less" = some (.ref f_u_law_less)
  f_u_law_product : Addr
  d_u_law_product : FuncData
  fun_u_law_product : Fun K "_law_product" "_law_product" (topS 52) f_u_law_product d_u_law_product
  b_u_law_product : Binds K d_u_law_product [Str.ofString "one", Str.ofString "other"] []
  m_u_law_product : mg "_law_product" = some (.ref f_u_law_product)
  f_u_law_chances : Addr
  d_u_law_chances : FuncData
  fun_u_law_chances : Fun K "_law_chances" "_law_chances" (topS 56) f_u_law_chances d_u_law_chances
  b_u_law_chances : Binds K d_u_law_chances [Str.ofString "pack", Str.ofString "work"] []
  m_u_law_chances : mg "_law_chances" = some (.ref f_u_law_chances)
  f_u_law_sum : Addr
  d_u_law_sum : FuncData
  fun_u_law_sum : Fun K "_law_sum" "_law_sum" (topS 50) f_u_law_sum d_u_law_sum
  b_u_law_sum : Binds K d_u_law_sum [Str.ofString "one", Str.ofString "other"] []
  m_u_law_sum : mg "_law_sum" = some (.ref f_u_law_sum)
  f_u_law_dot : Addr
  d_u_law_dot : FuncData
  fun_u_law_dot : Fun K "_law_dot" "_law_dot" (topS 54) f_u_law_dot d_u_law_dot
  b_u_law_dot : Binds K d_u_law_dot [Str.ofString "row", Str.ofString "other"] []
  m_u_law_dot : mg "_law_dot" = some (.ref f_u_law_dot)
  f_u_law_worth : Addr
  d_u_law_worth : FuncData
  fun_u_law_worth : Fun K "_law_worth" "_law_worth" (topS 57) f_u_law_worth d_u_law_worth
  b_u_law_worth : Binds K d_u_law_worth [Str.ofString "pack", Str.ofString "work"] []
  m_u_law_worth : mg "_law_worth" = some (.ref f_u_law_worth)
  f_u_law_done : Addr
  d_u_law_done : FuncData
  fun_u_law_done : Fun K "_law_done" "_law_done" (topS 58) f_u_law_done d_u_law_done
  b_u_law_done : Binds K d_u_law_done [Str.ofString "pack", Str.ofString "share"] []
  m_u_law_done : mg "_law_done" = some (.ref f_u_law_done)
  f_u_law_spots : Addr
  d_u_law_spots : FuncData
  fun_u_law_spots : Fun K "_law_spots" "_law_spots" (topS 59) f_u_law_spots d_u_law_spots
  b_u_law_spots : Binds K d_u_law_spots [Str.ofString "pack"] []
  m_u_law_spots : mg "_law_spots" = some (.ref f_u_law_spots)
  f_inverse : Addr
  d_inverse : FuncData
  fun_inverse : Fun K "inverse" "inverse" (topS 17) f_inverse d_inverse
  b_inverse : Binds K d_inverse [Str.ofString "one"] []
  m_inverse : mg "inverse" = some (.ref f_inverse)
  f_over : Addr
  d_over : FuncData
  fun_over : Fun K "over" "over" (topS 18) f_over d_over
  b_over : Binds K d_over [Str.ofString "one", Str.ofString "other"] []
  m_over : mg "over" = some (.ref f_over)
  f_u_next_share : Addr
  d_u_next_share : FuncData
  fun_u_next_share : Fun K "_next_share" "_next_share" (topS 43) f_u_next_share d_u_next_share
  b_u_next_share : Binds K d_u_next_share [Str.ofString "job", Str.ofString "work"] []
  m_u_next_share : mg "_next_share" = some (.ref f_u_next_share)
  f_turns : Addr
  d_turns : FuncData
  fun_turns : Fun K "turns" "turns" (topS 38) f_turns d_turns
  b_turns : Binds K d_turns [Str.ofString "job"] []
  m_turns : mg "turns" = some (.ref f_turns)
  f_best_share : Addr
  d_best_share : FuncData
  fun_best_share : Fun K "best_share" "best_share" (topS 40) f_best_share d_best_share
  b_best_share : Binds K d_best_share [Str.ofString "job"] []
  m_best_share : mg "best_share" = some (.ref f_best_share)
  f_u_law_job_right : Addr
  d_u_law_job_right : FuncData
  fun_u_law_job_right : Fun K "_law_job_right" "_law_job_right" (topS 60) f_u_law_job_right d_u_law_job_right
  b_u_law_job_right : Binds K d_u_law_job_right [Str.ofString "script", Str.ofString "index", Str.ofString "pack"] []
  m_u_law_job_right : mg "_law_job_right" = some (.ref f_u_law_job_right)
  f_u_law_all_right : Addr
  d_u_law_all_right : FuncData
  fun_u_law_all_right : Fun K "_law_all_right" "_law_all_right" (topS 62) f_u_law_all_right d_u_law_all_right
  b_u_law_all_right : Binds K d_u_law_all_right [Str.ofString "script"] []
  m_u_law_all_right : mg "_law_all_right" = some (.ref f_u_law_all_right)
  mk_Job : Mk K (CT.ct 0) f_JobD_initD
  at_works : Flds K [0] "_works"
  at_worths : Flds K [0] "_worths"
  isa_Job : IsaOk K [0] 0
  ge_BadShare : mg "BadShare" = some (.ref (CT.ct 1))
  xe_BadShare : PySem.W.excIn K (CT.ct 1) [.type "ValueError", .type "Exception", .type "BaseException", .type "object"] "ValueError.__new__" = true
  ke_BadShare : PySem.W.keepIn K (.ref (CT.ct 1)) = true
  be_BadShare : PySem.W.subIn K (.ref (CT.ct 1)) (.type "BaseException") = some true
  te_BadShare : PySem.W.typeIn K (.ref (CT.ct 1)) = some (.type "type")
  xm_BadShare : ExmOk K [1] 1
  n_abs : mg "abs" = none
  n_all : mg "all" = none
  n_bool : mg "bool" = none
  n_enumerate : mg "enumerate" = none
  n_int : mg "int" = none
  n_isinstance : mg "isinstance" = none
  n_len : mg "len" = none
  n_list : mg "list" = none
  n_range : mg "range" = none
  n_sum : mg "sum" = none
  n_tuple : mg "tuple" = none
  n_zip : mg "zip" = none
  t_FEWEST : Tok
  m_FEWEST : mg "FEWEST" = some (.int 2 t_FEWEST)
  t_MOST : Tok
  m_MOST : mg "MOST" = some (.int 4 t_MOST)
  t_MOST_EFFORT : Tok
  m_MOST_EFFORT : mg "MOST_EFFORT" = some (.int 9 t_MOST_EFFORT)
  t_MOST_PART : Tok
  m_MOST_PART : mg "MOST_PART" = some (.int 6 t_MOST_PART)
  t_MOST_WORTH : Tok
  m_MOST_WORTH : mg "MOST_WORTH" = some (.int 20 t_MOST_WORTH)
  a_ONE : Addr
  m_ONE : mg "ONE" = some (.ref a_ONE)
  r_ONE : ∀ H, Rep K H (.ref a_ONE) (.tup [(.int 1), (.int 1)])
  a_ZERO : Addr
  m_ZERO : mg "ZERO" = some (.ref a_ZERO)
  r_ZERO : ∀ H, Rep K H (.ref a_ZERO) (.tup [(.int 0), (.int 1)])
  m_gcd : mg "gcd" = some (.builtin "math.gcd")
end K04

set_option maxHeartbeats 8000000
namespace K04
open PySem PySem.Spec PyProof.Rows L2 DL
section
variable [CT] {P : Program} {w : World} {K : PySem.W.Frag} {mg : Str → Option Value} {base : Heap}
abbrev s_is_integer : Stmt := topS 8
theorem sc_is_integer : FnScope [Str.ofString "thing"] [Str.ofString "thing"] (defScope s_is_integer) := ⟨rfl, rfl, rfl, by decide +kernel, rfl, by decide +kernel, by decide +kernel⟩

theorem ok_is_integer (T : Txt K mg) : FnOk P w K mg base CX0 1 T.f_is_integer T.d_is_integer [Str.ofString "thing"] (spD K 1 F_is_integer) := by
  unfold F_is_integer
  refine def_ok' s_is_integer [Str.ofString "thing"] [Str.ofString "thing"] 0 1 1 g_is_integer T.fun_is_integer sc_is_integer rfl rfl fun cdv A outer s H E hr => ?_
  have hu := hr.units
  have h5 := hr.units5
  exact (dss_one (ds_ret (de_and (de_isi (by rfl) T.n_isinstance (by decide +kernel) (db_var 0 (pv 0)) (pe_bltn (by rfl) T.n_int (by decide +kernel) rfl)) (de_and1 (de_not (de_isi (by rfl) T.n_isinstance (by decide +kernel) (db_var 0 (pv 0)) (pe_bltn (by rfl) T.n_bool (by decide +kernel) rfl)))))))

abbrev s_is_integer_within : Stmt := topS 9
theorem sc_is_integer_within : FnScope [Str.ofString "thing", Str.ofString "least", Str.ofString "most"] [Str.ofString "thing", Str.ofString "least", Str.ofString "most"] (defScope s_is_integer_within) := ⟨rfl, rfl, rfl, by decide +kernel, rfl, by decide +kernel, by decide +kernel⟩

theorem ok_is_integer_within (T : Txt K mg) : FnOk P w K mg base CX0 2 T.f_is_integer_within T.d_is_integer_within [Str.ofString "thing", Str.ofString "least", Str.ofString "most"] (spD K 3 F_is_integer_within) := by
  unfold F_is_integer_within
  refine def_ok' s_is_integer_within [Str.ofString "thing", Str.ofString "least", Str.ofString "most"] [Str.ofString "thing", Str.ofString "least", Str.ofString "most"] 1 3 3 g_is_integer_within T.fun_is_integer_within sc_is_integer_within rfl rfl fun cdv A outer s H E hr => ?_
  have hu := hr.units
  have h5 := hr.units5
  exact (dss_one (ds_ret (de_and (de_call (ok_is_integer T) (hr.mono (by decide)) (by rfl) T.m_is_integer T.fun_is_integer.kp T.b_is_integer (da_cons (de_var 0 (pv 0)) da_nil)) (de_and1 (de_chain od_le od_le (db_var 1 (pv 1)) (db_var 0 (pv 0)) (db_var 2 (pv 2)))))))

abbrev s_u_are_parts : Stmt := topS 32
theorem sc_u_are_parts : FnScope [Str.ofString "parts", Str.ofString "outcomes", Str.ofString "part"] [Str.ofString "parts", Str.ofString "outcomes"] (defScope s_u_are_parts) := ⟨rfl, rfl, rfl, by decide +kernel, rfl, by decide +kernel, by decide +kernel⟩

theorem ok_u_are_parts (T : Txt K mg) : FnOk P w K mg base CX0 3 T.f_u_are_parts T.d_u_are_parts [Str.ofString "parts", Str.ofString "outcomes"] (spD K 2 F_u_are_parts) := by
  unfold F_u_are_parts
  refine def_ok' s_u_are_parts [Str.ofString "parts", Str.ofString "outcomes", Str.ofString "part"] [Str.ofString "parts", Str.ofString "outcomes"] 2 3 2 g_u_are_parts T.fun_u_are_parts sc_u_are_parts rfl rfl fun cdv A outer s H E hr => ?_
  have hu := hr.units
  have h5 := hr.units5
  exact (dss_cons (ds_if (dt_w (dw_or (dt_not (dt_val (de_isi (by rfl) T.n_isinstance (by decide +kernel) (db_var 0 (pv 0)) (pe_bltn (by rfl) T.n_tuple (by decide +kernel) rfl)))) (dw_or1 (dt_cmp (od_neA h5) (db_of (de_callB cd_lenA (by rfl) T.n_len (by decide +kernel) (dab_cons (db_var 0 (pv 0)) dab_nil))) (db_var 1 (pv 1)) (nomark _))))) (dss_one (ds_ret de_bl)) dss_nil)
      (dss_one (ds_ret (de_and (de_callB (cd_all rfl) (by rfl) T.n_all (by decide +kernel) (dab_cons (db_of (de_of (df_lc [(Str.ofString "part", 2)] rfl sc_u_are_parts.nd (di_A (de_var 0 (pv 0))) (blkOk_by (by kernel_rfl)) (fun _ _ _ _ _ => (dg_name 2 sc_u_are_parts.nd)) (fun _ _ _ _ _ => dts_nil) (fun _ _ _ _ _ => (de_call (ok_is_integer_within T) (hr.mono (by decide)) (by rfl) T.m_is_integer_within T.fun_is_integer_within.kp T.b_is_integer_within (da_cons (de_var 2 (pv 2)) (da_cons de_int (da_cons (de_glob (pe_glob (v := L2.V.int 6) rfl T.m_MOST_PART ⟨_, rfl⟩) (fun _ => .int _)) da_nil)))))))) dab_nil)) (de_and1 (de_cmp od_gt (db_of (de_callB (cd_sum rfl) (by rfl) T.n_sum (by decide +kernel) (dab_cons (db_var 0 (pv 0)) dab_nil))) (db_of de_int) (nomark _)))))))

abbrev s_u_is_work : Stmt := topS 31
theorem sc_u_is_work : FnScope [Str.ofString "work", Str.ofString "outcomes", Str.ofString "effort", Str.ofString "parts"] [Str.ofString "work", Str.ofString "outcomes"] (defScope s_u_is_work) := ⟨rfl, rfl, rfl, by decide +kernel, rfl, by decide +kernel, by decide +kernel⟩

theorem ok_u_is_work (T : Txt K mg) : FnOk P w K mg base CX0 4 T.f_u_is_work T.d_u_is_work [Str.ofString "work", Str.ofString "outcomes"] (spD K 2 F_u_is_work) := by
  unfold F_u_is_work
  refine def_ok' s_u_is_work [Str.ofString "work", Str.ofString "outcomes", Str.ofString "effort", Str.ofString "parts"] [Str.ofString "work", Str.ofString "outcomes"] 3 4 2 g_u_is_work T.fun_u_is_work sc_u_is_work rfl rfl fun cdv A outer s H E hr => ?_
  have hu := hr.units
  have h5 := hr.units5
  exact (dss_cons (ds_if (dt_w (dw_or (dt_not (dt_val (de_isi (by rfl) T.n_isinstance (by decide +kernel) (db_var 0 (pv 0)) (pe_bltn (by rfl) T.n_tuple (by decide +kernel) rfl)))) (dw_or1 (dt_cmp (od_neA h5) (db_of (de_callB cd_lenA (by rfl) T.n_len (by decide +kernel) (dab_cons (db_var 0 (pv 0)) dab_nil))) (db_of de_int) (nomark _))))) (dss_one (ds_ret de_bl)) dss_nil)
      (dss_cons (ds_asg (de_var 0 (pv 0)) (dg_tup 2 rfl (dgs_cons (dg_name 2 sc_u_is_work.nd) (dgs_cons (dg_name 3 sc_u_is_work.nd) dgs_nil)) (bCons_len (bCons_len bNil_len))))
      (dss_one (ds_ret (de_and (de_call (ok_is_integer_within T) (hr.mono (by decide)) (by rfl) T.m_is_integer_within T.fun_is_integer_within.kp T.b_is_integer_within (da_cons (de_var 2 (pv 2)) (da_cons de_int (da_cons (de_glob (pe_glob (v := L2.V.int 9) rfl T.m_MOST_EFFORT ⟨_, rfl⟩) (fun _ => .int _)) da_nil)))) (de_and1 (de_call (ok_u_are_parts T) (hr.mono (by decide)) (by rfl) T.m_u_are_parts T.fun_u_are_parts.kp T.b_u_are_parts (da_cons (de_var 3 (pv 3)) (da_cons (de_var 1 (pv 1)) da_nil)))))))))

abbrev s_u_are_works : Stmt := topS 30
theorem sc_u_are_works : FnScope [Str.ofString "works", Str.ofString "outcomes", Str.ofString "work"] [Str.ofString "works", Str.ofString "outcomes"] (defScope s_u_are_works) := ⟨rfl, rfl, rfl, by decide +kernel, rfl, by decide +kernel, by decide +kernel⟩

theorem ok_u_are_works (T : Txt K mg) : FnOk P w K mg base CX0 5 T.f_u_are_works T.d_u_are_works [Str.ofString "works", Str.ofString "outcomes"] (spD K 2 F_u_are_works) := by
  unfold F_u_are_works
  refine def_ok' s_u_are_works [Str.ofString "works", Str.ofString "outcomes", Str.ofString "work"] [Str.ofString "works", Str.ofString "outcomes"] 4 3 2 g_u_are_works T.fun_u_are_works sc_u_are_works rfl rfl fun cdv A outer s H E hr => ?_
  have hu := hr.units
  have h5 := hr.units5
  exact (dss_cons (ds_if (dt_w (dw_or (dt_not (dt_val (de_isi (by rfl) T.n_isinstance (by decide +kernel) (db_var 0 (pv 0)) (pe_bltn (by rfl) T.n_tuple (by decide +kernel) rfl)))) (dw_or1 (dt_not (dt_chain od_le od_le (db_of (de_glob (pe_glob (v := L2.V.int 2) rfl T.m_FEWEST ⟨_, rfl⟩) (fun _ => .int _))) (db_of (de_callB cd_lenA (by rfl) T.n_len (by decide +kernel) (dab_cons (db_var 0 (pv 0)) dab_nil))) (db_of (de_glob (pe_glob (v := L2.V.int 4) rfl T.m_MOST ⟨_, rfl⟩) (fun _ => .int _)))))))) (dss_one (ds_ret de_bl)) dss_nil)
      (dss_one (ds_ret (de_callB (cd_all rfl) (by rfl) T.n_all (by decide +kernel) (dab_cons (db_of (de_of (df_lc [(Str.ofString "work", 2)] rfl sc_u_are_works.nd (di_A (de_var 0 (pv 0))) (blkOk_by (by kernel_rfl)) (fun _ _ _ _ _ => (dg_name 2 sc_u_are_works.nd)) (fun _ _ _ _ _ => dts_nil) (fun _ _ _ _ _ => (de_call (ok_u_is_work T) (hr.mono (by decide)) (by rfl) T.m_u_is_work T.fun_u_is_work.kp T.b_u_is_work (da_cons (de_var 2 (pv 2)) (da_cons (de_var 1 (pv 1)) da_nil))))))) dab_nil)))))

abbrev s_u_are_worths : Stmt := topS 29
theorem sc_u_are_worths : FnScope [Str.ofString "worths", Str.ofString "worth"] [Str.ofString "worths"] (defScope s_u_are_worths) := ⟨rfl, rfl, rfl, by decide +kernel, rfl, by decide +kernel, by decide +kernel⟩

theorem ok_u_are_worths (T : Txt K mg) : FnOk P w K mg base CX0 3 T.f_u_are_worths T.d_u_are_worths [Str.ofString "worths"] (spD K 1 F_u_are_worths) := by
  unfold F_u_are_worths
  refine def_ok' s_u_are_worths [Str.ofString "worths", Str.ofString "worth"] [Str.ofString "worths"] 2 2 1 g_u_are_worths T.fun_u_are_worths sc_u_are_worths rfl rfl fun cdv A outer s H E hr => ?_
  have hu := hr.units
  have h5 := hr.units5
  exact (dss_cons (ds_if (dt_w (dw_or (dt_not (dt_val (de_isi (by rfl) T.n_isinstance (by decide +kernel) (db_var 0 (pv 0)) (pe_bltn (by rfl) T.n_tuple (by decide +kernel) rfl)))) (dw_or1 (dt_not (dt_chain od_le od_le (db_of (de_glob (pe_glob (v := L2.V.int 2) rfl T.m_FEWEST ⟨_, rfl⟩) (fun _ => .int _))) (db_of (de_callB cd_lenA (by rfl) T.n_len (by decide +kernel) (dab_cons (db_var 0 (pv 0)) dab_nil))) (db_of (de_glob (pe_glob (v := L2.V.int 4) rfl T.m_MOST ⟨_, rfl⟩) (fun _ => .int _)))))))) (dss_one (ds_ret de_bl)) dss_nil)
      (dss_one (ds_ret (de_callB (cd_all rfl) (by rfl) T.n_all (by decide +kernel) (dab_cons (db_of (de_of (df_lc [(Str.ofString "worth", 1)] rfl sc_u_are_worths.nd (di_A (de_var 0 (pv 0))) (blkOk_by (by kernel_rfl)) (fun _ _ _ _ _ => (dg_name 1 sc_u_are_worths.nd)) (fun _ _ _ _ _ => dts_nil) (fun _ _ _ _ _ => (de_call (ok_is_integer_within T) (hr.mono (by decide)) (by rfl) T.m_is_integer_within T.fun_is_integer_within.kp T.b_is_integer_within (da_cons (de_var 1 (pv 1)) (da_cons de_int (da_cons (de_glob (pe_glob (v := L2.V.int 20) rfl T.m_MOST_WORTH ⟨_, rfl⟩) (fun _ => .int _)) da_nil)))))))) dab_nil)))))

abbrev s_JobD_initD : Stmt := inClass (topS 28) 0
theorem sc_JobD_initD : FnScope [Str.ofString "self", Str.ofString "worths", Str.ofString "works", Str.ofString "effort", Str.ofString "parts"] [Str.ofString "self", Str.ofString "worths", Str.ofString "works"] (defScope s_JobD_initD) := ⟨rfl, rfl, rfl, by decide +kernel, rfl, by decide +kernel, by decide +kernel⟩

theorem ok_JobD_initD (T : Txt K mg) : FnOk P w K mg base CX0 6 T.f_JobD_initD T.d_JobD_initD [Str.ofString "self", Str.ofString "worths", Str.ofString "works"] (spI K 0 2 F_JobD_initD) := by
  unfold F_JobD_initD
  refine init_ok s_JobD_initD [Str.ofString "self", Str.ofString "worths", Str.ofString "works", Str.ofString "effort", Str.ofString "parts"] [Str.ofString "self", Str.ofString "worths", Str.ofString "works"] 5 4 2 g_JobD_initD T.fun_JobD_initD sc_JobD_initD rfl rfl fun cdv A outer s H E hr => ?_
  have hu := hr.units
  have h5 := hr.units5
  exact (din_if (dt_not (dt_val (de_call (ok_u_are_worths T) (hr.mono (by decide)) (by rfl) T.m_u_are_worths T.fun_u_are_worths.kp T.b_u_are_worths (da_cons (de_var 1 (pv 1)) da_nil))))
      (din_if (dt_not (dt_val (de_call (ok_u_are_works T) (hr.mono (by decide)) (by rfl) T.m_u_are_works T.fun_u_are_works.kp T.b_u_are_works (da_cons (de_var 2 (pv 2)) (da_cons (de_callB cd_lenA (by rfl) T.n_len (by decide +kernel) (dab_cons (db_var 1 (pv 1)) dab_nil)) da_nil)))))
      (din_fld T.cl_Job T.na_Job_worths (pv 0) (de_callTy cd_tuple (by rfl) T.n_tuple (by decide +kernel) (dab_cons (db_var 1 (pv 1)) dab_nil))
      (din_fld T.cl_Job T.na_Job_works (pv 0) (de_callTy cd_tuple (by rfl) T.n_tuple (by decide +kernel) (dab_cons (db_of (de_of (df_lc [(Str.ofString "effort", 3), (Str.ofString "parts", 4)] rfl sc_JobD_initD.nd (di_A (de_var 2 (pv 2))) (blkOk_by (by kernel_rfl)) (fun _ _ _ _ _ => (dg_tup 2 rfl (dgs_cons (dg_name 3 sc_JobD_initD.nd) (dgs_cons (dg_name 4 sc_JobD_initD.nd) dgs_nil)) (bCons_len (bCons_len bNil_len)))) (fun _ _ _ _ _ => dts_nil) (fun _ _ _ _ _ => (de_tup (da_cons (de_var 3 (pv 3)) (da_cons (de_callTy cd_tuple (by rfl) T.n_tuple (by decide +kernel) (dab_cons (db_var 4 (pv 4)) dab_nil)) da_nil))))))) dab_nil))
      din_nil))))

abbrev s_JobD_lenD : Stmt := inClass (topS 28) 3
theorem sc_JobD_lenD : FnScope [Str.ofString "self"] [Str.ofString "self"] (defScope s_JobD_lenD) := ⟨rfl, rfl, rfl, by decide +kernel, rfl, by decide +kernel, by decide +kernel⟩

theorem ok_JobD_lenD (T : Txt K mg) : FnOk P w K mg base CX0 1 T.f_JobD_lenD T.d_JobD_lenD [Str.ofString "self"] (spD K 1 F_JobD_lenD) := by
  unfold F_JobD_lenD
  refine def_ok' s_JobD_lenD [Str.ofString "self"] [Str.ofString "self"] 0 1 1 g_JobD_lenD T.fun_JobD_lenD sc_JobD_lenD rfl rfl fun cdv A outer s H E hr => ?_
  have hu := hr.units
  have h5 := hr.units5
  exact (dss_one (ds_ret (de_callB cd_lenA (by rfl) T.n_len (by decide +kernel) (dab_cons (db_of (de_fld T.at_works (de_var 0 (pv 0)))) dab_nil))))

abbrev s_is_fraction : Stmt := topS 10
theorem sc_is_fraction : FnScope [Str.ofString "thing", Str.ofString "top", Str.ofString "bottom"] [Str.ofString "thing"] (defScope s_is_fraction) := ⟨rfl, rfl, rfl, by decide +kernel, rfl, by decide +kernel, by decide +kernel⟩

theorem ok_is_fraction (T : Txt K mg) : FnOk P w K mg base CX0 2 T.f_is_fraction T.d_is_fraction [Str.ofString "thing"] (spD K 1 F_is_fraction) := by
  unfold F_is_fraction
  refine def_ok' s_is_fraction [Str.ofString "thing", Str.ofString "top", Str.ofString "bottom"] [Str.ofString "thing"] 1 3 1 g_is_fraction T.fun_is_fraction sc_is_fraction rfl rfl fun cdv A outer s H E hr => ?_
  have hu := hr.units
  have h5 := hr.units5
  exact (dss_cons (ds_if (dt_w (dw_or (dt_not (dt_val (de_isi (by rfl) T.n_isinstance (by decide +kernel) (db_var 0 (pv 0)) (pe_bltn (by rfl) T.n_tuple (by decide +kernel) rfl)))) (dw_or1 (dt_cmp (od_neA h5) (db_of (de_callB cd_lenA (by rfl) T.n_len (by decide +kernel) (dab_cons (db_var 0 (pv 0)) dab_nil))) (db_of de_int) (nomark _))))) (dss_one (ds_ret de_bl)) dss_nil)
      (dss_cons (ds_asg (de_var 0 (pv 0)) (dg_tup 2 rfl (dgs_cons (dg_name 1 sc_is_fraction.nd) (dgs_cons (dg_name 2 sc_is_fraction.nd) dgs_nil)) (bCons_len (bCons_len bNil_len))))
      (dss_cons (ds_if (dt_w (dw_or (dt_not (dt_val (de_call (ok_is_integer T) (hr.mono (by decide)) (by rfl) T.m_is_integer T.fun_is_integer.kp T.b_is_integer (da_cons (de_var 1 (pv 1)) da_nil)))) (dw_or1 (dt_not (dt_val (de_call (ok_is_integer T) (hr.mono (by decide)) (by rfl) T.m_is_integer T.fun_is_integer.kp T.b_is_integer (da_cons (de_var 2 (pv 2)) da_nil))))))) (dss_one (ds_ret de_bl)) dss_nil)
      (dss_one (ds_ret (de_and (de_cmp od_ge (db_var 2 (pv 2)) (db_of de_int) (nomark _)) (de_and1 (de_cmp (od_eqA h5) (db_of (de_callFun cd_gcd (by rfl) T.m_gcd (dab_cons (db_var 1 (pv 1)) (dab_cons (db_var 2 (pv 2)) dab_nil)) fun c h => pe_callBfun c (by rfl) T.m_gcd h)) (db_of de_int) (nomark _)))))))))

abbrev s_is_amount : Stmt := topS 11
theorem sc_is_amount : FnScope [Str.ofString "thing"] [Str.ofString "thing"] (defScope s_is_amount) := ⟨rfl, rfl, rfl, by decide +kernel, rfl, by decide +kernel, by decide +kernel⟩

theorem ok_is_amount (T : Txt K mg) : FnOk P w K mg base CX0 3 T.f_is_amount T.d_is_amount [Str.ofString "thing"] (spD K 1 F_is_amount) := by
  unfold F_is_amount
  refine def_ok' s_is_amount [Str.ofString "thing"] [Str.ofString "thing"] 2 1 1 g_is_amount T.fun_is_amount sc_is_amount rfl rfl fun cdv A outer s H E hr => ?_
  have hu := hr.units
  have h5 := hr.units5
  exact (dss_one (ds_ret (de_and (de_call (ok_is_fraction T) (hr.mono (by decide)) (by rfl) T.m_is_fraction T.fun_is_fraction.kp T.b_is_fraction (da_cons (de_var 0 (pv 0)) da_nil)) (de_and1 (de_cmp od_ge (db_of (de_ixA hu (db_var 0 (pv 0)) (db_of de_int))) (db_of de_int) (nomark _))))))

abbrev s_is_less : Stmt := topS 19
theorem sc_is_less : FnScope [Str.ofString "one", Str.ofString "other"] [Str.ofString "one", Str.ofString "other"] (defScope s_is_less) := ⟨rfl, rfl, rfl, by decide +kernel, rfl, by decide +kernel, by decide +kernel⟩

theorem ok_is_less (T : Txt K mg) : FnOk P w K mg base CX0 1 T.f_is_less T.d_is_less [Str.ofString "one", Str.ofString "other"] (spD K 2 F_is_less) := by
  unfold F_is_less
  refine def_ok' s_is_less [Str.ofString "one", Str.ofString "other"] [Str.ofString "one", Str.ofString "other"] 0 2 2 g_is_less T.fun_is_less sc_is_less rfl rfl fun cdv A outer s H E hr => ?_
  have hu := hr.units
  have h5 := hr.units5
  exact (dss_one (ds_ret (de_cmp od_lt (db_of (de_op od_mulA (db_of (de_ixA hu (db_var 0 (pv 0)) (db_of de_int))) (db_of (de_ixA hu (db_var 1 (pv 1)) (db_of de_int))))) (db_of (de_op od_mulA (db_of (de_ixA hu (db_var 1 (pv 1)) (db_of de_int))) (db_of (de_ixA hu (db_var 0 (pv 0)) (db_of de_int))))) (nomark _))))

abbrev s_u_check_share : Stmt := topS 41
theorem sc_u_check_share : FnScope [Str.ofString "share"] [Str.ofString "share"] (defScope s_u_check_share) := ⟨rfl, rfl, rfl, by decide +kernel, rfl, by decide +kernel, by decide +kernel⟩

theorem ok_u_check_share (T : Txt K mg) : FnOk P w K mg base (L2.CX P w) 4 T.f_u_check_share T.d_u_check_share [Str.ofString "share"] (spX K 1 F_u_check_share) := by
  unfold F_u_check_share
  refine defX_ok s_u_check_share [Str.ofString "share"] [Str.ofString "share"] 3 1 1 g_u_check_share T.fun_u_check_share sc_u_check_share rfl rfl fun cdv A outer s H E hr => ?_
  have hu := hr.units
  have h5 := hr.units5
  exact (dssx_one (dsx_if (dt_w (dw_or (dt_not (dt_val (de_call (ok_is_amount T) (hr.mono (by decide)) (by rfl) T.m_is_amount T.fun_is_amount.kp T.b_is_amount (da_cons (de_var 0 (pv 0)) da_nil)))) (dw_or1 (dt_val (de_call (ok_is_less T) (hr.mono (by decide)) (by rfl) T.m_is_less T.fun_is_less.kp T.b_is_less (da_cons (de_glob (pe_glob (v := L2.V.ref T.a_ONE) rfl T.m_ONE rfl) (fun _ => T.r_ONE _)) (da_cons (de_var 0 (pv 0)) da_nil))))))) (dssx_one (dsx_raise rfl (takes_of rfl rfl rfl rfl) (pmk_own PySem.F.excBase_ValueError T.xe_BadShare T.ge_BadShare T.ke_BadShare (raises_own T.be_BadShare T.te_BadShare) (by rfl)))) (dssx_of dss_nil)))

abbrev s_Job_works : Stmt := inClass (topS 28) 2
theorem sc_Job_works : FnScope [Str.ofString "self"] [Str.ofString "self"] (defScope s_Job_works) := ⟨rfl, rfl, rfl, by decide +kernel, rfl, by decide +kernel, by decide +kernel⟩

theorem ok_Job_works (T : Txt K mg) : FnOk P w K mg base CX0 1 T.f_Job_works T.d_Job_works [Str.ofString "self"] (spD K 1 F_Job_works) := by
  unfold F_Job_works
  refine def_ok' s_Job_works [Str.ofString "self"] [Str.ofString "self"] 0 1 1 g_Job_works T.fun_Job_works sc_Job_works rfl rfl fun cdv A outer s H E hr => ?_
  have hu := hr.units
  have h5 := hr.units5
  exact (dss_one (ds_ret (de_fld T.at_works (de_var 0 (pv 0)))))

abbrev s_work_efforts : Stmt := topS 34
theorem sc_work_efforts : FnScope [Str.ofString "job", Str.ofString "effort", Str.ofString "parts"] [Str.ofString "job"] (defScope s_work_efforts) := ⟨rfl, rfl, rfl, by decide +kernel, rfl, by decide +kernel, by decide +kernel⟩

theorem ok_work_efforts (T : Txt K mg) : FnOk P w K mg base CX0 3 T.f_work_efforts T.d_work_efforts [Str.ofString "job"] (spD K 1 F_work_efforts) := by
  unfold F_work_efforts
  refine def_ok' s_work_efforts [Str.ofString "job", Str.ofString "effort", Str.ofString "parts"] [Str.ofString "job"] 2 3 1 g_work_efforts T.fun_work_efforts sc_work_efforts rfl rfl fun cdv A outer s H E hr => ?_
  have hu := hr.units
  have h5 := hr.units5
  exact (dss_one (ds_ret (de_of (df_lc [(Str.ofString "effort", 1), (Str.ofString "parts", 2)] rfl sc_work_efforts.nd (di_A (de_prop T.cl_Job T.pr_Job_works (ok_Job_works T) (hr.mono (by decide)) T.b_Job_works (de_var 0 (pv 0)))) (blkOk_by (by kernel_rfl)) (fun _ _ _ _ _ => (dg_tup 2 rfl (dgs_cons (dg_name 1 sc_work_efforts.nd) (dgs_cons (dg_name 2 sc_work_efforts.nd) dgs_nil)) (bCons_len (bCons_len bNil_len)))) (fun _ _ _ _ _ => dts_nil) (fun _ _ _ _ _ => (de_tup (da_cons (de_var 1 (pv 1)) (da_cons de_int da_nil))))))))

abbrev s_u_effort : Stmt := topS 46
theorem sc_u_effort : FnScope [Str.ofString "job", Str.ofString "work"] [Str.ofString "job", Str.ofString "work"] (defScope s_u_effort) := ⟨rfl, rfl, rfl, by decide +kernel, rfl, by decide +kernel, by decide +kernel⟩

theorem ok_u_effort (T : Txt K mg) : FnOk P w K mg base CX0 4 T.f_u_effort T.d_u_effort [Str.ofString "job", Str.ofString "work"] (spD K 2 F_u_effort) := by
  unfold F_u_effort
  refine def_ok' s_u_effort [Str.ofString "job", Str.ofString "work"] [Str.ofString "job", Str.ofString "work"] 3 2 2 g_u_effort T.fun_u_effort sc_u_effort rfl rfl fun cdv A outer s H E hr => ?_
  have hu := hr.units
  have h5 := hr.units5
  exact (dss_one (ds_ret (de_if (dt_cmp od_isN (db_var 1 (pv 1)) (db_of de_non) (nomark _)) (de_glob (pe_glob (v := L2.V.ref T.a_ZERO) rfl T.m_ZERO rfl) (fun _ => T.r_ZERO _)) (de_ixA hu (db_of (de_call (ok_work_efforts T) (hr.mono (by decide)) (by rfl) T.m_work_efforts T.fun_work_efforts.kp T.b_work_efforts (da_cons (de_var 0 (pv 0)) da_nil))) (db_var 1 (pv 1))))))

abbrev s_Job_worths : Stmt := inClass (topS 28) 1
theorem sc_Job_worths : FnScope [Str.ofString "self"] [Str.ofString "self"] (defScope s_Job_worths) := ⟨rfl, rfl, rfl, by decide +kernel, rfl, by decide +kernel, by decide +kernel⟩

theorem ok_Job_worths (T : Txt K mg) : FnOk P w K mg base CX0 1 T.f_Job_worths T.d_Job_worths [Str.ofString "self"] (spD K 1 F_Job_worths) := by
  unfold F_Job_worths
  refine def_ok' s_Job_worths [Str.ofString "self"] [Str.ofString "self"] 0 1 1 g_Job_worths T.fun_Job_worths sc_Job_worths rfl rfl fun cdv A outer s H E hr => ?_
  have hu := hr.units
  have h5 := hr.units5
  exact (dss_one (ds_ret (de_fld T.at_worths (de_var 0 (pv 0)))))

abbrev s_ratio : Stmt := topS 12
theorem sc_ratio : FnScope [Str.ofString "top", Str.ofString "bottom", Str.ofString "shared"] [Str.ofString "top", Str.ofString "bottom"] (defScope s_ratio) := ⟨rfl, rfl, rfl, by decide +kernel, rfl, by decide +kernel, by decide +kernel⟩

theorem ok_ratio (T : Txt K mg) : FnOk P w K mg base CX0 1 T.f_ratio T.d_ratio [Str.ofString "top", Str.ofString "bottom"] (spD K 2 F_ratio) := by
  unfold F_ratio
  refine def_ok' s_ratio [Str.ofString "top", Str.ofString "bottom", Str.ofString "shared"] [Str.ofString "top", Str.ofString "bottom"] 0 3 2 g_ratio T.fun_ratio sc_ratio rfl rfl fun cdv A outer s H E hr => ?_
  have hu := hr.units
  have h5 := hr.units5
  exact (dss_cons (ds_set 2 sc_ratio.nd (de_callFun cd_gcd (by rfl) T.m_gcd (dab_cons (db_var 0 (pv 0)) (dab_cons (db_var 1 (pv 1)) dab_nil)) fun c h => pe_callBfun c (by rfl) T.m_gcd h))
      (dss_one (ds_ret (de_tup (da_cons (de_op od_div (db_var 0 (pv 0)) (db_var 2 (pv 2))) (da_cons (de_op od_div (db_var 1 (pv 1)) (db_var 2 (pv 2))) da_nil))))))

abbrev s_times : Stmt := topS 16
theorem sc_times : FnScope [Str.ofString "one", Str.ofString "other"] [Str.ofString "one", Str.ofString "other"] (defScope s_times) := ⟨rfl, rfl, rfl, by decide +kernel, rfl, by decide +kernel, by decide +kernel⟩

theorem ok_times (T : Txt K mg) : FnOk P w K mg base CX0 2 T.f_times T.d_times [Str.ofString "one", Str.ofString "other"] (spD K 2 F_times) := by
  unfold F_times
  refine def_ok' s_times [Str.ofString "one", Str.ofString "other"] [Str.ofString "one", Str.ofString "other"] 1 2 2 g_times T.fun_times sc_times rfl rfl fun cdv A outer s H E hr => ?_
  have hu := hr.units
  have h5 := hr.units5
  exact (dss_one (ds_ret (de_call (ok_ratio T) (hr.mono (by decide)) (by rfl) T.m_ratio T.fun_ratio.kp T.b_ratio (da_cons (de_op od_mulA (db_of (de_ixA hu (db_var 0 (pv 0)) (db_of de_int))) (db_of (de_ixA hu (db_var 1 (pv 1)) (db_of de_int)))) (da_cons (de_op od_mulA (db_of (de_ixA hu (db_var 0 (pv 0)) (db_of de_int))) (db_of (de_ixA hu (db_var 1 (pv 1)) (db_of de_int)))) da_nil)))))

abbrev s_plus : Stmt := topS 13
theorem sc_plus : FnScope [Str.ofString "one", Str.ofString "other"] [Str.ofString "one", Str.ofString "other"] (defScope s_plus) := ⟨rfl, rfl, rfl, by decide +kernel, rfl, by decide +kernel, by decide +kernel⟩

theorem ok_plus (T : Txt K mg) : FnOk P w K mg base CX0 2 T.f_plus T.d_plus [Str.ofString "one", Str.ofString "other"] (spD K 2 F_plus) := by
  unfold F_plus
  refine def_ok' s_plus [Str.ofString "one", Str.ofString "other"] [Str.ofString "one", Str.ofString "other"] 1 2 2 g_plus T.fun_plus sc_plus rfl rfl fun cdv A outer s H E hr => ?_
  have hu := hr.units
  have h5 := hr.units5
  exact (dss_one (ds_ret (de_call (ok_ratio T) (hr.mono (by decide)) (by rfl) T.m_ratio T.fun_ratio.kp T.b_ratio (da_cons (de_op od_addA (db_of (de_op od_mulA (db_of (de_ixA hu (db_var 0 (pv 0)) (db_of de_int))) (db_of (de_ixA hu (db_var 1 (pv 1)) (db_of de_int))))) (db_of (de_op od_mulA (db_of (de_ixA hu (db_var 1 (pv 1)) (db_of de_int))) (db_of (de_ixA hu (db_var 0 (pv 0)) (db_of de_int)))))) (da_cons (de_op od_mulA (db_of (de_ixA hu (db_var 0 (pv 0)) (db_of de_int))) (db_of (de_ixA hu (db_var 1 (pv 1)) (db_of de_int)))) da_nil)))))

abbrev s_total : Stmt := topS 20
theorem sc_total : FnScope [Str.ofString "amounts", Str.ofString "found", Str.ofString "amount"] [Str.ofString "amounts"] (defScope s_total) := ⟨rfl, rfl, rfl, by decide +kernel, rfl, by decide +kernel, by decide +kernel⟩

theorem ok_total (T : Txt K mg) : FnOk P w K mg base CX0 3 T.f_total T.d_total [Str.ofString "amounts"] (spD K 1 F_total) := by
  unfold F_total
  refine def_ok' s_total [Str.ofString "amounts", Str.ofString "found", Str.ofString "amount"] [Str.ofString "amounts"] 2 3 1 g_total T.fun_total sc_total rfl rfl fun cdv A outer s H E hr => ?_
  have hu := hr.units
  have h5 := hr.units5
  exact (dss_cons (ds_set 1 sc_total.nd (de_glob (pe_glob (v := L2.V.ref T.a_ZERO) rfl T.m_ZERO rfl) (fun _ => T.r_ZERO _)))
      (dss_cons (ds_for PassesOwn.never rfl (di_A (de_var 0 (pv 0))) (dg_name 2 sc_total.nd)
      (dss_one (ds_set 1 sc_total.nd (de_call (ok_plus T) (hr.mono (by decide)) (by rfl) T.m_plus T.fun_plus.kp T.b_plus (da_cons (de_var 1 (pv 1)) (da_cons (de_var 2 (pv 2)) da_nil))))))
      (dss_one (ds_ret (de_var 1 (pv 1))))))

abbrev s_weighted : Stmt := topS 21
theorem sc_weighted : FnScope [Str.ofString "weights", Str.ofString "amounts", Str.ofString "weight", Str.ofString "amount"] [Str.ofString "weights", Str.ofString "amounts"] (defScope s_weighted) := ⟨rfl, rfl, rfl, by decide +kernel, rfl, by decide +kernel, by decide +kernel⟩

theorem ok_weighted (T : Txt K mg) : FnOk P w K mg base CX0 4 T.f_weighted T.d_weighted [Str.ofString "weights", Str.ofString "amounts"] (spD K 2 F_weighted) := by
  unfold F_weighted
  refine def_ok' s_weighted [Str.ofString "weights", Str.ofString "amounts", Str.ofString "weight", Str.ofString "amount"] [Str.ofString "weights", Str.ofString "amounts"] 3 4 2 g_weighted T.fun_weighted sc_weighted rfl rfl fun cdv A outer s H E hr => ?_
  have hu := hr.units
  have h5 := hr.units5
  exact (dss_one (ds_ret (de_call (ok_total T) (hr.mono (by decide)) (by rfl) T.m_total T.fun_total.kp T.b_total (da_cons (de_of (df_lc [(Str.ofString "weight", 2), (Str.ofString "amount", 3)] rfl sc_weighted.nd (di_zipX (by rfl) T.n_zip (de_var 0 (pv 0)) (de_var 1 (pv 1))) (blkOk_by (by kernel_rfl)) (fun _ _ _ _ _ => (dg_tup 2 rfl (dgs_cons (dg_name 2 sc_weighted.nd) (dgs_cons (dg_name 3 sc_weighted.nd) dgs_nil)) (bCons_len (bCons_len bNil_len)))) (fun _ _ _ _ _ => dts_nil) (fun _ _ _ _ _ => (de_call (ok_times T) (hr.mono (by decide)) (by rfl) T.m_times T.fun_times.kp T.b_times (da_cons (de_var 2 (pv 2)) (da_cons (de_var 3 (pv 3)) da_nil)))))) da_nil))))

abbrev s_work_chances : Stmt := topS 35
theorem sc_work_chances : FnScope [Str.ofString "job", Str.ofString "work", Str.ofString "parts", Str.ofString "part"] [Str.ofString "job", Str.ofString "work"] (defScope s_work_chances) := ⟨rfl, rfl, rfl, by decide +kernel, rfl, by decide +kernel, by decide +kernel⟩

theorem ok_work_chances (T : Txt K mg) : FnOk P w K mg base CX0 3 T.f_work_chances T.d_work_chances [Str.ofString "job", Str.ofString "work"] (spD K 2 F_work_chances) := by
  unfold F_work_chances
  refine def_ok' s_work_chances [Str.ofString "job", Str.ofString "work", Str.ofString "parts", Str.ofString "part"] [Str.ofString "job", Str.ofString "work"] 2 4 2 g_work_chances T.fun_work_chances sc_work_chances rfl rfl fun cdv A outer s H E hr => ?_
  have hu := hr.units
  have h5 := hr.units5
  exact (dss_cons (ds_set 2 sc_work_chances.nd (de_ixA hu (db_of (de_ixA hu (db_of (de_prop T.cl_Job T.pr_Job_works (ok_Job_works T) (hr.mono (by decide)) T.b_Job_works (de_var 0 (pv 0)))) (db_var 1 (pv 1)))) (db_of de_int)))
      (dss_one (ds_ret (de_of (df_lc [(Str.ofString "part", 3)] rfl sc_work_chances.nd (di_A (de_var 2 (pv 2))) (blkOk_by (by kernel_rfl)) (fun _ _ _ _ _ => (dg_name 3 sc_work_chances.nd)) (fun _ _ _ _ _ => dts_nil) (fun _ _ _ _ _ => (de_call (ok_ratio T) (hr.mono (by decide)) (by rfl) T.m_ratio T.fun_ratio.kp T.b_ratio (da_cons (de_var 3 (pv 3)) (da_cons (de_callB (cd_sum rfl) (by rfl) T.n_sum (by decide +kernel) (dab_cons (db_var 2 (pv 2)) dab_nil)) da_nil)))))))))

abbrev s_average_worth : Stmt := topS 36
theorem sc_average_worth : FnScope [Str.ofString "job", Str.ofString "work", Str.ofString "worth"] [Str.ofString "job", Str.ofString "work"] (defScope s_average_worth) := ⟨rfl, rfl, rfl, by decide +kernel, rfl, by decide +kernel, by decide +kernel⟩

theorem ok_average_worth (T : Txt K mg) : FnOk P w K mg base CX0 5 T.f_average_worth T.d_average_worth [Str.ofString "job", Str.ofString "work"] (spD K 2 F_average_worth) := by
  unfold F_average_worth
  refine def_ok' s_average_worth [Str.ofString "job", Str.ofString "work", Str.ofString "worth"] [Str.ofString "job", Str.ofString "work"] 4 3 2 g_average_worth T.fun_average_worth sc_average_worth rfl rfl fun cdv A outer s H E hr => ?_
  have hu := hr.units
  have h5 := hr.units5
  exact (dss_one (ds_ret (de_call (ok_weighted T) (hr.mono (by decide)) (by rfl) T.m_weighted T.fun_weighted.kp T.b_weighted (da_cons (de_call (ok_work_chances T) (hr.mono (by decide)) (by rfl) T.m_work_chances T.fun_work_chances.kp T.b_work_chances (da_cons (de_var 0 (pv 0)) (da_cons (de_var 1 (pv 1)) da_nil))) (da_cons (de_of (df_lc [(Str.ofString "worth", 2)] rfl sc_average_worth.nd (di_A (de_prop T.cl_Job T.pr_Job_worths (ok_Job_worths T) (hr.mono (by decide)) T.b_Job_worths (de_var 0 (pv 0)))) (blkOk_by (by kernel_rfl)) (fun _ _ _ _ _ => (dg_name 2 sc_average_worth.nd)) (fun _ _ _ _ _ => dts_nil) (fun _ _ _ _ _ => (de_tup (da_cons (de_var 2 (pv 2)) (da_cons de_int da_nil)))))) da_nil)))))

abbrev s_u_worth : Stmt := topS 45
theorem sc_u_worth : FnScope [Str.ofString "job", Str.ofString "work"] [Str.ofString "job", Str.ofString "work"] (defScope s_u_worth) := ⟨rfl, rfl, rfl, by decide +kernel, rfl, by decide +kernel, by decide +kernel⟩

theorem ok_u_worth (T : Txt K mg) : FnOk P w K mg base CX0 6 T.f_u_worth T.d_u_worth [Str.ofString "job", Str.ofString "work"] (spD K 2 F_u_worth) := by
  unfold F_u_worth
  refine def_ok' s_u_worth [Str.ofString "job", Str.ofString "work"] [Str.ofString "job", Str.ofString "work"] 5 2 2 g_u_worth T.fun_u_worth sc_u_worth rfl rfl fun cdv A outer s H E hr => ?_
  have hu := hr.units
  have h5 := hr.units5
  exact (dss_one (ds_ret (de_if (dt_cmp od_isN (db_var 1 (pv 1)) (db_of de_non) (nomark _)) (de_glob (pe_glob (v := L2.V.ref T.a_ZERO) rfl T.m_ZERO rfl) (fun _ => T.r_ZERO _)) (de_call (ok_average_worth T) (hr.mono (by decide)) (by rfl) T.m_average_worth T.fun_average_worth.kp T.b_average_worth (da_cons (de_var 0 (pv 0)) (da_cons (de_var 1 (pv 1)) da_nil))))))

abbrev s_negative : Stmt := topS 14
theorem sc_negative : FnScope [Str.ofString "one"] [Str.ofString "one"] (defScope s_negative) := ⟨rfl, rfl, rfl, by decide +kernel, rfl, by decide +kernel, by decide +kernel⟩

theorem ok_negative (T : Txt K mg) : FnOk P w K mg base CX0 1 T.f_negative T.d_negative [Str.ofString "one"] (spD K 1 F_negative) := by
  unfold F_negative
  refine def_ok' s_negative [Str.ofString "one"] [Str.ofString "one"] 0 1 1 g_negative T.fun_negative sc_negative rfl rfl fun cdv A outer s H E hr => ?_
  have hu := hr.units
  have h5 := hr.units5
  exact (dss_one (ds_ret (de_tup (da_cons (de_neg (db_of (de_ixA hu (db_var 0 (pv 0)) (db_of de_int)))) (da_cons (de_ixA hu (db_var 0 (pv 0)) (db_of de_int)) da_nil)))))

abbrev s_minus : Stmt := topS 15
theorem sc_minus : FnScope [Str.ofString "one", Str.ofString "other"] [Str.ofString "one", Str.ofString "other"] (defScope s_minus) := ⟨rfl, rfl, rfl, by decide +kernel, rfl, by decide +kernel, by decide +kernel⟩

theorem ok_minus (T : Txt K mg) : FnOk P w K mg base CX0 3 T.f_minus T.d_minus [Str.ofString "one", Str.ofString "other"] (spD K 2 F_minus) := by
  unfold F_minus
  refine def_ok' s_minus [Str.ofString "one", Str.ofString "other"] [Str.ofString "one", Str.ofString "other"] 2 2 2 g_minus T.fun_minus sc_minus rfl rfl fun cdv A outer s H E hr => ?_
  have hu := hr.units
  have h5 := hr.units5
  exact (dss_one (ds_ret (de_call (ok_plus T) (hr.mono (by decide)) (by rfl) T.m_plus T.fun_plus.kp T.b_plus (da_cons (de_var 0 (pv 0)) (da_cons (de_call (ok_negative T) (hr.mono (by decide)) (by rfl) T.m_negative T.fun_negative.kp T.b_negative (da_cons (de_var 1 (pv 1)) da_nil)) da_nil)))))

abbrev s_u_gain : Stmt := topS 44
theorem sc_u_gain : FnScope [Str.ofString "job", Str.ofString "share", Str.ofString "work"] [Str.ofString "job", Str.ofString "share", Str.ofString "work"] (defScope s_u_gain) := ⟨rfl, rfl, rfl, by decide +kernel, rfl, by decide +kernel, by decide +kernel⟩

theorem ok_u_gain (T : Txt K mg) : FnOk P w K mg base CX0 7 T.f_u_gain T.d_u_gain [Str.ofString "job", Str.ofString "share", Str.ofString "work"] (spD K 3 F_u_gain) := by
  unfold F_u_gain
  refine def_ok' s_u_gain [Str.ofString "job", Str.ofString "share", Str.ofString "work"] [Str.ofString "job", Str.ofString "share", Str.ofString "work"] 6 3 3 g_u_gain T.fun_u_gain sc_u_gain rfl rfl fun cdv A outer s H E hr => ?_
  have hu := hr.units
  have h5 := hr.units5
  exact (dss_one (ds_ret (de_call (ok_minus T) (hr.mono (by decide)) (by rfl) T.m_minus T.fun_minus.kp T.b_minus (da_cons (de_call (ok_times T) (hr.mono (by decide)) (by rfl) T.m_times T.fun_times.kp T.b_times (da_cons (de_var 1 (pv 1)) (da_cons (de_call (ok_u_worth T) (hr.mono (by decide)) (by rfl) T.m_u_worth T.fun_u_worth.kp T.b_u_worth (da_cons (de_var 0 (pv 0)) (da_cons (de_var 2 (pv 2)) da_nil))) da_nil))) (da_cons (de_call (ok_u_effort T) (hr.mono (by decide)) (by rfl) T.m_u_effort T.fun_u_effort.kp T.b_u_effort (da_cons (de_var 0 (pv 0)) (da_cons (de_var 2 (pv 2)) da_nil))) da_nil)))))

abbrev s_u_is_preferred : Stmt := topS 42
theorem sc_u_is_preferred : FnScope [Str.ofString "job", Str.ofString "share", Str.ofString "work", Str.ofString "other", Str.ofString "mine", Str.ofString "its"] [Str.ofString "job", Str.ofString "share", Str.ofString "work", Str.ofString "other"] (defScope s_u_is_preferred) := ⟨rfl, rfl, rfl, by decide +kernel, rfl, by decide +kernel, by decide +kernel⟩

theorem ok_u_is_preferred (T : Txt K mg) : FnOk P w K mg base CX0 8 T.f_u_is_preferred T.d_u_is_preferred [Str.ofString "job", Str.ofString "share", Str.ofString "work", Str.ofString "other"] (spD K 4 F_u_is_preferred) := by
  unfold F_u_is_preferred
  refine def_ok' s_u_is_preferred [Str.ofString "job", Str.ofString "share", Str.ofString "work", Str.ofString "other", Str.ofString "mine", Str.ofString "its"] [Str.ofString "job", Str.ofString "share", Str.ofString "work", Str.ofString "other"] 7 6 4 g_u_is_preferred T.fun_u_is_preferred sc_u_is_preferred rfl rfl fun cdv A outer s H E hr => ?_
  have hu := hr.units
  have h5 := hr.units5
  exact (dss_cons (ds_set 4 sc_u_is_preferred.nd (de_call (ok_u_gain T) (hr.mono (by decide)) (by rfl) T.m_u_gain T.fun_u_gain.kp T.b_u_gain (da_cons (de_var 0 (pv 0)) (da_cons (de_var 1 (pv 1)) (da_cons (de_var 2 (pv 2)) da_nil)))))
      (dss_cons (ds_set 5 sc_u_is_preferred.nd (de_call (ok_u_gain T) (hr.mono (by decide)) (by rfl) T.m_u_gain T.fun_u_gain.kp T.b_u_gain (da_cons (de_var 0 (pv 0)) (da_cons (de_var 1 (pv 1)) (da_cons (de_var 3 (pv 3)) da_nil)))))
      (dss_cons (ds_if (dt_cmp (od_eqA h5) (db_var 4 (pv 4)) (db_var 5 (pv 5)) (nomark _)) (dss_one (ds_ret (de_call (ok_is_less T) (hr.mono (by decide)) (by rfl) T.m_is_less T.fun_is_less.kp T.b_is_less (da_cons (de_call (ok_u_worth T) (hr.mono (by decide)) (by rfl) T.m_u_worth T.fun_u_worth.kp T.b_u_worth (da_cons (de_var 0 (pv 0)) (da_cons (de_var 3 (pv 3)) da_nil))) (da_cons (de_call (ok_u_worth T) (hr.mono (by decide)) (by rfl) T.m_u_worth T.fun_u_worth.kp T.b_u_worth (da_cons (de_var 0 (pv 0)) (da_cons (de_var 2 (pv 2)) da_nil))) da_nil))))) dss_nil)
      (dss_one (ds_ret (de_call (ok_is_less T) (hr.mono (by decide)) (by rfl) T.m_is_less T.fun_is_less.kp T.b_is_less (da_cons (de_var 5 (pv 5)) (da_cons (de_var 4 (pv 4)) da_nil))))))))

abbrev s_check_job : Stmt := topS 33
theorem sc_check_job : FnScope [Str.ofString "job"] [Str.ofString "job"] (defScope s_check_job) := ⟨rfl, rfl, rfl, by decide +kernel, rfl, by decide +kernel, by decide +kernel⟩

theorem ok_check_job (T : Txt K mg) : FnOk P w K mg base CX0 1 T.f_check_job T.d_check_job [Str.ofString "job"] (spD K 1 F_check_job) := by
  unfold F_check_job
  refine def_ok' s_check_job [Str.ofString "job"] [Str.ofString "job"] 0 1 1 g_check_job T.fun_check_job sc_check_job rfl rfl fun cdv A outer s H E hr => ?_
  have hu := hr.units
  have h5 := hr.units5
  exact (dss_one (ds_if (dt_not (dt_val (de_isC T.isa_Job (by rfl) T.n_isinstance (by decide +kernel) (de_var 0 (pv 0)) (pe_glob (by rfl) T.mc_Job rfl)))) (dss_one ds_stuck) dss_nil))

abbrev s_done : Stmt := topS 39
theorem sc_done : FnScope [Str.ofString "job", Str.ofString "share", Str.ofString "best", Str.ofString "work"] [Str.ofString "job", Str.ofString "share"] (defScope s_done) := ⟨rfl, rfl, rfl, by decide +kernel, rfl, by decide +kernel, by decide +kernel⟩

theorem ok_done (T : Txt K mg) : FnOk P w K mg base (L2.CX P w) 9 T.f_done T.d_done [Str.ofString "job", Str.ofString "share"] (spX K 2 F_done) := by
  unfold F_done
  refine defX_ok s_done [Str.ofString "job", Str.ofString "share", Str.ofString "best", Str.ofString "work"] [Str.ofString "job", Str.ofString "share"] 8 4 2 g_done T.fun_done sc_done rfl rfl fun cdv A outer s H E hr => ?_
  have hu := hr.units
  have h5 := hr.units5
  exact (dssx_cons (dsx_of (ds_expr (de_call (ok_check_job T) (hr.mono (by decide)) (by rfl) T.m_check_job T.fun_check_job.kp T.b_check_job (da_cons (de_var 0 (pv 0)) da_nil))))
      (dssx_cons (dsx_call (takes_of rfl rfl rfl rfl) (ok_u_check_share T) (hr.mono (by decide)) (by rfl) T.m_u_check_share T.fun_u_check_share.kp T.b_u_check_share (da_cons (de_var 1 (pv 1)) da_nil))
      (dssx_cons (dsx_of (ds_set 2 sc_done.nd de_non))
      (dssx_cons (dsx_of (ds_for (passes_of rfl) rfl (di_range1 (by rfl) T.n_range (de_lenO T.cl_Job T.me_JobD_lenD (ok_JobD_lenD T) (hr.mono (by decide)) T.b_JobD_lenD (by rfl) T.n_len PySem.boot_len (dab_cons (db_var 0 (pv 0)) dab_nil))) (dg_name 3 sc_done.nd)
      (dss_one (ds_if (dt_val (de_call (ok_u_is_preferred T) (hr.mono (by decide)) (by rfl) T.m_u_is_preferred T.fun_u_is_preferred.kp T.b_u_is_preferred (da_cons (de_var 0 (pv 0)) (da_cons (de_var 1 (pv 1)) (da_cons (de_var 3 (pv 3)) (da_cons (de_var 2 (pv 2)) da_nil)))))) (dss_one (ds_set 2 sc_done.nd (de_var 3 (pv 3)))) dss_nil))))
      (dssx_one (dsx_of (ds_ret (de_var 2 (pv 2)))))))))

abbrev s_u_law_is_refused : Stmt := topS 61
theorem sc_u_law_is_refused : FnScope [Str.ofString "job", Str.ofString "share"] [Str.ofString "job", Str.ofString "share"] (defScope s_u_law_is_refused) := ⟨rfl, rfl, rfl, by decide +kernel, rfl, by decide +kernel, by decide +kernel⟩

theorem ok_u_law_is_refused (T : Txt K mg) : FnOk P w K mg base CX0 10 T.f_u_law_is_refused T.d_u_law_is_refused [Str.ofString "job", Str.ofString "share"] (spD K 2 F_u_law_is_refused) := by
  unfold F_u_law_is_refused
  refine def_ok' s_u_law_is_refused [Str.ofString "job", Str.ofString "share"] [Str.ofString "job", Str.ofString "share"] 9 2 2 g_u_law_is_refused T.fun_u_law_is_refused sc_u_law_is_refused rfl rfl fun cdv A outer s H E hr => ?_
  have hu := hr.units
  have h5 := hr.units5
  exact (dss_cons (ds_try (C := 1) (cs := [1]) rfl rfl ⟨rfl, by decide, .inl T.ge_BadShare⟩ T.xm_BadShare (fun W pn xe tk _ => (dssx_one (dsx_call tk (ok_done T) (hr.mono (by decide)) (by rfl) T.m_done T.fun_done.kp T.b_done (da_cons (de_var 0 (pv 0)) (da_cons (de_var 1 (pv 1)) da_nil))))) (fun a pn => (dss_one (ds_ret de_bl))))
      (dss_one (ds_ret de_bl)))

abbrev s_u_law_number : Stmt := topS 48
theorem sc_u_law_number : FnScope [Str.ofString "script", Str.ofString "index", Str.ofString "cells", Str.ofString "cell", Str.ofString "low", Str.ofString "high", Str.ofString "mixed"] [Str.ofString "script", Str.ofString "index"] (defScope s_u_law_number) := ⟨rfl, rfl, rfl, by decide +kernel, rfl, by decide +kernel, by decide +kernel⟩

theorem ok_u_law_number (T : Txt K mg) : FnOk P w K mg base CX0 1 T.f_u_law_number T.d_u_law_number [Str.ofString "script", Str.ofString "index"] (spD K 2 F_u_law_number) := by
  unfold F_u_law_number
  refine def_ok' s_u_law_number [Str.ofString "script", Str.ofString "index", Str.ofString "cells", Str.ofString "cell", Str.ofString "low", Str.ofString "high", Str.ofString "mixed"] [Str.ofString "script", Str.ofString "index"] 0 7 2 g_u_law_number T.fun_u_law_number sc_u_law_number rfl rfl fun cdv A outer s H E hr => ?_
  have hu := hr.units
  have h5 := hr.units5
  exact (dss_cons (ds_set 2 sc_u_law_number.nd (de_if (dt_cmp (od_neA h5) (db_var 0 (pv 0)) (db_of (de_of (df_lst da_nil))) (nomark _)) (de_slA (db_var 0 (pv 0)) do_none (do_some de_int)) (de_of (df_lst (da_cons de_int da_nil)))))
      (dss_cons (ds_set 3 sc_u_law_number.nd (de_op od_addA (db_of (de_ixA hu (db_var 2 (pv 2)) (db_of (de_op od_mod (db_of (de_callTy cd_int (by rfl) T.n_int (by decide +kernel) (dab_cons (db_var 1 (pv 1)) dab_nil))) (db_of (de_callB cd_lenA (by rfl) T.n_len (by decide +kernel) (dab_cons (db_var 2 (pv 2)) dab_nil))))))) (db_of (de_op od_mulA (db_of de_int) (db_of (de_op od_div (db_var 1 (pv 1)) (db_of (de_callB cd_lenA (by rfl) T.n_len (by decide +kernel) (dab_cons (db_var 2 (pv 2)) dab_nil)))))))))
      (dss_cons (ds_par 4 5 rfl sc_u_law_number.nd (da_cons (de_op od_mod (db_of (de_callTy cd_int (by rfl) T.n_int (by decide +kernel) (dab_cons (db_var 3 (pv 3)) dab_nil))) (db_of de_int)) (da_cons (de_op od_mod (db_of (de_callTy cd_int (by rfl) T.n_int (by decide +kernel) (dab_cons (db_of (de_op od_div (db_var 3 (pv 3)) (db_of de_int))) dab_nil))) (db_of de_int)) da_nil)))
      (dss_cons (ds_set 6 sc_u_law_number.nd (de_op od_mod (db_of (de_callTy cd_int (by rfl) T.n_int (by decide +kernel) (dab_cons (db_of (de_op od_addA (db_of (de_op od_addA (db_of (de_op od_mulA (db_of (de_op od_addA (db_var 4 (pv 4)) (db_of (de_op od_mulA (db_of de_int) (db_var 1 (pv 1)))))) (db_of de_int))) (db_of (de_op od_mulA (db_of de_int) (db_var 5 (pv 5)))))) (db_of (de_op od_mod (db_of (de_callTy cd_int (by rfl) T.n_int (by decide +kernel) (dab_cons (db_of (de_callB (cd_sum rfl) (by rfl) T.n_sum (by decide +kernel) (dab_cons (db_var 2 (pv 2)) dab_nil))) dab_nil))) (db_of de_int))))) dab_nil))) (db_of de_int)))
      (dss_one (ds_ret (de_op od_addA (db_of (de_op od_mulA (db_of (de_op od_mod (db_of (de_callTy cd_int (by rfl) T.n_int (by decide +kernel) (dab_cons (db_of (de_op od_mulA (db_var 6 (pv 6)) (db_of (de_op od_addA (db_of (de_op od_addA (db_var 6 (pv 6)) (db_of (de_op od_mulA (db_of de_int) (db_var 1 (pv 1)))))) (db_of de_int))))) dab_nil))) (db_of de_int))) (db_of de_int))) (db_var 5 (pv 5)))))))))

abbrev s_u_law_job : Stmt := topS 55
theorem sc_u_law_job : FnScope [Str.ofString "script", Str.ofString "index", Str.ofString "many", Str.ofString "count", Str.ofString "worths", Str.ofString "works", Str.ofString "at", Str.ofString "work", Str.ofString "most", Str.ofString "parts"] [Str.ofString "script", Str.ofString "index"] (defScope s_u_law_job) := ⟨rfl, rfl, rfl, by decide +kernel, rfl, by decide +kernel, by decide +kernel⟩

theorem ok_u_law_job (T : Txt K mg) : FnOk P w K mg base CX0 2 T.f_u_law_job T.d_u_law_job [Str.ofString "script", Str.ofString "index"] (spD K 2 F_u_law_job) := by
  unfold F_u_law_job
  refine def_ok' s_u_law_job [Str.ofString "script", Str.ofString "index", Str.ofString "many", Str.ofString "count", Str.ofString "worths", Str.ofString "works", Str.ofString "at", Str.ofString "work", Str.ofString "most", Str.ofString "parts"] [Str.ofString "script", Str.ofString "index"] 1 10 2 g_u_law_job T.fun_u_law_job sc_u_law_job rfl rfl fun cdv A outer s H E hr => ?_
  have hu := hr.units
  have h5 := hr.units5
  exact (dss_cons (ds_par 2 3 rfl sc_u_law_job.nd (da_cons (de_op od_addA (db_of de_int) (db_of (de_op od_mod (db_of (de_callTy cd_int (by rfl) T.n_int (by decide +kernel) (dab_cons (db_of (de_call (ok_u_law_number T) (hr.mono (by decide)) (by rfl) T.m_u_law_number T.fun_u_law_number.kp T.b_u_law_number (da_cons (de_var 0 (pv 0)) (da_cons (de_var 1 (pv 1)) da_nil)))) dab_nil))) (db_of de_int)))) (da_cons (de_op od_addA (db_of de_int) (db_of (de_op od_mod (db_of (de_callTy cd_int (by rfl) T.n_int (by decide +kernel) (dab_cons (db_of (de_call (ok_u_law_number T) (hr.mono (by decide)) (by rfl) T.m_u_law_number T.fun_u_law_number.kp T.b_u_law_number (da_cons (de_var 0 (pv 0)) (da_cons (de_op od_addA (db_var 1 (pv 1)) (db_of de_int)) da_nil)))) dab_nil))) (db_of de_int)))) da_nil)))
      (dss_cons (ds_parF 4 5 rfl sc_u_law_job.nd (df_lst da_nil) (df_lst da_nil))
      (dss_cons (ds_for PassesOwn.never rfl (di_range1 (by rfl) T.n_range (de_var 2 (pv 2))) (dg_name 6 sc_u_law_job.nd)
      (dss_one (ds_app 4 (pv 4) (de_op od_mod (db_of (de_callTy cd_int (by rfl) T.n_int (by decide +kernel) (dab_cons (db_of (de_call (ok_u_law_number T) (hr.mono (by decide)) (by rfl) T.m_u_law_number T.fun_u_law_number.kp T.b_u_law_number (da_cons (de_var 0 (pv 0)) (da_cons (de_op od_addA (db_of (de_op od_addA (db_var 1 (pv 1)) (db_of de_int))) (db_var 6 (pv 6))) da_nil)))) dab_nil))) (db_of de_int)) fun a b => ps_expr (pe_bm PySem.F.plainAttrs_list PySem.F.slot_list_append PySem.F.type_list_append mt_append a (pa_cons b pa_nil)))))
      (dss_cons (ds_for PassesOwn.never rfl (di_range1 (by rfl) T.n_range (de_var 3 (pv 3))) (dg_name 7 sc_u_law_job.nd)
      (dss_cons (ds_set 8 sc_u_law_job.nd (de_ixA hu (db_of (de_tup (da_cons de_int (da_cons de_int da_nil)))) (db_of (de_op od_mod (db_of (de_callTy cd_int (by rfl) T.n_int (by decide +kernel) (dab_cons (db_of (de_call (ok_u_law_number T) (hr.mono (by decide)) (by rfl) T.m_u_law_number T.fun_u_law_number.kp T.b_u_law_number (da_cons (de_var 0 (pv 0)) (da_cons (de_op od_addA (db_var 1 (pv 1)) (db_of de_int)) da_nil)))) dab_nil))) (db_of de_int)))))
      (dss_cons (ds_setLcE 9 [(Str.ofString "at", 6)] rfl sc_u_law_job.nd rfl rfl (sw_true rfl rfl rfl (by decide +kernel)) (di_range1 (by rfl) T.n_range (de_var 2 (pv 2))) (blkOk_by (by kernel_rfl)) (fun _ _ _ _ _ => (dg_name 6 sc_u_law_job.nd)) (fun _ _ _ _ _ => dts_nil) (fun _ _ _ _ _ => (de_op od_mod (db_of (de_callTy cd_int (by rfl) T.n_int (by decide +kernel) (dab_cons (db_of (de_call (ok_u_law_number T) (hr.mono (by decide)) (by rfl) T.m_u_law_number T.fun_u_law_number.kp T.b_u_law_number (da_cons (de_var 0 (pv 0)) (da_cons (de_op od_addA (db_of (de_op od_addA (db_of (de_op od_addA (db_var 1 (pv 1)) (db_of de_int))) (db_of (de_op od_mulA (db_of de_int) (db_var 7 (pv 7)))))) (db_var 6 (pv 6))) da_nil)))) dab_nil))) (db_var 8 (pv 8)))))
      (dss_cons (ds_set 9 sc_u_law_job.nd (de_if (dt_cmp od_gt (db_of (de_callB (cd_sum rfl) (by rfl) T.n_sum (by decide +kernel) (dab_cons (db_var 9 (pv 9)) dab_nil))) (db_of de_int) (nomark _)) (de_var 9 (pv 9)) (de_op od_mulA (db_of (de_of (df_lst (da_cons de_int da_nil)))) (db_var 2 (pv 2)))))
      (dss_one (ds_app 5 (pv 5) (de_tup (da_cons (de_op od_mod (db_of (de_callTy cd_int (by rfl) T.n_int (by decide +kernel) (dab_cons (db_of (de_call (ok_u_law_number T) (hr.mono (by decide)) (by rfl) T.m_u_law_number T.fun_u_law_number.kp T.b_u_law_number (da_cons (de_var 0 (pv 0)) (da_cons (de_op od_addA (db_of (de_op od_addA (db_var 1 (pv 1)) (db_of de_int))) (db_var 7 (pv 7))) da_nil)))) dab_nil))) (db_of de_int)) (da_cons (de_callTy cd_tuple (by rfl) T.n_tuple (by decide +kernel) (dab_cons (db_var 9 (pv 9)) dab_nil)) da_nil))) fun a b => ps_expr (pe_bm PySem.F.plainAttrs_list PySem.F.slot_list_append PySem.F.type_list_append mt_append a (pa_cons b pa_nil))))))))
      (dss_one (ds_frz 5 (ds_frz 4 (ds_ret (de_tup (da_cons (de_callTy cd_tuple (by rfl) T.n_tuple (by decide +kernel) (dab_cons (db_var 4 (pv 4)) dab_nil)) (da_cons (de_callTy cd_tuple (by rfl) T.n_tuple (by decide +kernel) (dab_cons (db_var 5 (pv 5)) dab_nil)) da_nil)))))))))))

abbrev s_u_law_below : Stmt := topS 53
theorem sc_u_law_below : FnScope [Str.ofString "one", Str.ofString "other"] [Str.ofString "one", Str.ofString "other"] (defScope s_u_law_below) := ⟨rfl, rfl, rfl, by decide +kernel, rfl, by decide +kernel, by decide +kernel⟩

theorem ok_u_law_below (T : Txt K mg) : FnOk P w K mg base CX0 1 T.f_u_law_below T.d_u_law_below [Str.ofString "one", Str.ofString "other"] (spD K 2 F_u_law_below) := by
  unfold F_u_law_below
  refine def_ok' s_u_law_below [Str.ofString "one", Str.ofString "other"] [Str.ofString "one", Str.ofString "other"] 0 2 2 g_u_law_below T.fun_u_law_below sc_u_law_below rfl rfl fun cdv A outer s H E hr => ?_
  have hu := hr.units
  have h5 := hr.units5
  exact (dss_one (ds_ret (de_cmp od_lt (db_of (de_op od_mulA (db_of (de_ixA hu (db_var 0 (pv 0)) (db_of de_int))) (db_of (de_ixA hu (db_var 1 (pv 1)) (db_of de_int))))) (db_of (de_op od_mulA (db_of (de_ixA hu (db_var 1 (pv 1)) (db_of de_int))) (db_of (de_ixA hu (db_var 0 (pv 0)) (db_of de_int))))) (nomark _))))

abbrev s_u_law_lowest : Stmt := topS 49
theorem sc_u_law_lowest : FnScope [Str.ofString "top", Str.ofString "bottom", Str.ofString "one", Str.ofString "other"] [Str.ofString "top", Str.ofString "bottom"] (defScope s_u_law_lowest) := ⟨rfl, rfl, rfl, by decide +kernel, rfl, by decide +kernel, by decide +kernel⟩

theorem ok_u_law_lowest (T : Txt K mg) : FnOk P w K mg base CX0 1 T.f_u_law_lowest T.d_u_law_lowest [Str.ofString "top", Str.ofString "bottom"] (spD K 2 F_u_law_lowest) := by
  unfold F_u_law_lowest
  refine def_ok' s_u_law_lowest [Str.ofString "top", Str.ofString "bottom", Str.ofString "one", Str.ofString "other"] [Str.ofString "top", Str.ofString "bottom"] 0 4 2 g_u_law_lowest T.fun_u_law_lowest sc_u_law_lowest rfl rfl fun cdv A outer s H E hr => ?_
  have hu := hr.units
  have h5 := hr.units5
  exact (dss_cons (ds_par 2 3 rfl sc_u_law_lowest.nd (da_cons (de_callB cd_abs (by rfl) T.n_abs (by decide +kernel) (dab_cons (db_var 0 (pv 0)) dab_nil)) (da_cons (de_callB cd_abs (by rfl) T.n_abs (by decide +kernel) (dab_cons (db_var 1 (pv 1)) dab_nil)) da_nil)))
      (dss_cons (ds_while (fun ρ => match ρ[3]? with | some (some (_, D.int b)) => b.natAbs + 1 | _ => 0) PassesOwn.never (dt_cmp (od_neA h5) (db_var 3 (pv 3)) (db_of de_int) (nomark _)) (dss_one (ds_par 2 3 rfl sc_u_law_lowest.nd (da_cons (de_var 3 (pv 3)) (da_cons (de_op od_mod (db_of (de_callTy cd_int (by rfl) T.n_int (by decide +kernel) (dab_cons (db_var 2 (pv 2)) dab_nil))) (db_var 3 (pv 3))) da_nil)))))
      (dss_one (ds_ret (de_if (dt_cmp od_gt (db_var 1 (pv 1)) (db_of de_int) (nomark _)) (de_tup (da_cons (de_op od_div (db_var 0 (pv 0)) (db_var 2 (pv 2))) (da_cons (de_op od_div (db_var 1 (pv 1)) (db_var 2 (pv 2))) da_nil))) (de_tup (da_cons (de_op od_div (db_of (de_neg (db_var 0 (pv 0)))) (db_var 2 (pv 2))) (da_cons (de_op od_div (db_of (de_neg (db_var 1 (pv 1)))) (db_var 2 (pv 2))) da_nil))))))))

abbrev s_u_law_less : Stmt := topS 51
theorem sc_u_law_less : FnScope [Str.ofString "one", Str.ofString "other"] [Str.ofString "one", Str.ofString "other"] (defScope s_u_law_less) := ⟨rfl, rfl, rfl, by decide +kernel, rfl, by decide +kernel, by decide +kernel⟩

theorem ok_u_law_less (T : Txt K mg) : FnOk P w K mg base CX0 2 T.f_u_law_less T.d_u_law_less [Str.ofString "one", Str.ofString "other"] (spD K 2 F_u_law_less) := by
  unfold F_u_law_less
  refine def_ok' s_u_law_less [Str.ofString "one", Str.ofString "other"] [Str.ofString "one", Str.ofString "other"] 1 2 2 g_u_law_less T.fun_u_law_less sc_u_law_less rfl rfl fun cdv A outer s H E hr => ?_
  have hu := hr.units
  have h5 := hr.units5
  exact (dss_one (ds_ret (de_call (ok_u_law_lowest T) (hr.mono (by decide)) (by rfl) T.m_u_law_lowest T.fun_u_law_lowest.kp T.b_u_law_lowest (da_cons (de_op od_sub (db_of (de_op od_mulA (db_of (de_ixA hu (db_var 0 (pv 0)) (db_of de_int))) (db_of (de_ixA hu (db_var 1 (pv 1)) (db_of de_int))))) (db_of (de_op od_mulA (db_of (de_ixA hu (db_var 1 (pv 1)) (db_of de_int))) (db_of (de_ixA hu (db_var 0 (pv 0)) (db_of de_int)))))) (da_cons (de_op od_mulA (db_of (de_ixA hu (db_var 0 (pv 0)) (db_of de_int))) (db_of (de_ixA hu (db_var 1 (pv 1)) (db_of de_int)))) da_nil)))))

abbrev s_u_law_product : Stmt := topS 52
theorem sc_u_law_product : FnScope [Str.ofString "one", Str.ofString "other"] [Str.ofString "one", Str.ofString "other"] (defScope s_u_law_product) := ⟨rfl, rfl, rfl, by decide +kernel, rfl, by decide +kernel, by decide +kernel⟩

theorem ok_u_law_product (T : Txt K mg) : FnOk P w K mg base CX0 2 T.f_u_law_product T.d_u_law_product [Str.ofString "one", Str.ofString "other"] (spD K 2 F_u_law_product) := by
  unfold F_u_law_product
  refine def_ok' s_u_law_product [Str.ofString "one", Str.ofString "other"] [Str.ofString "one", Str.ofString "other"] 1 2 2 g_u_law_product T.fun_u_law_product sc_u_law_product rfl rfl fun cdv A outer s H E hr => ?_
  have hu := hr.units
  have h5 := hr.units5
  exact (dss_one (ds_ret (de_call (ok_u_law_lowest T) (hr.mono (by decide)) (by rfl) T.m_u_law_lowest T.fun_u_law_lowest.kp T.b_u_law_lowest (da_cons (de_op od_mulA (db_of (de_ixA hu (db_var 0 (pv 0)) (db_of de_int))) (db_of (de_ixA hu (db_var 1 (pv 1)) (db_of de_int)))) (da_cons (de_op od_mulA (db_of (de_ixA hu (db_var 0 (pv 0)) (db_of de_int))) (db_of (de_ixA hu (db_var 1 (pv 1)) (db_of de_int)))) da_nil)))))

abbrev s_u_law_chances : Stmt := topS 56
theorem sc_u_law_chances : FnScope [Str.ofString "pack", Str.ofString "work", Str.ofString "parts", Str.ofString "part"] [Str.ofString "pack", Str.ofString "work"] (defScope s_u_law_chances) := ⟨rfl, rfl, rfl, by decide +kernel, rfl, by decide +kernel, by decide +kernel⟩

theorem ok_u_law_chances (T : Txt K mg) : FnOk P w K mg base CX0 2 T.f_u_law_chances T.d_u_law_chances [Str.ofString "pack", Str.ofString "work"] (spD K 2 F_u_law_chances) := by
  unfold F_u_law_chances
  refine def_ok' s_u_law_chances [Str.ofString "pack", Str.ofString "work", Str.ofString "parts", Str.ofString "part"] [Str.ofString "pack", Str.ofString "work"] 1 4 2 g_u_law_chances T.fun_u_law_chances sc_u_law_chances rfl rfl fun cdv A outer s H E hr => ?_
  have hu := hr.units
  have h5 := hr.units5
  exact (dss_cons (ds_set 2 sc_u_law_chances.nd (de_ixA hu (db_of (de_ixA hu (db_of (de_ixA hu (db_var 0 (pv 0)) (db_of de_int))) (db_var 1 (pv 1)))) (db_of de_int)))
      (dss_one (ds_ret (de_of (df_lc [(Str.ofString "part", 3)] rfl sc_u_law_chances.nd (di_A (de_var 2 (pv 2))) (blkOk_by (by kernel_rfl)) (fun _ _ _ _ _ => (dg_name 3 sc_u_law_chances.nd)) (fun _ _ _ _ _ => dts_nil) (fun _ _ _ _ _ => (de_call (ok_u_law_lowest T) (hr.mono (by decide)) (by rfl) T.m_u_law_lowest T.fun_u_law_lowest.kp T.b_u_law_lowest (da_cons (de_var 3 (pv 3)) (da_cons (de_callB (cd_sum rfl) (by rfl) T.n_sum (by decide +kernel) (dab_cons (db_var 2 (pv 2)) dab_nil)) da_nil)))))))))

abbrev s_u_law_sum : Stmt := topS 50
theorem sc_u_law_sum : FnScope [Str.ofString "one", Str.ofString "other"] [Str.ofString "one", Str.ofString "other"] (defScope s_u_law_sum) := ⟨rfl, rfl, rfl, by decide +kernel, rfl, by decide +kernel, by decide +kernel⟩

theorem ok_u_law_sum (T : Txt K mg) : FnOk P w K mg base CX0 2 T.f_u_law_sum T.d_u_law_sum [Str.ofString "one", Str.ofString "other"] (spD K 2 F_u_law_sum) := by
  unfold F_u_law_sum
  refine def_ok' s_u_law_sum [Str.ofString "one", Str.ofString "other"] [Str.ofString "one", Str.ofString "other"] 1 2 2 g_u_law_sum T.fun_u_law_sum sc_u_law_sum rfl rfl fun cdv A outer s H E hr => ?_
  have hu := hr.units
  have h5 := hr.units5
  exact (dss_one (ds_ret (de_call (ok_u_law_lowest T) (hr.mono (by decide)) (by rfl) T.m_u_law_lowest T.fun_u_law_lowest.kp T.b_u_law_lowest (da_cons (de_op od_addA (db_of (de_op od_mulA (db_of (de_ixA hu (db_var 0 (pv 0)) (db_of de_int))) (db_of (de_ixA hu (db_var 1 (pv 1)) (db_of de_int))))) (db_of (de_op od_mulA (db_of (de_ixA hu (db_var 1 (pv 1)) (db_of de_int))) (db_of (de_ixA hu (db_var 0 (pv 0)) (db_of de_int)))))) (da_cons (de_op od_mulA (db_of (de_ixA hu (db_var 0 (pv 0)) (db_of de_int))) (db_of (de_ixA hu (db_var 1 (pv 1)) (db_of de_int)))) da_nil)))))

abbrev s_u_law_dot : Stmt := topS 54
theorem sc_u_law_dot : FnScope [Str.ofString "row", Str.ofString "other", Str.ofString "found", Str.ofString "one", Str.ofString "two"] [Str.ofString "row", Str.ofString "other"] (defScope s_u_law_dot) := ⟨rfl, rfl, rfl, by decide +kernel, rfl, by decide +kernel, by decide +kernel⟩

theorem ok_u_law_dot (T : Txt K mg) : FnOk P w K mg base CX0 3 T.f_u_law_dot T.d_u_law_dot [Str.ofString "row", Str.ofString "other"] (spD K 2 F_u_law_dot) := by
  unfold F_u_law_dot
  refine def_ok' s_u_law_dot [Str.ofString "row", Str.ofString "other", Str.ofString "found", Str.ofString "one", Str.ofString "two"] [Str.ofString "row", Str.ofString "other"] 2 5 2 g_u_law_dot T.fun_u_law_dot sc_u_law_dot rfl rfl fun cdv A outer s H E hr => ?_
  have hu := hr.units
  have h5 := hr.units5
  exact (dss_cons (ds_set 2 sc_u_law_dot.nd (de_tup (da_cons de_int (da_cons de_int da_nil))))
      (dss_cons (ds_for PassesOwn.never rfl (di_zipX (by rfl) T.n_zip (de_var 0 (pv 0)) (de_var 1 (pv 1))) (dg_tup 2 rfl (dgs_cons (dg_name 3 sc_u_law_dot.nd) (dgs_cons (dg_name 4 sc_u_law_dot.nd) dgs_nil)) (bCons_len (bCons_len bNil_len)))
      (dss_one (ds_set 2 sc_u_law_dot.nd (de_call (ok_u_law_sum T) (hr.mono (by decide)) (by rfl) T.m_u_law_sum T.fun_u_law_sum.kp T.b_u_law_sum (da_cons (de_var 2 (pv 2)) (da_cons (de_call (ok_u_law_product T) (hr.mono (by decide)) (by rfl) T.m_u_law_product T.fun_u_law_product.kp T.b_u_law_product (da_cons (de_var 3 (pv 3)) (da_cons (de_var 4 (pv 4)) da_nil))) da_nil))))))
      (dss_one (ds_ret (de_var 2 (pv 2))))))

abbrev s_u_law_worth : Stmt := topS 57
theorem sc_u_law_worth : FnScope [Str.ofString "pack", Str.ofString "work", Str.ofString "worth"] [Str.ofString "pack", Str.ofString "work"] (defScope s_u_law_worth) := ⟨rfl, rfl, rfl, by decide +kernel, rfl, by decide +kernel, by decide +kernel⟩

theorem ok_u_law_worth (T : Txt K mg) : FnOk P w K mg base CX0 4 T.f_u_law_worth T.d_u_law_worth [Str.ofString "pack", Str.ofString "work"] (spD K 2 F_u_law_worth) := by
  unfold F_u_law_worth
  refine def_ok' s_u_law_worth [Str.ofString "pack", Str.ofString "work", Str.ofString "worth"] [Str.ofString "pack", Str.ofString "work"] 3 3 2 g_u_law_worth T.fun_u_law_worth sc_u_law_worth rfl rfl fun cdv A outer s H E hr => ?_
  have hu := hr.units
  have h5 := hr.units5
  exact (dss_cons (ds_if (dt_cmp od_isN (db_var 1 (pv 1)) (db_of de_non) (nomark _)) (dss_one (ds_ret (de_tup (da_cons de_int (da_cons de_int da_nil))))) dss_nil)
      (dss_one (ds_ret (de_call (ok_u_law_dot T) (hr.mono (by decide)) (by rfl) T.m_u_law_dot T.fun_u_law_dot.kp T.b_u_law_dot (da_cons (de_call (ok_u_law_chances T) (hr.mono (by decide)) (by rfl) T.m_u_law_chances T.fun_u_law_chances.kp T.b_u_law_chances (da_cons (de_var 0 (pv 0)) (da_cons (de_var 1 (pv 1)) da_nil))) (da_cons (de_of (df_lc [(Str.ofString "worth", 2)] rfl sc_u_law_worth.nd (di_A (de_ixA hu (db_var 0 (pv 0)) (db_of de_int))) (blkOk_by (by kernel_rfl)) (fun _ _ _ _ _ => (dg_name 2 sc_u_law_worth.nd)) (fun _ _ _ _ _ => dts_nil) (fun _ _ _ _ _ => (de_tup (da_cons (de_var 2 (pv 2)) (da_cons de_int da_nil)))))) da_nil))))))

abbrev s_u_law_done : Stmt := topS 58
theorem sc_u_law_done : FnScope [Str.ofString "pack", Str.ofString "share", Str.ofString "best", Str.ofString "most", Str.ofString "work", Str.ofString "effort", Str.ofString "parts", Str.ofString "worth", Str.ofString "row"] [Str.ofString "pack", Str.ofString "share"] (defScope s_u_law_done) := ⟨rfl, rfl, rfl, by decide +kernel, rfl, by decide +kernel, by decide +kernel⟩

theorem ok_u_law_done (T : Txt K mg) : FnOk P w K mg base CX0 5 T.f_u_law_done T.d_u_law_done [Str.ofString "pack", Str.ofString "share"] (spD K 2 F_u_law_done) := by
  unfold F_u_law_done
  refine def_ok' s_u_law_done [Str.ofString "pack", Str.ofString "share", Str.ofString "best", Str.ofString "most", Str.ofString "work", Str.ofString "effort", Str.ofString "parts", Str.ofString "worth", Str.ofString "row"] [Str.ofString "pack", Str.ofString "share"] 4 9 2 g_u_law_done T.fun_u_law_done sc_u_law_done rfl rfl fun cdv A outer s H E hr => ?_
  have hu := hr.units
  have h5 := hr.units5
  exact (dss_cons (ds_asg (de_tup (da_cons de_non (da_cons (de_tup (da_cons (de_tup (da_cons de_int (da_cons de_int da_nil))) (da_cons (de_tup (da_cons de_int (da_cons de_int da_nil))) da_nil))) da_nil))) (dg_tup 2 rfl (dgs_cons (dg_name 2 sc_u_law_done.nd) (dgs_cons (dg_name 3 sc_u_law_done.nd) dgs_nil)) (bCons_len (bCons_len bNil_len))))
      (dss_cons (ds_for PassesOwn.never rfl (di_enumA (by rfl) T.n_enumerate (de_ixA hu (db_var 0 (pv 0)) (db_of de_int))) (dg_tup 2 rfl (dgs_cons (dg_name 4 sc_u_law_done.nd) (dgs_cons (dg_tup 2 rfl (dgs_cons (dg_name 5 sc_u_law_done.nd) (dgs_cons (dg_name 6 sc_u_law_done.nd) dgs_nil)) (bCons_len (bCons_len bNil_len))) dgs_nil)) (bCons_len (bCons_len bNil_len)))
      (dss_cons (ds_set 7 sc_u_law_done.nd (de_call (ok_u_law_worth T) (hr.mono (by decide)) (by rfl) T.m_u_law_worth T.fun_u_law_worth.kp T.b_u_law_worth (da_cons (de_var 0 (pv 0)) (da_cons (de_var 4 (pv 4)) da_nil))))
      (dss_cons (ds_set 8 sc_u_law_done.nd (de_tup (da_cons (de_call (ok_u_law_less T) (hr.mono (by decide)) (by rfl) T.m_u_law_less T.fun_u_law_less.kp T.b_u_law_less (da_cons (de_call (ok_u_law_product T) (hr.mono (by decide)) (by rfl) T.m_u_law_product T.fun_u_law_product.kp T.b_u_law_product (da_cons (de_var 1 (pv 1)) (da_cons (de_var 7 (pv 7)) da_nil))) (da_cons (de_tup (da_cons (de_var 5 (pv 5)) (da_cons de_int da_nil))) da_nil))) (da_cons (de_var 7 (pv 7)) da_nil))))
      (dss_one (ds_if (dt_w (dw_or (dt_val (de_call (ok_u_law_below T) (hr.mono (by decide)) (by rfl) T.m_u_law_below T.fun_u_law_below.kp T.b_u_law_below (da_cons (de_ixA hu (db_var 3 (pv 3)) (db_of de_int)) (da_cons (de_ixA hu (db_var 8 (pv 8)) (db_of de_int)) da_nil)))) (dw_or1 (dt_w (dw_and (dt_cmp (od_eqA h5) (db_of (de_ixA hu (db_var 3 (pv 3)) (db_of de_int))) (db_of (de_ixA hu (db_var 8 (pv 8)) (db_of de_int))) (nomark _)) (dw_and1 (dt_val (de_call (ok_u_law_below T) (hr.mono (by decide)) (by rfl) T.m_u_law_below T.fun_u_law_below.kp T.b_u_law_below (da_cons (de_ixA hu (db_var 3 (pv 3)) (db_of de_int)) (da_cons (de_ixA hu (db_var 8 (pv 8)) (db_of de_int)) da_nil)))))))))) (dss_one (ds_par 2 3 rfl sc_u_law_done.nd (da_cons (de_var 4 (pv 4)) (da_cons (de_var 8 (pv 8)) da_nil)))) dss_nil)))))
      (dss_one (ds_ret (de_var 2 (pv 2))))))

abbrev s_u_law_spots : Stmt := topS 59
theorem sc_u_law_spots : FnScope [Str.ofString "pack", Str.ofString "found", Str.ofString "rows", Str.ofString "worth", Str.ofString "effort", Str.ofString "other", Str.ofString "more", Str.ofString "rest", Str.ofString "spot", Str.ofString "spots", Str.ofString "turn", Str.ofString "at", Str.ofString "one", Str.ofString "work", Str.ofString "parts"] [Str.ofString "pack"] (defScope s_u_law_spots) := ⟨rfl, rfl, rfl, by decide +kernel, rfl, by decide +kernel, by decide +kernel⟩

theorem ok_u_law_spots (T : Txt K mg) : FnOk P w K mg base CX0 5 T.f_u_law_spots T.d_u_law_spots [Str.ofString "pack"] (spD K 1 F_u_law_spots) := by
  unfold F_u_law_spots
  refine def_ok' s_u_law_spots [Str.ofString "pack", Str.ofString "found", Str.ofString "rows", Str.ofString "worth", Str.ofString "effort", Str.ofString "other", Str.ofString "more", Str.ofString "rest", Str.ofString "spot", Str.ofString "spots", Str.ofString "turn", Str.ofString "at", Str.ofString "one", Str.ofString "work", Str.ofString "parts"] [Str.ofString "pack"] 4 15 1 g_u_law_spots T.fun_u_law_spots sc_u_law_spots rfl rfl fun cdv A outer s H E hr => ?_
  have hu := hr.units
  have h5 := hr.units5
  exact (dss_cons (ds_setF 1 sc_u_law_spots.nd (df_disp hu (dps_cons (de_tup (da_cons de_int (da_cons de_int da_nil))) de_bl (dps_cons (de_tup (da_cons de_int (da_cons de_int da_nil))) de_bl dps_nil))))
      (dss_cons (ds_set 2 sc_u_law_spots.nd (de_op od_addA (db_of (de_of (df_lst (da_cons (de_tup (da_cons (de_tup (da_cons de_int (da_cons de_int da_nil))) (da_cons de_int da_nil))) da_nil)))) (db_of (de_of (df_lc [(Str.ofString "work", 13), (Str.ofString "effort", 4), (Str.ofString "parts", 14)] rfl sc_u_law_spots.nd (di_enumA (by rfl) T.n_enumerate (de_ixA hu (db_var 0 (pv 0)) (db_of de_int))) (blkOk_by (by kernel_rfl)) (fun _ _ _ _ _ => (dg_tup 2 rfl (dgs_cons (dg_name 13 sc_u_law_spots.nd) (dgs_cons (dg_tup 2 rfl (dgs_cons (dg_name 4 sc_u_law_spots.nd) (dgs_cons (dg_name 14 sc_u_law_spots.nd) dgs_nil)) (bCons_len (bCons_len bNil_len))) dgs_nil)) (bCons_len (bCons_len bNil_len)))) (fun _ _ _ _ _ => dts_nil) (fun _ _ _ _ _ => (de_tup (da_cons (de_call (ok_u_law_worth T) (hr.mono (by decide)) (by rfl) T.m_u_law_worth T.fun_u_law_worth.kp T.b_u_law_worth (da_cons (de_var 0 (pv 0)) (da_cons (de_var 13 (pv 13)) da_nil))) (da_cons (de_var 4 (pv 4)) da_nil)))))))))
      (dss_cons (ds_for PassesOwn.never rfl (di_A (de_var 2 (pv 2))) (dg_tup 2 rfl (dgs_cons (dg_name 3 sc_u_law_spots.nd) (dgs_cons (dg_name 4 sc_u_law_spots.nd) dgs_nil)) (bCons_len (bCons_len bNil_len)))
      (dss_one (ds_for PassesOwn.never rfl (di_A (de_var 2 (pv 2))) (dg_tup 2 rfl (dgs_cons (dg_name 5 sc_u_law_spots.nd) (dgs_cons (dg_name 6 sc_u_law_spots.nd) dgs_nil)) (bCons_len (bCons_len bNil_len)))
      (dss_one (ds_if (dt_w (dw_and (dt_val (de_call (ok_u_law_below T) (hr.mono (by decide)) (by rfl) T.m_u_law_below T.fun_u_law_below.kp T.b_u_law_below (da_cons (de_var 3 (pv 3)) (da_cons (de_var 5 (pv 5)) da_nil)))) (dw_and1 (dt_cmp od_gt (db_var 6 (pv 6)) (db_var 4 (pv 4)) (nomark _))))) (dss_cons (ds_set 7 sc_u_law_spots.nd (de_call (ok_u_law_less T) (hr.mono (by decide)) (by rfl) T.m_u_law_less T.fun_u_law_less.kp T.b_u_law_less (da_cons (de_var 5 (pv 5)) (da_cons (de_var 3 (pv 3)) da_nil))))
      (dss_cons (ds_set 8 sc_u_law_spots.nd (de_call (ok_u_law_product T) (hr.mono (by decide)) (by rfl) T.m_u_law_product T.fun_u_law_product.kp T.b_u_law_product (da_cons (de_tup (da_cons (de_op od_sub (db_var 6 (pv 6)) (db_var 4 (pv 4))) (da_cons de_int da_nil))) (da_cons (de_tup (da_cons (de_ixA hu (db_var 7 (pv 7)) (db_of de_int)) (da_cons (de_ixA hu (db_var 7 (pv 7)) (db_of de_int)) da_nil))) da_nil))))
      (dss_one (ds_if (dt_not (dt_val (de_call (ok_u_law_below T) (hr.mono (by decide)) (by rfl) T.m_u_law_below T.fun_u_law_below.kp T.b_u_law_below (da_cons (de_tup (da_cons de_int (da_cons de_int da_nil))) (da_cons (de_var 8 (pv 8)) da_nil))))) (dss_one (ds_setA hu 1 (pv 1) (de_var 8 (pv 8)) de_bl (ps_asg de_bl (pg_sub (pv 1) (de_var 8 (pv 8)) set_list)) (ps_asg de_bl (pg_sub (pv 1) (de_var 8 (pv 8)) (set_tab hu))))) dss_nil)))) dss_nil)))))
      (dss_cons (ds_setF 9 sc_u_law_spots.nd (df_callTy (cf_listA rfl) (by rfl) T.n_list boot_list (dab_cons (db_var 1 (pv 1)) dab_nil)))
      (dss_cons (ds_for PassesOwn.never rfl (di_range1 (by rfl) T.n_range (de_callB cd_lenA (by rfl) T.n_len (by decide +kernel) (dab_cons (db_var 9 (pv 9)) dab_nil))) (dg_name 10 sc_u_law_spots.nd)
      (dss_one (ds_for PassesOwn.never rfl (di_range1 (by rfl) T.n_range (de_op od_sub (db_of (de_callB cd_lenA (by rfl) T.n_len (by decide +kernel) (dab_cons (db_var 9 (pv 9)) dab_nil))) (db_of de_int))) (dg_name 11 sc_u_law_spots.nd)
      (dss_one (ds_if (dt_val (de_call (ok_u_law_below T) (hr.mono (by decide)) (by rfl) T.m_u_law_below T.fun_u_law_below.kp T.b_u_law_below (da_cons (de_ixA hu (db_var 9 (pv 9)) (db_of (de_op od_addA (db_var 11 (pv 11)) (db_of de_int)))) (da_cons (de_ixA hu (db_var 9 (pv 9)) (db_var 11 (pv 11))) da_nil)))) (dss_cons (ds_par 12 5 rfl sc_u_law_spots.nd (da_cons (de_ixA hu (db_var 9 (pv 9)) (db_var 11 (pv 11))) (da_cons (de_ixA hu (db_var 9 (pv 9)) (db_of (de_op od_addA (db_var 11 (pv 11)) (db_of de_int)))) da_nil)))
      (dss_one (ds_swap 9 (pv 9) (pv 9) (de_var 11 (pv 11)) (de_op od_addA (db_var 11 (pv 11)) (db_of de_int)) (de_var 5 (pv 5)) (de_var 12 (pv 12)) (ps_asg (de_tup (da_cons (de_var 5 (pv 5)) (da_cons (de_var 12 (pv 12)) da_nil))) (pg_tup (by rfl) (pgs_cons (pg_sub (pv 9) (de_var 11 (pv 11)) set_list) (pgs_cons (pg_sub (pv 9) (de_op od_addA (db_var 11 (pv 11)) (db_of de_int)) set_list) pgs_nil))))))) dss_nil)))))
      (dss_one (ds_frz 9 (ds_ret (de_var 9 (pv 9))))))))))

abbrev s_inverse : Stmt := topS 17
theorem sc_inverse : FnScope [Str.ofString "one", Str.ofString "top", Str.ofString "bottom"] [Str.ofString "one"] (defScope s_inverse) := ⟨rfl, rfl, rfl, by decide +kernel, rfl, by decide +kernel, by decide +kernel⟩

theorem ok_inverse (T : Txt K mg) : FnOk P w K mg base CX0 1 T.f_inverse T.d_inverse [Str.ofString "one"] (spD K 1 F_inverse) := by
  unfold F_inverse
  refine def_ok' s_inverse [Str.ofString "one", Str.ofString "top", Str.ofString "bottom"] [Str.ofString "one"] 0 3 1 g_inverse T.fun_inverse sc_inverse rfl rfl fun cdv A outer s H E hr => ?_
  have hu := hr.units
  have h5 := hr.units5
  exact (dss_cons (ds_asg (de_var 0 (pv 0)) (dg_tup 2 rfl (dgs_cons (dg_name 1 sc_inverse.nd) (dgs_cons (dg_name 2 sc_inverse.nd) dgs_nil)) (bCons_len (bCons_len bNil_len))))
      (dss_one (ds_ret (de_if (dt_cmp od_gt (db_var 1 (pv 1)) (db_of de_int) (nomark _)) (de_tup (da_cons (de_var 2 (pv 2)) (da_cons (de_var 1 (pv 1)) da_nil))) (de_tup (da_cons (de_neg (db_var 2 (pv 2))) (da_cons (de_neg (db_var 1 (pv 1))) da_nil)))))))

abbrev s_over : Stmt := topS 18
theorem sc_over : FnScope [Str.ofString "one", Str.ofString "other"] [Str.ofString "one", Str.ofString "other"] (defScope s_over) := ⟨rfl, rfl, rfl, by decide +kernel, rfl, by decide +kernel, by decide +kernel⟩

theorem ok_over (T : Txt K mg) : FnOk P w K mg base CX0 3 T.f_over T.d_over [Str.ofString "one", Str.ofString "other"] (spD K 2 F_over) := by
  unfold F_over
  refine def_ok' s_over [Str.ofString "one", Str.ofString "other"] [Str.ofString "one", Str.ofString "other"] 2 2 2 g_over T.fun_over sc_over rfl rfl fun cdv A outer s H E hr => ?_
  have hu := hr.units
  have h5 := hr.units5
  exact (dss_one (ds_ret (de_call (ok_times T) (hr.mono (by decide)) (by rfl) T.m_times T.fun_times.kp T.b_times (da_cons (de_var 0 (pv 0)) (da_cons (de_call (ok_inverse T) (hr.mono (by decide)) (by rfl) T.m_inverse T.fun_inverse.kp T.b_inverse (da_cons (de_var 1 (pv 1)) da_nil)) da_nil)))))

abbrev s_u_next_share : Stmt := topS 43
theorem sc_u_next_share : FnScope [Str.ofString "job", Str.ofString "work", Str.ofString "best", Str.ofString "other", Str.ofString "more", Str.ofString "share"] [Str.ofString "job", Str.ofString "work"] (defScope s_u_next_share) := ⟨rfl, rfl, rfl, by decide +kernel, rfl, by decide +kernel, by decide +kernel⟩

theorem ok_u_next_share (T : Txt K mg) : FnOk P w K mg base CX0 7 T.f_u_next_share T.d_u_next_share [Str.ofString "job", Str.ofString "work"] (spD K 2 F_u_next_share) := by
  unfold F_u_next_share
  refine def_ok' s_u_next_share [Str.ofString "job", Str.ofString "work", Str.ofString "best", Str.ofString "other", Str.ofString "more", Str.ofString "share"] [Str.ofString "job", Str.ofString "work"] 6 6 2 g_u_next_share T.fun_u_next_share sc_u_next_share rfl rfl fun cdv A outer s H E hr => ?_
  have hu := hr.units
  have h5 := hr.units5
  exact (dss_cons (ds_set 2 sc_u_next_share.nd de_non)
      (dss_cons (ds_for PassesOwn.never rfl (di_range1 (by rfl) T.n_range (de_lenO T.cl_Job T.me_JobD_lenD (ok_JobD_lenD T) (hr.mono (by decide)) T.b_JobD_lenD (by rfl) T.n_len PySem.boot_len (dab_cons (db_var 0 (pv 0)) dab_nil))) (dg_name 3 sc_u_next_share.nd)
      (dss_cons (ds_set 4 sc_u_next_share.nd (de_call (ok_minus T) (hr.mono (by decide)) (by rfl) T.m_minus T.fun_minus.kp T.b_minus (da_cons (de_call (ok_u_worth T) (hr.mono (by decide)) (by rfl) T.m_u_worth T.fun_u_worth.kp T.b_u_worth (da_cons (de_var 0 (pv 0)) (da_cons (de_var 3 (pv 3)) da_nil))) (da_cons (de_call (ok_u_worth T) (hr.mono (by decide)) (by rfl) T.m_u_worth T.fun_u_worth.kp T.b_u_worth (da_cons (de_var 0 (pv 0)) (da_cons (de_var 1 (pv 1)) da_nil))) da_nil))))
      (dss_cons (ds_if (dt_not (dt_val (de_call (ok_is_less T) (hr.mono (by decide)) (by rfl) T.m_is_less T.fun_is_less.kp T.b_is_less (da_cons (de_glob (pe_glob (v := L2.V.ref T.a_ZERO) rfl T.m_ZERO rfl) (fun _ => T.r_ZERO _)) (da_cons (de_var 4 (pv 4)) da_nil))))) (dss_one ds_cnt) dss_nil)
      (dss_cons (ds_set 5 sc_u_next_share.nd (de_call (ok_over T) (hr.mono (by decide)) (by rfl) T.m_over T.fun_over.kp T.b_over (da_cons (de_call (ok_minus T) (hr.mono (by decide)) (by rfl) T.m_minus T.fun_minus.kp T.b_minus (da_cons (de_call (ok_u_effort T) (hr.mono (by decide)) (by rfl) T.m_u_effort T.fun_u_effort.kp T.b_u_effort (da_cons (de_var 0 (pv 0)) (da_cons (de_var 3 (pv 3)) da_nil))) (da_cons (de_call (ok_u_effort T) (hr.mono (by decide)) (by rfl) T.m_u_effort T.fun_u_effort.kp T.b_u_effort (da_cons (de_var 0 (pv 0)) (da_cons (de_var 1 (pv 1)) da_nil))) da_nil))) (da_cons (de_var 4 (pv 4)) da_nil))))
      (dss_one (ds_if (dt_w (dw_and (dt_not (dt_val (de_call (ok_is_less T) (hr.mono (by decide)) (by rfl) T.m_is_less T.fun_is_less.kp T.b_is_less (da_cons (de_glob (pe_glob (v := L2.V.ref T.a_ONE) rfl T.m_ONE rfl) (fun _ => T.r_ONE _)) (da_cons (de_var 5 (pv 5)) da_nil))))) (dw_and1 (dt_w (dw_or (dt_cmp od_isN (db_var 2 (pv 2)) (db_of de_non) (nomark _)) (dw_or1 (dt_val (de_call (ok_is_less T) (hr.mono (by decide)) (by rfl) T.m_is_less T.fun_is_less.kp T.b_is_less (da_cons (de_var 5 (pv 5)) (da_cons (de_var 2 (pv 2)) da_nil)))))))))) (dss_one (ds_set 2 sc_u_next_share.nd (de_var 5 (pv 5)))) dss_nil))))))
      (dss_one (ds_ret (de_var 2 (pv 2))))))

abbrev s_turns : Stmt := topS 38
theorem sc_turns : FnScope [Str.ofString "job", Str.ofString "found", Str.ofString "share", Str.ofString "work"] [Str.ofString "job"] (defScope s_turns) := ⟨rfl, rfl, rfl, by decide +kernel, rfl, by decide +kernel, by decide +kernel⟩

theorem ok_turns (T : Txt K mg) : FnOk P w K mg base CX0 10 T.f_turns T.d_turns [Str.ofString "job"] (spD K 1 F_turns) := by
  unfold F_turns
  refine def_ok' s_turns [Str.ofString "job", Str.ofString "found", Str.ofString "share", Str.ofString "work"] [Str.ofString "job"] 9 4 1 g_turns T.fun_turns sc_turns rfl rfl fun cdv A outer s H E hr => ?_
  have hu := hr.units
  have h5 := hr.units5
  exact (dss_cons (ds_expr (de_call (ok_check_job T) (hr.mono (by decide)) (by rfl) T.m_check_job T.fun_check_job.kp T.b_check_job (da_cons (de_var 0 (pv 0)) da_nil)))
      (dss_cons (ds_setF 1 sc_turns.nd (df_lst da_nil))
      (dss_cons (ds_set 2 sc_turns.nd (de_glob (pe_glob (v := L2.V.ref T.a_ZERO) rfl T.m_ZERO rfl) (fun _ => T.r_ZERO _)))
      (dss_cons (ds_while (fun _ => 100) PassesOwn.never (dt_cmp od_notN (db_var 2 (pv 2)) (db_of de_non) (nomark _)) (dss_cons (ds_set 3 sc_turns.nd (de_callV (ok_done T) (hr.mono (by decide)) (by rfl) T.m_done T.fun_done.kp T.b_done (da_cons (de_var 0 (pv 0)) (da_cons (de_var 2 (pv 2)) da_nil))))
      (dss_cons (ds_app 1 (pv 1) (de_tup (da_cons (de_var 2 (pv 2)) (da_cons (de_var 3 (pv 3)) da_nil))) fun a b => ps_expr (pe_bm PySem.F.plainAttrs_list PySem.F.slot_list_append PySem.F.type_list_append mt_append a (pa_cons b pa_nil)))
      (dss_one (ds_set 2 sc_turns.nd (de_call (ok_u_next_share T) (hr.mono (by decide)) (by rfl) T.m_u_next_share T.fun_u_next_share.kp T.b_u_next_share (da_cons (de_var 0 (pv 0)) (da_cons (de_var 3 (pv 3)) da_nil))))))))
      (dss_one (ds_frz 1 (ds_ret (de_var 1 (pv 1)))))))))

abbrev s_best_share : Stmt := topS 40
theorem sc_best_share : FnScope [Str.ofString "job", Str.ofString "best", Str.ofString "most", Str.ofString "share", Str.ofString "work", Str.ofString "kept"] [Str.ofString "job"] (defScope s_best_share) := ⟨rfl, rfl, rfl, by decide +kernel, rfl, by decide +kernel, by decide +kernel⟩

theorem ok_best_share (T : Txt K mg) : FnOk P w K mg base CX0 11 T.f_best_share T.d_best_share [Str.ofString "job"] (spD K 1 F_best_share) := by
  unfold F_best_share
  refine def_ok' s_best_share [Str.ofString "job", Str.ofString "best", Str.ofString "most", Str.ofString "share", Str.ofString "work", Str.ofString "kept"] [Str.ofString "job"] 10 6 1 g_best_share T.fun_best_share sc_best_share rfl rfl fun cdv A outer s H E hr => ?_
  have hu := hr.units
  have h5 := hr.units5
  exact (dss_cons (ds_set 1 sc_best_share.nd de_non)
      (dss_cons (ds_set 2 sc_best_share.nd de_non)
      (dss_cons (ds_for PassesOwn.never rfl (di_A (de_call (ok_turns T) (hr.mono (by decide)) (by rfl) T.m_turns T.fun_turns.kp T.b_turns (da_cons (de_var 0 (pv 0)) da_nil))) (dg_tup 2 rfl (dgs_cons (dg_name 3 sc_best_share.nd) (dgs_cons (dg_name 4 sc_best_share.nd) dgs_nil)) (bCons_len (bCons_len bNil_len)))
      (dss_cons (ds_set 5 sc_best_share.nd (de_call (ok_times T) (hr.mono (by decide)) (by rfl) T.m_times T.fun_times.kp T.b_times (da_cons (de_call (ok_minus T) (hr.mono (by decide)) (by rfl) T.m_minus T.fun_minus.kp T.b_minus (da_cons (de_glob (pe_glob (v := L2.V.ref T.a_ONE) rfl T.m_ONE rfl) (fun _ => T.r_ONE _)) (da_cons (de_var 3 (pv 3)) da_nil))) (da_cons (de_call (ok_u_worth T) (hr.mono (by decide)) (by rfl) T.m_u_worth T.fun_u_worth.kp T.b_u_worth (da_cons (de_var 0 (pv 0)) (da_cons (de_var 4 (pv 4)) da_nil))) da_nil))))
      (dss_one (ds_if (dt_w (dw_or (dt_cmp od_isN (db_var 1 (pv 1)) (db_of de_non) (nomark _)) (dw_or1 (dt_val (de_call (ok_is_less T) (hr.mono (by decide)) (by rfl) T.m_is_less T.fun_is_less.kp T.b_is_less (da_cons (de_var 2 (pv 2)) (da_cons (de_var 5 (pv 5)) da_nil))))))) (dss_cons (ds_set 1 sc_best_share.nd (de_var 3 (pv 3)))
      (dss_one (ds_set 2 sc_best_share.nd (de_var 5 (pv 5))))) dss_nil))))
      (dss_one (ds_ret (de_tup (da_cons (de_var 1 (pv 1)) (da_cons (de_var 2 (pv 2)) da_nil))))))))

abbrev s_u_law_job_right : Stmt := topS 60
theorem sc_u_law_job_right : FnScope [Str.ofString "script", Str.ofString "index", Str.ofString "pack", Str.ofString "job", Str.ofString "due", Str.ofString "best", Str.ofString "spot", Str.ofString "work", Str.ofString "kept", Str.ofString "turn", Str.ofString "bottom", Str.ofString "share"] [Str.ofString "script", Str.ofString "index", Str.ofString "pack"] (defScope s_u_law_job_right) := ⟨rfl, rfl, rfl, by decide +kernel, rfl, by decide +kernel, by decide +kernel⟩

theorem ok_u_law_job_right (T : Txt K mg) : FnOk P w K mg base CX0 12 T.f_u_law_job_right T.d_u_law_job_right [Str.ofString "script", Str.ofString "index", Str.ofString "pack"] (spD K 3 F_u_law_job_right) := by
  unfold F_u_law_job_right
  refine def_ok' s_u_law_job_right [Str.ofString "script", Str.ofString "index", Str.ofString "pack", Str.ofString "job", Str.ofString "due", Str.ofString "best", Str.ofString "spot", Str.ofString "work", Str.ofString "kept", Str.ofString "turn", Str.ofString "bottom", Str.ofString "share"] [Str.ofString "script", Str.ofString "index", Str.ofString "pack"] 11 12 3 g_u_law_job_right T.fun_u_law_job_right sc_u_law_job_right rfl rfl fun cdv A outer s H E hr => ?_
  have hu := hr.units
  have h5 := hr.units5
  exact (dss_cons (ds_parKOK 3 4 5 rfl sc_u_law_job_right.nd (de_make T.mk_Job (ok_JobD_initD T) (hr.mono (by decide)) (by rfl) T.mc_Job T.b_JobD_initD (da_cons (de_ixA hu (db_var 2 (pv 2)) (db_of de_int)) (da_cons (de_ixA hu (db_var 2 (pv 2)) (db_of de_int)) da_nil))) (df_lst da_nil) de_non)
      (dss_cons (ds_for PassesOwn.never rfl (di_A (de_call (ok_u_law_spots T) (hr.mono (by decide)) (by rfl) T.m_u_law_spots T.fun_u_law_spots.kp T.b_u_law_spots (da_cons (de_var 2 (pv 2)) da_nil))) (dg_name 6 sc_u_law_job_right.nd)
      (dss_cons (ds_set 7 sc_u_law_job_right.nd (de_call (ok_u_law_done T) (hr.mono (by decide)) (by rfl) T.m_u_law_done T.fun_u_law_done.kp T.b_u_law_done (da_cons (de_var 2 (pv 2)) (da_cons (de_var 6 (pv 6)) da_nil))))
      (dss_cons (ds_if (dt_cmp (od_neA h5) (db_of (de_callV (ok_done T) (hr.mono (by decide)) (by rfl) T.m_done T.fun_done.kp T.b_done (da_cons (de_var 3 (pv 3)) (da_cons (de_var 6 (pv 6)) da_nil)))) (db_var 7 (pv 7)) (nomark _)) (dss_one (ds_ret de_bl)) dss_nil)
      (dss_cons (ds_if (dt_w (dw_or (dt_cmp (od_eqA h5) (db_var 4 (pv 4)) (db_of (de_of (df_lst da_nil))) (nomark _)) (dw_or1 (dt_cmp (od_neA h5) (db_of (de_ixA hu (db_of (de_ixA hu (db_var 4 (pv 4)) (db_of (de_neg (db_of de_int))))) (db_of de_int))) (db_var 7 (pv 7)) (nomark _))))) (dss_one (ds_app 4 (pv 4) (de_tup (da_cons (de_var 6 (pv 6)) (da_cons (de_var 7 (pv 7)) da_nil))) fun a b => ps_expr (pe_bm PySem.F.plainAttrs_list PySem.F.slot_list_append PySem.F.type_list_append mt_append a (pa_cons b pa_nil)))) dss_nil)
      (dss_cons (ds_set 8 sc_u_law_job_right.nd (de_call (ok_u_law_product T) (hr.mono (by decide)) (by rfl) T.m_u_law_product T.fun_u_law_product.kp T.b_u_law_product (da_cons (de_call (ok_u_law_less T) (hr.mono (by decide)) (by rfl) T.m_u_law_less T.fun_u_law_less.kp T.b_u_law_less (da_cons (de_tup (da_cons de_int (da_cons de_int da_nil))) (da_cons (de_var 6 (pv 6)) da_nil))) (da_cons (de_call (ok_u_law_worth T) (hr.mono (by decide)) (by rfl) T.m_u_law_worth T.fun_u_law_worth.kp T.b_u_law_worth (da_cons (de_var 2 (pv 2)) (da_cons (de_var 7 (pv 7)) da_nil))) da_nil))))
      (dss_one (ds_if (dt_w (dw_or (dt_cmp od_isN (db_var 5 (pv 5)) (db_of de_non) (nomark _)) (dw_or1 (dt_val (de_call (ok_u_law_below T) (hr.mono (by decide)) (by rfl) T.m_u_law_below T.fun_u_law_below.kp T.b_u_law_below (da_cons (de_ixA hu (db_var 5 (pv 5)) (db_of de_int)) (da_cons (de_var 8 (pv 8)) da_nil))))))) (dss_one (ds_set 5 sc_u_law_job_right.nd (de_tup (da_cons (de_var 6 (pv 6)) (da_cons (de_var 8 (pv 8)) da_nil))))) dss_nil)))))))
      (dss_cons (ds_if (dt_w (dw_or (dt_cmp (od_neA h5) (db_of (de_call (ok_turns T) (hr.mono (by decide)) (by rfl) T.m_turns T.fun_turns.kp T.b_turns (da_cons (de_var 3 (pv 3)) da_nil))) (db_var 4 (pv 4)) (nomark _)) (dw_or1 (dt_cmp (od_neA h5) (db_of (de_call (ok_best_share T) (hr.mono (by decide)) (by rfl) T.m_best_share T.fun_best_share.kp T.b_best_share (da_cons (de_var 3 (pv 3)) da_nil))) (db_var 5 (pv 5)) (nomark _))))) (dss_one (ds_ret de_bl)) dss_nil)
      (dss_cons (ds_for PassesOwn.never rfl (di_range1 (by rfl) T.n_range de_int) (dg_name 9 sc_u_law_job_right.nd)
      (dss_cons (ds_set 10 sc_u_law_job_right.nd (de_op od_addA (db_of de_int) (db_of (de_op od_mod (db_of (de_callTy cd_int (by rfl) T.n_int (by decide +kernel) (dab_cons (db_of (de_call (ok_u_law_number T) (hr.mono (by decide)) (by rfl) T.m_u_law_number T.fun_u_law_number.kp T.b_u_law_number (da_cons (de_var 0 (pv 0)) (da_cons (de_op od_addA (db_var 1 (pv 1)) (db_var 9 (pv 9))) da_nil)))) dab_nil))) (db_of (de_ixA hu (db_of (de_tup (da_cons de_int (da_cons de_int da_nil)))) (db_of (de_op od_mod (db_of (de_callTy cd_int (by rfl) T.n_int (by decide +kernel) (dab_cons (db_var 9 (pv 9)) dab_nil))) (db_of de_int)))))))))
      (dss_cons (ds_set 11 sc_u_law_job_right.nd (de_call (ok_u_law_lowest T) (hr.mono (by decide)) (by rfl) T.m_u_law_lowest T.fun_u_law_lowest.kp T.b_u_law_lowest (da_cons (de_op od_mod (db_of (de_callTy cd_int (by rfl) T.n_int (by decide +kernel) (dab_cons (db_of (de_call (ok_u_law_number T) (hr.mono (by decide)) (by rfl) T.m_u_law_number T.fun_u_law_number.kp T.b_u_law_number (da_cons (de_var 0 (pv 0)) (da_cons (de_op od_addA (db_of (de_op od_addA (db_var 1 (pv 1)) (db_of de_int))) (db_var 9 (pv 9))) da_nil)))) dab_nil))) (db_of (de_op od_addA (db_var 10 (pv 10)) (db_of de_int)))) (da_cons (de_var 10 (pv 10)) da_nil))))
      (dss_one (ds_if (dt_cmp (od_neA h5) (db_of (de_callV (ok_done T) (hr.mono (by decide)) (by rfl) T.m_done T.fun_done.kp T.b_done (da_cons (de_var 3 (pv 3)) (da_cons (de_var 11 (pv 11)) da_nil)))) (db_of (de_call (ok_u_law_done T) (hr.mono (by decide)) (by rfl) T.m_u_law_done T.fun_u_law_done.kp T.b_u_law_done (da_cons (de_var 2 (pv 2)) (da_cons (de_var 11 (pv 11)) da_nil)))) (nomark _)) (dss_one (ds_ret de_bl)) dss_nil)))))
      (dss_one (ds_ret de_bl))))))

abbrev s_u_law_all_right : Stmt := topS 62
theorem sc_u_law_all_right : FnScope [Str.ofString "script", Str.ofString "number", Str.ofString "pack", Str.ofString "bad", Str.ofString "one"] [Str.ofString "script"] (defScope s_u_law_all_right) := ⟨rfl, rfl, rfl, by decide +kernel, rfl, by decide +kernel, by decide +kernel⟩

theorem ok_u_law_all_right (T : Txt K mg) : FnOk P w K mg base CX0 13 T.f_u_law_all_right T.d_u_law_all_right [Str.ofString "script"] (spD K 1 F_u_law_all_right) := by
  unfold F_u_law_all_right
  refine def_ok' s_u_law_all_right [Str.ofString "script", Str.ofString "number", Str.ofString "pack", Str.ofString "bad", Str.ofString "one"] [Str.ofString "script"] 12 5 1 g_u_law_all_right T.fun_u_law_all_right sc_u_law_all_right rfl rfl fun cdv A outer s H E hr => ?_
  have hu := hr.units
  have h5 := hr.units5
  exact (dss_cons (ds_for PassesOwn.never rfl (di_range1 (by rfl) T.n_range de_int) (dg_name 1 sc_u_law_all_right.nd)
      (dss_cons (ds_set 2 sc_u_law_all_right.nd (de_call (ok_u_law_job T) (hr.mono (by decide)) (by rfl) T.m_u_law_job T.fun_u_law_job.kp T.b_u_law_job (da_cons (de_var 0 (pv 0)) (da_cons (de_op od_addA (db_of de_int) (db_of (de_op od_mulA (db_of de_int) (db_var 1 (pv 1))))) da_nil))))
      (dss_cons (ds_if (dt_not (dt_val (de_call (ok_u_law_job_right T) (hr.mono (by decide)) (by rfl) T.m_u_law_job_right T.fun_u_law_job_right.kp T.b_u_law_job_right (da_cons (de_var 0 (pv 0)) (da_cons (de_op od_addA (db_of de_int) (db_of (de_op od_mulA (db_of de_int) (db_var 1 (pv 1))))) (da_cons (de_var 2 (pv 2)) da_nil)))))) (dss_one (ds_ret de_bl)) dss_nil)
      (dss_cons (ds_set 3 sc_u_law_all_right.nd (de_tup (da_cons de_non (da_cons de_int (da_cons (de_tup (da_cons de_int da_nil)) (da_cons (de_tup (da_cons de_int (da_cons de_int da_nil))) (da_cons (de_tup (da_cons (de_neg (db_of de_int)) (da_cons de_int da_nil))) (da_cons (de_tup (da_cons de_int (da_cons de_int da_nil))) (da_cons (de_tup (da_cons de_int (da_cons de_int da_nil))) (da_cons (de_tup (da_cons de_int (da_cons de_int da_nil))) (da_cons (de_of (df_lst (da_cons de_int (da_cons de_int da_nil)))) (da_cons (de_tup (da_cons de_int (da_cons de_bl da_nil))) (da_cons de_str (da_cons (de_tup (da_cons de_int (da_cons de_int (da_cons de_int da_nil)))) (da_cons (de_tup (da_cons de_int (da_cons de_int da_nil))) da_nil)))))))))))))))
      (dss_one (ds_if (dt_not (dt_val (de_callB (cd_all rfl) (by rfl) T.n_all (by decide +kernel) (dab_cons (db_of (de_of (df_lc [(Str.ofString "one", 4)] rfl sc_u_law_all_right.nd (di_A (de_var 3 (pv 3))) (blkOk_by (by kernel_rfl)) (fun _ _ _ _ _ => (dg_name 4 sc_u_law_all_right.nd)) (fun _ _ _ _ _ => dts_nil) (fun _ _ _ _ _ => (de_call (ok_u_law_is_refused T) (hr.mono (by decide)) (by rfl) T.m_u_law_is_refused T.fun_u_law_is_refused.kp T.b_u_law_is_refused (da_cons (de_make T.mk_Job (ok_JobD_initD T) (hr.mono (by decide)) (by rfl) T.mc_Job T.b_JobD_initD (da_cons (de_ixA hu (db_var 2 (pv 2)) (db_of de_int)) (da_cons (de_ixA hu (db_var 2 (pv 2)) (db_of de_int)) da_nil))) (da_cons (de_var 4 (pv 4)) da_nil))))))) dab_nil)))) (dss_one (ds_ret de_bl)) dss_nil))))))
      (dss_one (ds_ret de_bl)))
end
end K04

set_option maxHeartbeats 2000000
namespace K04
open PySem PySem.Spec PyProof.Rows L2 DL
theorem ap_iA {f : DE1} {ρ : DEnv} : iA f ρ = match f ρ with | some (.lst xs) => some xs | some (.tup xs) => some xs | some (.dic ds) => some (ds.map (·.1)) | some (.scr ns) => (iL f ρ) | _ => none := rfl
theorem F_ratio_eq {t b : Int} (h : 0 < b) (hb : sz b = true) : F_ratio [.int t, .int b] = some (qd (low t b)) := by
  have hg : (0 : Int) < (Nat.gcd t.natAbs b.natAbs : Nat) := by have := g_pos (t := t) h; omega
  have sg : sz ((Nat.gcd t.natAbs b.natAbs : Nat) : Int) = true := by
    unfold sz at hb ⊢
    apply decide_eq_true
    have hb := of_decide_eq_true hb
    have l : Nat.gcd t.natAbs b.natAbs ≤ b.natAbs := Nat.gcd_le_right _ (by omega)
    have h1 : ((Nat.gcd t.natAbs b.natAbs : Nat) : Int).natAbs = Nat.gcd t.natAbs b.natAbs := rfl
    rw [h1]
    have h2 := g_pos (t := t) h
    exact (Nat.log2_lt (by omega)).mpr (Nat.lt_of_le_of_lt l ((Nat.log2_lt (by omega)).mp hb))
  simp only [F_ratio, g_ratio, mkF, startD, ap_Seq, back_ret, ap_Set, ap_SetF, ap_Call, ap_CB, ap_Cons, ap_Nil, ap_2, ap_C, ap_V, ap_VB, ap_Tup, ap_Lst, ap_If, ap_Not, ap_Nx, ap_Exp, ap_Par, ap_ParF, ap_Wh, ap_For, ap_IfS, ap_bN, ap_bT, ap_bC, ap_b0, ix0, ix1, gAdd_eq, gAddA_eq, gEqA_int, gEqA_int', ixA0, ixA1, gSub_eq, List.map_cons, List.map_nil, List.length_cons, List.length_nil, List.cons_append, List.nil_append, List.replicate, List.getElem?_cons_zero, List.getElem?_cons_succ, List.set_cons_zero, List.set_cons_succ, bind_s, Option.map_some, if_true, Nat.reduceAdd, Nat.reduceSub, Nat.reduceLeDiff, reduceIte, gGcd_eq, mDiv_eq hg sg]
  rfl
theorem F_negative_eq (p : Qp) : F_negative [qd p] = some (qd (-p.1, p.2)) := rfl
theorem F_plus_low {a b a' b' : Int} (ha : sz a = true) (hb : sz b = true) (ha' : sz a' = true) (hb' : sz b' = true) : F_plus [fr a b, fr a' b'] = F_ratio [.int (a * b' + a' * b), .int (b * b')] := by
  simp only [F_plus, g_plus, mkF, startD, ap_Seq, back_ret, ap_Set, ap_SetF, ap_Call, ap_CB, ap_Cons, ap_Nil, ap_2, ap_C, ap_V, ap_VB, ap_Tup, ap_Lst, ap_If, ap_Not, ap_Nx, ap_Exp, ap_Par, ap_ParF, ap_Wh, ap_For, ap_IfS, ap_bN, ap_bT, ap_bC, ap_b0, ix0, ix1, gAdd_eq, gAddA_eq, gEqA_int, gEqA_int', ixA0, ixA1, gSub_eq, List.map_cons, List.map_nil, List.length_cons, List.length_nil, List.cons_append, List.nil_append, List.replicate, List.getElem?_cons_zero, List.getElem?_cons_succ, List.set_cons_zero, List.set_cons_succ, bind_s, Option.map_some, if_true, Nat.reduceAdd, Nat.reduceSub, Nat.reduceLeDiff, reduceIte, mMulA_eq ha hb', mMulA_eq ha' hb, mMulA_eq hb hb']
theorem F_plus_eq {p q : Qp} {n m : Nat} (hp : Ok n p) (hq : Ok m q) (l : n + m ≤ 8000) : F_plus [qd p, qd q] = some (qd (qadd p q)) := by
  show F_plus [fr _ _, fr _ _] = _
  rw [F_plus_low (sz_of hp.b1 (by omega)) (sz_of hp.b2 (by omega)) (sz_of hq.b1 (by omega)) (sz_of hq.b2 (by omega))]
  exact F_ratio_eq (Int.mul_pos hp.pos hq.pos) (sz_of (mulb hp.b2 hq.b2) l)
theorem F_minus_eq {p q : Qp} {n m : Nat} (hp : Ok n p) (hq : Ok m q) (l : n + m ≤ 8000) : F_minus [qd p, qd q] = some (qd (qsub p q)) := by
  have e : F_minus [qd p, qd q] = F_plus [qd p, qd (-q.1, q.2)] := by
    simp only [F_minus, g_minus, mkF, startD, ap_Seq, back_ret, ap_Set, ap_SetF, ap_Call, ap_CB, ap_Cons, ap_Nil, ap_2, ap_C, ap_V, ap_VB, ap_Tup, ap_Lst, ap_If, ap_Not, ap_Nx, ap_Exp, ap_Par, ap_ParF, ap_Wh, ap_For, ap_IfS, ap_bN, ap_bT, ap_bC, ap_b0, ix0, ix1, gAdd_eq, gAddA_eq, gEqA_int, gEqA_int', ixA0, ixA1, gSub_eq, List.map_cons, List.map_nil, List.length_cons, List.length_nil, List.cons_append, List.nil_append, List.replicate, List.getElem?_cons_zero, List.getElem?_cons_succ, List.set_cons_zero, List.set_cons_succ, bind_s, Option.map_some, if_true, Nat.reduceAdd, Nat.reduceSub, Nat.reduceLeDiff, reduceIte, F_negative_eq]
  rw [e]
  have hq' : Ok m (-q.1, q.2) := ⟨hq.pos, by show Nat.gcd (-q.1).natAbs _ = 1; rw [Int.natAbs_neg]; exact hq.cop, by show (-q.1).natAbs < _; rw [Int.natAbs_neg]; exact hq.b1, hq.b2⟩
  rw [F_plus_eq hp hq' l]
  unfold qadd qsub
  simp only [Int.neg_mul, ← Int.sub_eq_add_neg]
theorem F_times_eq {p q : Qp} {n m : Nat} (hp : Ok n p) (hq : Ok m q) (l : n + m ≤ 8000) : F_times [qd p, qd q] = some (qd (qmul p q)) := by
  have e : F_times [fr p.1 p.2, fr q.1 q.2] = F_ratio [.int (p.1 * q.1), .int (p.2 * q.2)] := by
    simp only [F_times, g_times, mkF, startD, ap_Seq, back_ret, ap_Set, ap_SetF, ap_Call, ap_CB, ap_Cons, ap_Nil, ap_2, ap_C, ap_V, ap_VB, ap_Tup, ap_Lst, ap_If, ap_Not, ap_Nx, ap_Exp, ap_Par, ap_ParF, ap_Wh, ap_For, ap_IfS, ap_bN, ap_bT, ap_bC, ap_b0, ix0, ix1, gAdd_eq, gAddA_eq, gEqA_int, gEqA_int', ixA0, ixA1, gSub_eq, List.map_cons, List.map_nil, List.length_cons, List.length_nil, List.cons_append, List.nil_append, List.replicate, List.getElem?_cons_zero, List.getElem?_cons_succ, List.set_cons_zero, List.set_cons_succ, bind_s, Option.map_some, if_true, Nat.reduceAdd, Nat.reduceSub, Nat.reduceLeDiff, reduceIte, mMulA_eq (sz_of hp.b1 (by omega)) (sz_of hq.b1 (by omega)), mMulA_eq (sz_of hp.b2 (by omega)) (sz_of hq.b2 (by omega))]
  show F_times [fr _ _, fr _ _] = _
  rw [e]
  exact F_ratio_eq (Int.mul_pos hp.pos hq.pos) (sz_of (mulb hp.b2 hq.b2) l)
theorem F_is_less_eq {p q : Qp} {n m : Nat} (hp : Ok n p) (hq : Ok m q) (l : n + m ≤ 8000) : F_is_less [qd p, qd q] = some (.bl (qlt p q)) := by
  show F_is_less [fr _ _, fr _ _] = _
  simp only [F_is_less, g_is_less, mkF, startD, ap_Seq, back_ret, ap_Set, ap_SetF, ap_Call, ap_CB, ap_Cons, ap_Nil, ap_2, ap_C, ap_V, ap_VB, ap_Tup, ap_Lst, ap_If, ap_Not, ap_Nx, ap_Exp, ap_Par, ap_ParF, ap_Wh, ap_For, ap_IfS, ap_bN, ap_bT, ap_bC, ap_b0, ix0, ix1, gAdd_eq, gAddA_eq, gEqA_int, gEqA_int', ixA0, ixA1, gSub_eq, List.map_cons, List.map_nil, List.length_cons, List.length_nil, List.cons_append, List.nil_append, List.replicate, List.getElem?_cons_zero, List.getElem?_cons_succ, List.set_cons_zero, List.set_cons_succ, bind_s, Option.map_some, if_true, Nat.reduceAdd, Nat.reduceSub, Nat.reduceLeDiff, reduceIte, mMulA_eq (sz_of hp.b1 (by omega)) (sz_of hq.b2 (by omega)), mMulA_eq (sz_of hq.b1 (by omega)) (sz_of hp.b2 (by omega)), gLt_eq]
  rfl
theorem F_below_eq {p q : Qp} {n m : Nat} (hp : Ok n p) (hq : Ok m q) (l : n + m ≤ 8000) : F_u_law_below [qd p, qd q] = some (.bl (qlt p q)) := by
  show F_u_law_below [fr _ _, fr _ _] = _
  simp only [F_u_law_below, g_u_law_below, mkF, startD, ap_Seq, back_ret, ap_Set, ap_SetF, ap_Call, ap_CB, ap_Cons, ap_Nil, ap_2, ap_C, ap_V, ap_VB, ap_Tup, ap_Lst, ap_If, ap_Not, ap_Nx, ap_Exp, ap_Par, ap_ParF, ap_Wh, ap_For, ap_IfS, ap_bN, ap_bT, ap_bC, ap_b0, ix0, ix1, gAdd_eq, gAddA_eq, gEqA_int, gEqA_int', ixA0, ixA1, gSub_eq, List.map_cons, List.map_nil, List.length_cons, List.length_nil, List.cons_append, List.nil_append, List.replicate, List.getElem?_cons_zero, List.getElem?_cons_succ, List.set_cons_zero, List.set_cons_succ, bind_s, Option.map_some, if_true, Nat.reduceAdd, Nat.reduceSub, Nat.reduceLeDiff, reduceIte, mMulA_eq (sz_of hp.b1 (by omega)) (sz_of hq.b2 (by omega)), mMulA_eq (sz_of hq.b1 (by omega)) (sz_of hp.b2 (by omega)), gLt_eq]
  rfl
/-! the law's own lowest terms, by Euclid -/
def euc (t b : Int) : Nat → Int → Int → Fl := fun n x y => whL (e2 (gEqA true) (eVB 3) (eC (.int 0))) (gPar 2 3 (aCons (eV 3) (aCons (e2 gModI (eCB gInt (aCons (eVB 2) aNil)) (eVB 3)) aNil))) n [some (false, .int t), some (false, .int b), some (false, .int x), some (false, .int y)]
theorem euc_eq (t b : Int) : ∀ (n : Nat) (x y : Nat), y < n → euc t b n x y = .nx [some (false, .int t), some (false, .int b), some (false, .int (Nat.gcd x y : Nat)), some (false, .int 0)]
  | 0, x, y, h => by omega
  | n + 1, x, y, h => by
    unfold euc whL
    by_cases hy : y = 0
    · subst hy
      simp only [mkF, startD, ap_Seq, back_ret, ap_Set, ap_SetF, ap_Call, ap_CB, ap_Cons, ap_Nil, ap_2, ap_C, ap_V, ap_VB, ap_Tup, ap_Lst, ap_If, ap_Not, ap_Nx, ap_Exp, ap_Par, ap_ParF, ap_Wh, ap_For, ap_IfS, ap_bN, ap_bT, ap_bC, ap_b0, ix0, ix1, gAdd_eq, gAddA_eq, gEqA_int, gEqA_int', ixA0, ixA1, gSub_eq, List.map_cons, List.map_nil, List.length_cons, List.length_nil, List.cons_append, List.nil_append, List.replicate, List.getElem?_cons_zero, List.getElem?_cons_succ, List.set_cons_zero, List.set_cons_succ, bind_s, Option.map_some, if_true, Nat.reduceAdd, Nat.reduceSub, Nat.reduceLeDiff, reduceIte, gEqA_int', Nat.gcd_zero_right]
      rfl
    · have hp : (0 : Int) < (y : Int) := by omega
      have hb : ((y : Int) == 0) = false := by simpa using hy
      simp only [mkF, startD, ap_Seq, back_ret, ap_Set, ap_SetF, ap_Call, ap_CB, ap_Cons, ap_Nil, ap_2, ap_C, ap_V, ap_VB, ap_Tup, ap_Lst, ap_If, ap_Not, ap_Nx, ap_Exp, ap_Par, ap_ParF, ap_Wh, ap_For, ap_IfS, ap_bN, ap_bT, ap_bC, ap_b0, ix0, ix1, gAdd_eq, gAddA_eq, gEqA_int, gEqA_int', ixA0, ixA1, gSub_eq, List.map_cons, List.map_nil, List.length_cons, List.length_nil, List.cons_append, List.nil_append, List.replicate, List.getElem?_cons_zero, List.getElem?_cons_succ, List.set_cons_zero, List.set_cons_succ, bind_s, Option.map_some, if_true, Nat.reduceAdd, Nat.reduceSub, Nat.reduceLeDiff, reduceIte, gEqA_int', hb, Bool.not_false, gInt_eq, mMod_eq hp]
      have := euc_eq t b n y (x % y) (by have := Nat.mod_lt x (Nat.pos_of_ne_zero hy); omega)
      unfold euc at this
      rw [Nat.gcd_comm x y, Nat.gcd_rec y x] 
      rw [show ((x : Int) % (y : Int)) = ((x % y : Nat) : Int) from rfl, this, Nat.gcd_comm]
theorem gAbs_eq (a : Int) : gAbs [.int a] = some (.int a.natAbs) := by
  show some (D.int (if a < 0 then -a else a)) = _
  congr 2
  split <;> omega
theorem F_lowest_eq {t b : Int} (h : 0 < b) (hb : sz b = true) : F_u_law_lowest [.int t, .int b] = some (qd (low t b)) := by
  have hg : (0 : Int) < (Nat.gcd t.natAbs b.natAbs : Nat) := by have := g_pos (t := t) h; omega
  have sg : sz ((Nat.gcd t.natAbs b.natAbs : Nat) : Int) = true := by
    unfold sz at hb ⊢
    apply decide_eq_true
    have hb := of_decide_eq_true hb
    have l : Nat.gcd t.natAbs b.natAbs ≤ b.natAbs := Nat.gcd_le_right _ (by omega)
    have h1 : ((Nat.gcd t.natAbs b.natAbs : Nat) : Int).natAbs = Nat.gcd t.natAbs b.natAbs := rfl
    rw [h1]
    have h2 := g_pos (t := t) h
    exact (Nat.log2_lt (by omega)).mpr (Nat.lt_of_le_of_lt l ((Nat.log2_lt (by omega)).mp hb))
  have e := euc_eq t b (b.natAbs + 1) t.natAbs b.natAbs (by omega)
  unfold euc at e
  simp only [F_u_law_lowest, g_u_law_lowest, mkF, startD, ap_Seq, back_ret, ap_Set, ap_SetF, ap_Call, ap_CB, ap_Cons, ap_Nil, ap_2, ap_C, ap_V, ap_VB, ap_Tup, ap_Lst, ap_If, ap_Not, ap_Nx, ap_Exp, ap_Par, ap_ParF, ap_Wh, ap_For, ap_IfS, ap_bN, ap_bT, ap_bC, ap_b0, ix0, ix1, gAdd_eq, gAddA_eq, gEqA_int, gEqA_int', ixA0, ixA1, gSub_eq, List.map_cons, List.map_nil, List.length_cons, List.length_nil, List.cons_append, List.nil_append, List.replicate, List.getElem?_cons_zero, List.getElem?_cons_succ, List.set_cons_zero, List.set_cons_succ, bind_s, Option.map_some, if_true, Nat.reduceAdd, Nat.reduceSub, Nat.reduceLeDiff, reduceIte, gAbs_eq, Int.natAbs_natCast]
  rw [e]
  simp only [mkF, startD, ap_Seq, back_ret, ap_Set, ap_SetF, ap_Call, ap_CB, ap_Cons, ap_Nil, ap_2, ap_C, ap_V, ap_VB, ap_Tup, ap_Lst, ap_If, ap_Not, ap_Nx, ap_Exp, ap_Par, ap_ParF, ap_Wh, ap_For, ap_IfS, ap_bN, ap_bT, ap_bC, ap_b0, ix0, ix1, gAdd_eq, gAddA_eq, gEqA_int, gEqA_int', ixA0, ixA1, gSub_eq, List.map_cons, List.map_nil, List.length_cons, List.length_nil, List.cons_append, List.nil_append, List.replicate, List.getElem?_cons_zero, List.getElem?_cons_succ, List.set_cons_zero, List.set_cons_succ, bind_s, Option.map_some, if_true, Nat.reduceAdd, Nat.reduceSub, Nat.reduceLeDiff, reduceIte, gGt_eq, decide_eq_true h, mDiv_eq hg sg]
  rfl
theorem F_lsum_eq {p q : Qp} {n m : Nat} (hp : Ok n p) (hq : Ok m q) (l : n + m ≤ 8000) : F_u_law_sum [qd p, qd q] = some (qd (qadd p q)) := by
  show F_u_law_sum [fr _ _, fr _ _] = _
  simp only [F_u_law_sum, g_u_law_sum, mkF, startD, ap_Seq, back_ret, ap_Set, ap_SetF, ap_Call, ap_CB, ap_Cons, ap_Nil, ap_2, ap_C, ap_V, ap_VB, ap_Tup, ap_Lst, ap_If, ap_Not, ap_Nx, ap_Exp, ap_Par, ap_ParF, ap_Wh, ap_For, ap_IfS, ap_bN, ap_bT, ap_bC, ap_b0, ix0, ix1, gAdd_eq, gAddA_eq, gEqA_int, gEqA_int', ixA0, ixA1, gSub_eq, List.map_cons, List.map_nil, List.length_cons, List.length_nil, List.cons_append, List.nil_append, List.replicate, List.getElem?_cons_zero, List.getElem?_cons_succ, List.set_cons_zero, List.set_cons_succ, bind_s, Option.map_some, if_true, Nat.reduceAdd, Nat.reduceSub, Nat.reduceLeDiff, reduceIte, mMulA_eq (sz_of hp.b1 (by omega)) (sz_of hq.b2 (by omega)), mMulA_eq (sz_of hq.b1 (by omega)) (sz_of hp.b2 (by omega)), mMulA_eq (sz_of hp.b2 (by omega)) (sz_of hq.b2 (by omega))]
  exact F_lowest_eq (Int.mul_pos hp.pos hq.pos) (sz_of (mulb hp.b2 hq.b2) l)
theorem F_lless_eq {p q : Qp} {n m : Nat} (hp : Ok n p) (hq : Ok m q) (l : n + m ≤ 8000) : F_u_law_less [qd p, qd q] = some (qd (qsub p q)) := by
  show F_u_law_less [fr _ _, fr _ _] = _
  simp only [F_u_law_less, g_u_law_less, mkF, startD, ap_Seq, back_ret, ap_Set, ap_SetF, ap_Call, ap_CB, ap_Cons, ap_Nil, ap_2, ap_C, ap_V, ap_VB, ap_Tup, ap_Lst, ap_If, ap_Not, ap_Nx, ap_Exp, ap_Par, ap_ParF, ap_Wh, ap_For, ap_IfS, ap_bN, ap_bT, ap_bC, ap_b0, ix0, ix1, gAdd_eq, gAddA_eq, gEqA_int, gEqA_int', ixA0, ixA1, gSub_eq, List.map_cons, List.map_nil, List.length_cons, List.length_nil, List.cons_append, List.nil_append, List.replicate, List.getElem?_cons_zero, List.getElem?_cons_succ, List.set_cons_zero, List.set_cons_succ, bind_s, Option.map_some, if_true, Nat.reduceAdd, Nat.reduceSub, Nat.reduceLeDiff, reduceIte, mMulA_eq (sz_of hp.b1 (by omega)) (sz_of hq.b2 (by omega)), mMulA_eq (sz_of hq.b1 (by omega)) (sz_of hp.b2 (by omega)), mMulA_eq (sz_of hp.b2 (by omega)) (sz_of hq.b2 (by omega))]
  exact F_lowest_eq (Int.mul_pos hp.pos hq.pos) (sz_of (mulb hp.b2 hq.b2) l)
theorem F_lproduct_eq {p q : Qp} {n m : Nat} (hp : Ok n p) (hq : Ok m q) (l : n + m ≤ 8000) : F_u_law_product [qd p, qd q] = some (qd (qmul p q)) := by
  show F_u_law_product [fr _ _, fr _ _] = _
  simp only [F_u_law_product, g_u_law_product, mkF, startD, ap_Seq, back_ret, ap_Set, ap_SetF, ap_Call, ap_CB, ap_Cons, ap_Nil, ap_2, ap_C, ap_V, ap_VB, ap_Tup, ap_Lst, ap_If, ap_Not, ap_Nx, ap_Exp, ap_Par, ap_ParF, ap_Wh, ap_For, ap_IfS, ap_bN, ap_bT, ap_bC, ap_b0, ix0, ix1, gAdd_eq, gAddA_eq, gEqA_int, gEqA_int', ixA0, ixA1, gSub_eq, List.map_cons, List.map_nil, List.length_cons, List.length_nil, List.cons_append, List.nil_append, List.replicate, List.getElem?_cons_zero, List.getElem?_cons_succ, List.set_cons_zero, List.set_cons_succ, bind_s, Option.map_some, if_true, Nat.reduceAdd, Nat.reduceSub, Nat.reduceLeDiff, reduceIte, mMulA_eq (sz_of hp.b1 (by omega)) (sz_of hq.b1 (by omega)), mMulA_eq (sz_of hp.b2 (by omega)) (sz_of hq.b2 (by omega))]
  exact F_lowest_eq (Int.mul_pos hp.pos hq.pos) (sz_of (mulb hp.b2 hq.b2) l)
end K04

set_option maxHeartbeats 2000000
namespace K04
open PySem PySem.Spec PyProof.Rows L2 DL
theorem ix_tup_map {α : Type} {f : α → D} {l : List α} {i : Nat} {x : α} (h : l[i]? = some x) : gIxA (.tup (l.map f)) (.int i) = some (f x) := ixA_tup_map h
theorem ix_lst_map {α : Type} {f : α → D} {l : List α} {i : Nat} {x : α} (h : l[i]? = some x) : gIxA (.lst (l.map f)) (.int i) = some (f x) := ixA_lst_map h
theorem has0 : ([0] : List Nat).contains 0 = true := rfl
/-! ### lists of them -/
theorem compL_map {b : D → DEnv → Option DEnv} {f : DE1} {ρ : DEnv} {h : D → D} : ∀ ds : List D, (∀ d ∈ ds, (b d ρ).bind f = some (h d)) → compL b (eC (.bl true)) f ρ ds = some (ds.map h)
  | [], _ => rfl
  | d :: ds, H => by
    have h1 := H d List.mem_cons_self
    have h2 := compL_map ds fun x hx => H x (List.mem_cons_of_mem _ hx)
    unfold compL
    cases e : b d ρ with
    | none => rw [e] at h1; cases h1
    | some ρ1 =>
      rw [e] at h1
      have h1 : f ρ1 = some (h d) := h1
      simp only [eC, h1, h2, Option.map_some, List.map_cons]
theorem eLc_map {it : DEnv → Option (List D)} {vs : List Nat} {b : D → DEnv → Option DEnv} {f : DE1} {ρ : DEnv} {ds : List D} (h : D → D) (hi : it ρ = some ds) (hl : ds.length ≤ 1000) (H : ∀ d ∈ ds, (b d (wipeD ρ vs)).bind f = some (h d)) :
    eLc it vs b (eC (.bl true)) f ρ = some (.lst (ds.map h)) := by
  unfold eLc
  rw [hi]
  simp only [hl, if_true, compL_map ds H, Option.map_some]
theorem foldl_ok {n : Nat} : ∀ (ps : List Qp) (m : Nat) (acc : Qp), (∀ p ∈ ps, Ok n p) → Ok m acc → Ok (m + ps.length * (n + 1)) (ps.foldl qadd acc)
  | [], m, acc, _, h => by simpa using h
  | p :: ps, m, acc, H, h => by
    have h1 := qadd_ok h (H p List.mem_cons_self)
    have := foldl_ok ps (m + n + 1) (qadd acc p) (fun x hx => H x (List.mem_cons_of_mem _ hx)) h1
    refine this.mono ?_
    rw [List.length_cons, Nat.succ_mul]
    omega
theorem total_loop (L : D) {n : Nat} : ∀ (ps : List Qp) (m : Nat) (acc : Qp) (sl : Slot), (∀ p ∈ ps, Ok n p) → Ok m acc → m + ps.length * (n + 1) + n ≤ 8000 →
    ∃ sl', forL (bN 2) (gSet 1 (eCall 2 (F_plus) (aCons (eV 1) (aCons (eV 2) aNil)))) (ps.map qd) [some (false, L), some (false, qd acc), sl] = .nx [some (false, L), some (false, qd (ps.foldl qadd acc)), sl']
  | [], m, acc, sl, _, _, _ => ⟨sl, rfl⟩
  | p :: ps, m, acc, sl, H, h, l => by
    rw [List.length_cons, Nat.succ_mul] at l
    have hp := H p List.mem_cons_self
    have h1 := F_plus_eq h hp (by omega)
    obtain ⟨sl', e⟩ := total_loop L ps (m + n + 1) (qadd acc p) (some (false, qd p)) (fun x hx => H x (List.mem_cons_of_mem _ hx)) (qadd_ok h hp) (by omega)
    refine ⟨sl', ?_⟩
    unfold forL
    simp only [mkF, startD, ap_Seq, back_ret, ap_Set, ap_SetF, ap_Call, ap_CB, ap_Cons, ap_Nil, ap_2, ap_C, ap_V, ap_VB, ap_Tup, ap_Lst, ap_If, ap_Not, ap_Nx, ap_Exp, ap_Par, ap_ParF, ap_Wh, ap_For, ap_IfS, ap_bN, ap_bT, ap_bC, ap_b0, ix0, ix1, gAdd_eq, gAddA_eq, gEqA_int, gEqA_int', ixA0, ixA1, gSub_eq, List.map_cons, List.map_nil, List.length_cons, List.length_nil, List.cons_append, List.nil_append, List.replicate, List.getElem?_cons_zero, List.getElem?_cons_succ, List.set_cons_zero, List.set_cons_succ, bind_s, Option.map_some, if_true, Nat.reduceAdd, Nat.reduceSub, Nat.reduceLeDiff, reduceIte, h1, e, List.foldl_cons]
theorem F_total_eq {n : Nat} (ps : List Qp) (H : ∀ p ∈ ps, Ok n p) (l : 1 + ps.length * (n + 1) + n ≤ 8000) : F_total [.lst (ps.map qd)] = some (qd (ps.foldl qadd (0, 1))) := by
  obtain ⟨sl', e⟩ := total_loop (.lst (ps.map qd)) ps 1 (0, 1) none H ⟨by decide, by decide, by decide, by decide⟩ l
  have e0 : (D.tup [.int 0, .int 1]) = qd (0, 1) := rfl
  simp only [F_total, g_total, mkF, startD, ap_Seq, back_ret, ap_Set, ap_SetF, ap_Call, ap_CB, ap_Cons, ap_Nil, ap_2, ap_C, ap_V, ap_VB, ap_Tup, ap_Lst, ap_If, ap_Not, ap_Nx, ap_Exp, ap_Par, ap_ParF, ap_Wh, ap_For, ap_IfS, ap_bN, ap_bT, ap_bC, ap_b0, ix0, ix1, gAdd_eq, gAddA_eq, gEqA_int, gEqA_int', ixA0, ixA1, gSub_eq, List.map_cons, List.map_nil, List.length_cons, List.length_nil, List.cons_append, List.nil_append, List.replicate, List.getElem?_cons_zero, List.getElem?_cons_succ, List.set_cons_zero, List.set_cons_succ, bind_s, Option.map_some, if_true, Nat.reduceAdd, Nat.reduceSub, Nat.reduceLeDiff, reduceIte, ap_iA, e0, e]
theorem zip_qd : ∀ ws as : List Qp, zipD (ws.map qd) (as.map qd) = (ws.zip as).map fun p => .tup [qd p.1, qd p.2]
  | [], _ => by cases ‹List Qp› <;> rfl
  | _ :: _, [] => rfl
  | w :: ws, a :: as => by
    show D.tup [qd w, qd a] :: zipD (ws.map qd) (as.map qd) = _
    rw [zip_qd ws as]
    rfl
def dotQ (ws as : List Qp) : Qp := ((ws.zip as).map fun p => qmul p.1 p.2).foldl qadd (0, 1)
theorem zip_ok {n m : Nat} {ws as : List Qp} (hw : ∀ p ∈ ws, Ok n p) (ha : ∀ p ∈ as, Ok m p) : ∀ p ∈ (ws.zip as).map (fun p => qmul p.1 p.2), Ok (n + m) p := fun p hp => by
  obtain ⟨⟨x, y⟩, hxy, rfl⟩ := List.mem_map.mp hp
  have := List.of_mem_zip hxy
  exact qmul_ok (hw x this.1) (ha y this.2)
theorem dotQ_ok {ws as : List Qp} (hw : ∀ p ∈ ws, Ok 10 p) (ha : ∀ p ∈ as, Ok 10 p) (l : ws.length ≤ 4) : Ok 85 (dotQ ws as) := by
  have := foldl_ok ((ws.zip as).map fun p => qmul p.1 p.2) 1 (0, 1) (zip_ok hw ha) ⟨by decide, by decide, by decide, by decide⟩
  refine this.mono ?_
  rw [List.length_map, List.length_zip]
  have : min ws.length as.length * (10 + 10 + 1) ≤ 4 * 21 := Nat.mul_le_mul (by omega) (by omega)
  omega
theorem F_weighted_eq {ws as : List Qp} {A : D} (hA : seqD A = some (as.map qd)) (hw : ∀ p ∈ ws, Ok 10 p) (ha : ∀ p ∈ as, Ok 10 p) (l : ws.length ≤ 4) : F_weighted [.lst (ws.map qd), A] = some (qd (dotQ ws as)) := by
  have hl : ((ws.zip as).map fun p => qmul p.1 p.2).length ≤ 4 := by rw [List.length_map, List.length_zip]; omega
  have e1 : eLc (iZX (eV 0) (eV 1)) ([(Str.ofString "weight", 2), (Str.ofString "amount", 3)].map (·.2)) (bT (bCons (bN 2) (bCons (bN 3) bNil))) (eC (.bl true)) (eCall 2 (F_times) (aCons (eV 2) (aCons (eV 3) aNil))) [some (false, .lst (ws.map qd)), some (false, A), none, none]
      = some (.lst (((ws.zip as).map fun p => qmul p.1 p.2).map qd)) := by
    have hi : iZX (eV 0) (eV 1) [some (false, .lst (ws.map qd)), some (false, A), none, none] = some ((ws.zip as).map fun p => .tup [qd p.1, qd p.2]) := by
      simp only [ap_iZX, mkF, startD, ap_Seq, back_ret, ap_Set, ap_SetF, ap_Call, ap_CB, ap_Cons, ap_Nil, ap_2, ap_C, ap_V, ap_VB, ap_Tup, ap_Lst, ap_If, ap_Not, ap_Nx, ap_Exp, ap_Par, ap_ParF, ap_Wh, ap_For, ap_IfS, ap_bN, ap_bT, ap_bC, ap_b0, ix0, ix1, gAdd_eq, gAddA_eq, gEqA_int, gEqA_int', ixA0, ixA1, gSub_eq, List.map_cons, List.map_nil, List.length_cons, List.length_nil, List.cons_append, List.nil_append, List.replicate, List.getElem?_cons_zero, List.getElem?_cons_succ, List.set_cons_zero, List.set_cons_succ, bind_s, Option.map_some, if_true, Nat.reduceAdd, Nat.reduceSub, Nat.reduceLeDiff, reduceIte, hA]
      show some (zipD (ws.map qd) (as.map qd)) = _
      rw [zip_qd]
    unfold eLc
    rw [hi]
    simp only [List.length_map, List.length_zip, show min ws.length as.length ≤ 1000 by omega, if_true]
    have : ∀ zs : List (Qp × Qp), (∀ z ∈ zs, z.1 ∈ ws ∧ z.2 ∈ as) → compL (bT (bCons (bN 2) (bCons (bN 3) bNil))) (eC (.bl true)) (eCall 2 (F_times) (aCons (eV 2) (aCons (eV 3) aNil))) (wipeD [some (false, .lst (ws.map qd)), some (false, A), none, none] [2, 3]) (zs.map fun p => .tup [qd p.1, qd p.2])
        = some ((zs.map fun p => qmul p.1 p.2).map qd) := by
      intro zs
      induction zs with
      | nil => intro _; rfl
      | cons z zs ih =>
        intro H
        have hz := H z List.mem_cons_self
        have e := F_times_eq (hw z.1 hz.1) (ha z.2 hz.2) (by omega)
        have e2 := ih fun x hx => H x (List.mem_cons_of_mem _ hx)
        simp only [wipeD, List.set_cons_succ, List.set_cons_zero] at e2
        simp only [List.map_cons, compL, wipeD, mkF, startD, ap_Seq, back_ret, ap_Set, ap_SetF, ap_Call, ap_CB, ap_Cons, ap_Nil, ap_2, ap_C, ap_V, ap_VB, ap_Tup, ap_Lst, ap_If, ap_Not, ap_Nx, ap_Exp, ap_Par, ap_ParF, ap_Wh, ap_For, ap_IfS, ap_bN, ap_bT, ap_bC, ap_b0, ix0, ix1, gAdd_eq, gAddA_eq, gEqA_int, gEqA_int', ixA0, ixA1, gSub_eq, List.map_cons, List.map_nil, List.length_cons, List.length_nil, List.cons_append, List.nil_append, List.replicate, List.getElem?_cons_zero, List.getElem?_cons_succ, List.set_cons_zero, List.set_cons_succ, bind_s, Option.map_some, if_true, Nat.reduceAdd, Nat.reduceSub, Nat.reduceLeDiff, reduceIte, e]
        rw [e2]
        rfl
    have e2 := this (ws.zip as) fun z hz => List.of_mem_zip hz
    simp only [List.map_cons, List.map_nil] at e2 ⊢
    rw [e2]
    try rfl
  have e2 := F_total_eq (n := 20) ((ws.zip as).map fun p => qmul p.1 p.2) (zip_ok hw ha) (by
    have : ((ws.zip as).map fun p => qmul p.1 p.2).length * (20 + 1) ≤ 4 * 21 := Nat.mul_le_mul hl (by omega)
    omega)
  have e1' := e1
  simp only [List.map_cons, List.map_nil] at e1'
  simp only [F_weighted, g_weighted, mkF, startD, ap_Seq, back_ret, ap_Set, ap_SetF, ap_Call, ap_CB, ap_Cons, ap_Nil, ap_2, ap_C, ap_V, ap_VB, ap_Tup, ap_Lst, ap_If, ap_Not, ap_Nx, ap_Exp, ap_Par, ap_ParF, ap_Wh, ap_For, ap_IfS, ap_bN, ap_bT, ap_bC, ap_b0, ix0, ix1, gAdd_eq, gAddA_eq, gEqA_int, gEqA_int', ixA0, ixA1, gSub_eq, List.map_cons, List.map_nil, List.length_cons, List.length_nil, List.cons_append, List.nil_append, List.replicate, List.getElem?_cons_zero, List.getElem?_cons_succ, List.set_cons_zero, List.set_cons_succ, bind_s, Option.map_some, if_true, Nat.reduceAdd, Nat.reduceSub, Nat.reduceLeDiff, reduceIte, e1', e2]
  rfl
theorem dot_loop (L A : D) : ∀ (zs : List (Qp × Qp)) (m : Nat) (acc : Qp) (s3 s4 : Slot), (∀ z ∈ zs, Ok 10 z.1 ∧ Ok 10 z.2) → Ok m acc → m + zs.length * 21 + 20 ≤ 8000 →
    ∃ s3' s4', forL (bT (bCons (bN 3) (bCons (bN 4) bNil))) (gSet 2 (eCall 2 (F_u_law_sum) (aCons (eV 2) (aCons (eCall 2 (F_u_law_product) (aCons (eV 3) (aCons (eV 4) aNil))) aNil)))) (zs.map fun p => .tup [qd p.1, qd p.2]) [some (false, L), some (false, A), some (false, qd acc), s3, s4]
      = .nx [some (false, L), some (false, A), some (false, qd ((zs.map fun p => qmul p.1 p.2).foldl qadd acc)), s3', s4']
  | [], m, acc, s3, s4, _, _, _ => ⟨s3, s4, rfl⟩
  | z :: zs, m, acc, s3, s4, H, h, l => by
    rw [List.length_cons, Nat.succ_mul] at l
    have hz := H z List.mem_cons_self
    have h0 := F_lproduct_eq hz.1 hz.2 (by omega)
    have hk := qmul_ok hz.1 hz.2
    have h1 := F_lsum_eq h hk (by omega)
    obtain ⟨s3', s4', e⟩ := dot_loop L A zs (m + 20 + 1) (qadd acc (qmul z.1 z.2)) (some (false, qd z.1)) (some (false, qd z.2)) (fun x hx => H x (List.mem_cons_of_mem _ hx)) (qadd_ok h hk) (by omega)
    refine ⟨s3', s4', ?_⟩
    unfold forL
    simp only [mkF, startD, ap_Seq, back_ret, ap_Set, ap_SetF, ap_Call, ap_CB, ap_Cons, ap_Nil, ap_2, ap_C, ap_V, ap_VB, ap_Tup, ap_Lst, ap_If, ap_Not, ap_Nx, ap_Exp, ap_Par, ap_ParF, ap_Wh, ap_For, ap_IfS, ap_bN, ap_bT, ap_bC, ap_b0, ix0, ix1, gAdd_eq, gAddA_eq, gEqA_int, gEqA_int', ixA0, ixA1, gSub_eq, List.map_cons, List.map_nil, List.length_cons, List.length_nil, List.cons_append, List.nil_append, List.replicate, List.getElem?_cons_zero, List.getElem?_cons_succ, List.set_cons_zero, List.set_cons_succ, bind_s, Option.map_some, if_true, Nat.reduceAdd, Nat.reduceSub, Nat.reduceLeDiff, reduceIte, h0, h1, e, List.foldl_cons]
theorem F_dot_eq {ws as : List Qp} {A : D} (hA : seqD A = some (as.map qd)) (hw : ∀ p ∈ ws, Ok 10 p) (ha : ∀ p ∈ as, Ok 10 p) (l : ws.length ≤ 4) : F_u_law_dot [.lst (ws.map qd), A] = some (qd (dotQ ws as)) := by
  have hi : iZX (eV 0) (eV 1) [some (false, .lst (ws.map qd)), some (false, A), some (false, qd (0, 1)), none, none] = some ((ws.zip as).map fun p => .tup [qd p.1, qd p.2]) := by
    simp only [ap_iZX, mkF, startD, ap_Seq, back_ret, ap_Set, ap_SetF, ap_Call, ap_CB, ap_Cons, ap_Nil, ap_2, ap_C, ap_V, ap_VB, ap_Tup, ap_Lst, ap_If, ap_Not, ap_Nx, ap_Exp, ap_Par, ap_ParF, ap_Wh, ap_For, ap_IfS, ap_bN, ap_bT, ap_bC, ap_b0, ix0, ix1, gAdd_eq, gAddA_eq, gEqA_int, gEqA_int', ixA0, ixA1, gSub_eq, List.map_cons, List.map_nil, List.length_cons, List.length_nil, List.cons_append, List.nil_append, List.replicate, List.getElem?_cons_zero, List.getElem?_cons_succ, List.set_cons_zero, List.set_cons_succ, bind_s, Option.map_some, if_true, Nat.reduceAdd, Nat.reduceSub, Nat.reduceLeDiff, reduceIte, hA]
    show some (zipD (ws.map qd) (as.map qd)) = _
    rw [zip_qd]
  obtain ⟨s3', s4', e⟩ := dot_loop (.lst (ws.map qd)) A (ws.zip as) 1 (0, 1) none none (fun z hz => ⟨hw _ (List.of_mem_zip hz).1, ha _ (List.of_mem_zip hz).2⟩) ⟨by decide, by decide, by decide, by decide⟩ (by
    have : (ws.zip as).length * 21 ≤ 4 * 21 := Nat.mul_le_mul (by rw [List.length_zip]; omega) (by omega)
    omega)
  have e0 : (D.tup [.int 0, .int 1]) = qd (0, 1) := rfl
  simp only [F_u_law_dot, g_u_law_dot, mkF, startD, ap_Seq, back_ret, ap_Set, ap_SetF, ap_Call, ap_CB, ap_Cons, ap_Nil, ap_2, ap_C, ap_V, ap_VB, ap_Tup, ap_Lst, ap_If, ap_Not, ap_Nx, ap_Exp, ap_Par, ap_ParF, ap_Wh, ap_For, ap_IfS, ap_bN, ap_bT, ap_bC, ap_b0, ix0, ix1, gAdd_eq, gAddA_eq, gEqA_int, gEqA_int', ixA0, ixA1, gSub_eq, List.map_cons, List.map_nil, List.length_cons, List.length_nil, List.cons_append, List.nil_append, List.replicate, List.getElem?_cons_zero, List.getElem?_cons_succ, List.set_cons_zero, List.set_cons_succ, bind_s, Option.map_some, if_true, Nat.reduceAdd, Nat.reduceSub, Nat.reduceLeDiff, reduceIte, Nat.reduceLeDiff, if_true, e0, hi, e]
  rfl
/-! ### jobs -/
def wkD (p : Int × List Int) : D := .tup [.int p.1, .tup (p.2.map .int)]
def wsD (ws : List Int) : D := .tup (ws.map .int)
def wksD (wk : List (Int × List Int)) : D := .tup (wk.map wkD)
def jobD (ws : List Int) (wk : List (Int × List Int)) : D := .ins 0 [(Str.ofString "_worths", wsD ws), (Str.ofString "_works", wksD wk)]
def packD (ws : List Int) (wk : List (Int × List Int)) : D := .tup [wsD ws, wksD wk]
structure WkOk (n : Nat) (p : Int × List Int) : Prop where
  e0 : 0 ≤ p.1
  e1 : p.1 ≤ 9
  len : p.2.length = n
  part : ∀ x ∈ p.2, 0 ≤ x ∧ x ≤ 6
  sum : 0 < p.2.sum
structure Valid (ws : List Int) (wk : List (Int × List Int)) : Prop where
  l1 : 2 ≤ ws.length
  l2 : ws.length ≤ 4
  w : ∀ x ∈ ws, 0 ≤ x ∧ x ≤ 20
  k1 : 2 ≤ wk.length
  k2 : wk.length ≤ 4
  k : ∀ p ∈ wk, WkOk ws.length p
theorem blsOf_map : ∀ l : List Bool, blsOf (l.map D.bl) = some l
  | [] => rfl
  | x :: l => by simp only [List.map_cons, blsOf, blsOf_map l, Option.map_some]
theorem sum_le {n : Int} (hn : 0 ≤ n) : ∀ l : List Int, (∀ x ∈ l, 0 ≤ x ∧ x ≤ n) → 0 ≤ l.sum ∧ l.sum ≤ l.length * n
  | [], _ => by simp
  | x :: l, h => by
    have h1 := h x List.mem_cons_self
    have h2 := sum_le hn l fun y hy => h y (List.mem_cons_of_mem _ hy)
    rw [List.sum_cons, List.length_cons]
    have : ((l.length + 1 : Nat) : Int) * n = l.length * n + n := by rw [Int.natCast_succ, Int.add_mul, Int.one_mul]
    omega
def chQ (parts : List Int) : List Qp := parts.map fun p => low p parts.sum
theorem WkOk.sumb {n : Nat} {p : Int × List Int} (h : WkOk n p) (l : n ≤ 4) : p.2.sum ≤ 24 := by
  have := (sum_le (by decide) p.2 h.part).2
  have : ((p.2.length : Nat) : Int) * 6 ≤ 4 * 6 := by have := h.len; omega
  omega
theorem chQ_ok {n : Nat} {p : Int × List Int} (h : WkOk n p) (l : n ≤ 4) : ∀ q ∈ chQ p.2, Ok 10 q := fun q hq => by
  obtain ⟨x, hx, rfl⟩ := List.mem_map.mp hq
  have h1 := h.part x hx
  have h2 := h.sumb l
  have h3 := h.sum
  exact low_ok h.sum (by omega) (by omega)
theorem low_map {n : Nat} {p : Int × List Int} (h : WkOk n p) (l : n ≤ 4) (x : Int) : F_ratio [.int x, .int p.2.sum] = some (qd (low x p.2.sum)) ∧ F_u_law_lowest [.int x, .int p.2.sum] = some (qd (low x p.2.sum)) := by
  have h2 := h.sumb l
  have h3 := h.sum
  have : sz p.2.sum = true := sz_of (n := 10) (by omega) (by omega)
  exact ⟨F_ratio_eq h3 this, F_lowest_eq h3 this⟩
theorem lkW (a b : D) : List.lookup (Str.ofString "_worths") [(Str.ofString "_worths", a), (Str.ofString "_works", b)] = some a := by
  have : ((Str.ofString "_worths") == (Str.ofString "_worths")) = true := by decide +kernel
  rw [List.lookup_cons, this]
theorem lkK (a b : D) : List.lookup (Str.ofString "_works") [(Str.ofString "_worths", a), (Str.ofString "_works", b)] = some b := by
  have : ((Str.ofString "_works") == (Str.ofString "_worths")) = false := by decide +kernel
  have h2 : ((Str.ofString "_works") == (Str.ofString "_works")) = true := by decide +kernel
  rw [List.lookup_cons, this]
  show List.lookup _ _ = _
  rw [List.lookup_cons, h2]
theorem F_worths_eq (ws : List Int) (wk : List (Int × List Int)) : F_Job_worths [jobD ws wk] = some (wsD ws) := by
  simp only [F_Job_worths, g_Job_worths, mkF, startD, ap_Seq, back_ret, ap_Set, ap_SetF, ap_Call, ap_CB, ap_Cons, ap_Nil, ap_2, ap_C, ap_V, ap_VB, ap_Tup, ap_Lst, ap_If, ap_Not, ap_Nx, ap_Exp, ap_Par, ap_ParF, ap_Wh, ap_For, ap_IfS, ap_bN, ap_bT, ap_bC, ap_b0, ix0, ix1, gAdd_eq, gAddA_eq, gEqA_int, gEqA_int', ixA0, ixA1, gSub_eq, List.map_cons, List.map_nil, List.length_cons, List.length_nil, List.cons_append, List.nil_append, List.replicate, List.getElem?_cons_zero, List.getElem?_cons_succ, List.set_cons_zero, List.set_cons_succ, bind_s, Option.map_some, if_true, Nat.reduceAdd, Nat.reduceSub, Nat.reduceLeDiff, reduceIte, ap_Fld, jobD, lkW, has0, if_true]
theorem F_works_eq (ws : List Int) (wk : List (Int × List Int)) : F_Job_works [jobD ws wk] = some (wksD wk) := by
  simp only [F_Job_works, g_Job_works, mkF, startD, ap_Seq, back_ret, ap_Set, ap_SetF, ap_Call, ap_CB, ap_Cons, ap_Nil, ap_2, ap_C, ap_V, ap_VB, ap_Tup, ap_Lst, ap_If, ap_Not, ap_Nx, ap_Exp, ap_Par, ap_ParF, ap_Wh, ap_For, ap_IfS, ap_bN, ap_bT, ap_bC, ap_b0, ix0, ix1, gAdd_eq, gAddA_eq, gEqA_int, gEqA_int', ixA0, ixA1, gSub_eq, List.map_cons, List.map_nil, List.length_cons, List.length_nil, List.cons_append, List.nil_append, List.replicate, List.getElem?_cons_zero, List.getElem?_cons_succ, List.set_cons_zero, List.set_cons_succ, bind_s, Option.map_some, if_true, Nat.reduceAdd, Nat.reduceSub, Nat.reduceLeDiff, reduceIte, ap_Fld, jobD, lkK, has0, if_true]
theorem F_len_eq (ws : List Int) (wk : List (Int × List Int)) : F_JobD_lenD [jobD ws wk] = some (.int wk.length) := by
  simp only [F_JobD_lenD, g_JobD_lenD, mkF, startD, ap_Seq, back_ret, ap_Set, ap_SetF, ap_Call, ap_CB, ap_Cons, ap_Nil, ap_2, ap_C, ap_V, ap_VB, ap_Tup, ap_Lst, ap_If, ap_Not, ap_Nx, ap_Exp, ap_Par, ap_ParF, ap_Wh, ap_For, ap_IfS, ap_bN, ap_bT, ap_bC, ap_b0, ix0, ix1, gAdd_eq, gAddA_eq, gEqA_int, gEqA_int', ixA0, ixA1, gSub_eq, List.map_cons, List.map_nil, List.length_cons, List.length_nil, List.cons_append, List.nil_append, List.replicate, List.getElem?_cons_zero, List.getElem?_cons_succ, List.set_cons_zero, List.set_cons_succ, bind_s, Option.map_some, if_true, Nat.reduceAdd, Nat.reduceSub, Nat.reduceLeDiff, reduceIte, ap_Fld, jobD, lkK, wksD, has0, if_true, gLenA_tup, List.length_map]
theorem len_job {ws : List Int} {wk : List (Int × List Int)} (V : Valid ws wk) : (gLen [jobD ws wk]).or (gLenO 0 (F_JobD_lenD) [jobD ws wk]) = some (.int wk.length) := by
  have h := V.k2
  have e := F_len_eq ws wk
  have e0 : gLen [jobD ws wk] = none := rfl
  rw [e0, Option.none_or]
  unfold jobD at e
  unfold jobD gLenO
  simp only [if_true, e]
  rw [if_pos ⟨by omega, by omega⟩]
theorem prop_works (ws : List Int) (wk : List (Int × List Int)) (f : DE1) (ρ : DEnv) (h : f ρ = some (jobD ws wk)) : eProp 0 (F_Job_works) f ρ = some (wksD wk) := by
  have e := F_works_eq ws wk
  unfold eProp
  rw [h]
  unfold jobD at e ⊢
  simp only [if_true, e]
theorem prop_worths (ws : List Int) (wk : List (Int × List Int)) (f : DE1) (ρ : DEnv) (h : f ρ = some (jobD ws wk)) : eProp 0 (F_Job_worths) f ρ = some (wsD ws) := by
  have e := F_worths_eq ws wk
  unfold eProp
  rw [h]
  unfold jobD at e ⊢
  simp only [if_true, e]
theorem ix_wk0 (p : Int × List Int) : gIxA (wkD p) (.int 0) = some (.int p.1) := rfl
theorem ix_wk1 (p : Int × List Int) : gIxA (wkD p) (.int 1) = some (.tup (p.2.map .int)) := rfl
theorem ix_pk0 (ws : List Int) (wk : List (Int × List Int)) : gIxA (packD ws wk) (.int 0) = some (wsD ws) := rfl
theorem ix_pk1 (ws : List Int) (wk : List (Int × List Int)) : gIxA (packD ws wk) (.int 1) = some (wksD wk) := rfl
theorem gSum_tup (l : List Int) : gSum [.tup (l.map .int)] = some (.int l.sum) := by
  show (intsOf _).map _ = _
  rw [intsOf_map]
  rfl
theorem F_chances_eq {ws : List Int} {wk : List (Int × List Int)} (V : Valid ws wk) {i : Nat} {p : Int × List Int} (hp : wk[i]? = some p) : F_work_chances [jobD ws wk, .int i] = some (.lst ((chQ p.2).map qd)) := by
  have hk := V.k p (List.mem_of_getElem? hp)
  have e1 : eProp 0 (F_Job_works) (eV 0) [some (false, jobD ws wk), some (false, .int i), none, none] = some (wksD wk) := prop_works ws wk _ _ rfl
  have eW : gIxA (wksD wk) (.int i) = some (wkD p) := ix_tup_map hp
  have e3 := eLc_map (it := iA (eV 2)) (vs := [3]) (b := bN 3) (f := eCall 2 (F_ratio) (aCons (eV 3) (aCons (eCB gSum (aCons (eVB 2) aNil)) aNil))) (ρ := [some (false, jobD ws wk), some (false, .int i), some (false, .tup (p.2.map .int)), none]) (ds := p.2.map .int) (fun d => match d with | .int x => qd (low x p.2.sum) | _ => .non) rfl (by
      rw [List.length_map, hk.len]; have := V.l2; omega) (fun d hd => by
      obtain ⟨x, hx, rfl⟩ := List.mem_map.mp hd
      simp only [wipeD, mkF, startD, ap_Seq, back_ret, ap_Set, ap_SetF, ap_Call, ap_CB, ap_Cons, ap_Nil, ap_2, ap_C, ap_V, ap_VB, ap_Tup, ap_Lst, ap_If, ap_Not, ap_Nx, ap_Exp, ap_Par, ap_ParF, ap_Wh, ap_For, ap_IfS, ap_bN, ap_bT, ap_bC, ap_b0, ix0, ix1, gAdd_eq, gAddA_eq, gEqA_int, gEqA_int', ixA0, ixA1, gSub_eq, List.map_cons, List.map_nil, List.length_cons, List.length_nil, List.cons_append, List.nil_append, List.replicate, List.getElem?_cons_zero, List.getElem?_cons_succ, List.set_cons_zero, List.set_cons_succ, bind_s, Option.map_some, if_true, Nat.reduceAdd, Nat.reduceSub, Nat.reduceLeDiff, reduceIte, gSum_tup, (low_map hk V.l2 x).1])
  simp only [F_work_chances, g_work_chances, mkF, startD, ap_Seq, back_ret, ap_Set, ap_SetF, ap_Call, ap_CB, ap_Cons, ap_Nil, ap_2, ap_C, ap_V, ap_VB, ap_Tup, ap_Lst, ap_If, ap_Not, ap_Nx, ap_Exp, ap_Par, ap_ParF, ap_Wh, ap_For, ap_IfS, ap_bN, ap_bT, ap_bC, ap_b0, ix0, ix1, gAdd_eq, gAddA_eq, gEqA_int, gEqA_int', ixA0, ixA1, gSub_eq, List.map_cons, List.map_nil, List.length_cons, List.length_nil, List.cons_append, List.nil_append, List.replicate, List.getElem?_cons_zero, List.getElem?_cons_succ, List.set_cons_zero, List.set_cons_succ, bind_s, Option.map_some, if_true, Nat.reduceAdd, Nat.reduceSub, Nat.reduceLeDiff, reduceIte, e1, eW, ix_wk1]
  simp only [List.map_map] at e3
  refine e3.trans ?_
  simp only [chQ, List.map_map]
  rfl
theorem F_lchances_eq {ws : List Int} {wk : List (Int × List Int)} (V : Valid ws wk) {i : Nat} {p : Int × List Int} (hp : wk[i]? = some p) : F_u_law_chances [packD ws wk, .int i] = some (.lst ((chQ p.2).map qd)) := by
  have hk := V.k p (List.mem_of_getElem? hp)
  have eW : gIxA (wksD wk) (.int i) = some (wkD p) := ix_tup_map hp
  have e3 := eLc_map (it := iA (eV 2)) (vs := [3]) (b := bN 3) (f := eCall 2 (F_u_law_lowest) (aCons (eV 3) (aCons (eCB gSum (aCons (eVB 2) aNil)) aNil))) (ρ := [some (false, packD ws wk), some (false, .int i), some (false, .tup (p.2.map .int)), none]) (ds := p.2.map .int) (fun d => match d with | .int x => qd (low x p.2.sum) | _ => .non) rfl (by
      rw [List.length_map, hk.len]; have := V.l2; omega) (fun d hd => by
      obtain ⟨x, hx, rfl⟩ := List.mem_map.mp hd
      simp only [wipeD, mkF, startD, ap_Seq, back_ret, ap_Set, ap_SetF, ap_Call, ap_CB, ap_Cons, ap_Nil, ap_2, ap_C, ap_V, ap_VB, ap_Tup, ap_Lst, ap_If, ap_Not, ap_Nx, ap_Exp, ap_Par, ap_ParF, ap_Wh, ap_For, ap_IfS, ap_bN, ap_bT, ap_bC, ap_b0, ix0, ix1, gAdd_eq, gAddA_eq, gEqA_int, gEqA_int', ixA0, ixA1, gSub_eq, List.map_cons, List.map_nil, List.length_cons, List.length_nil, List.cons_append, List.nil_append, List.replicate, List.getElem?_cons_zero, List.getElem?_cons_succ, List.set_cons_zero, List.set_cons_succ, bind_s, Option.map_some, if_true, Nat.reduceAdd, Nat.reduceSub, Nat.reduceLeDiff, reduceIte, gSum_tup, (low_map hk V.l2 x).2])
  simp only [F_u_law_chances, g_u_law_chances, mkF, startD, ap_Seq, back_ret, ap_Set, ap_SetF, ap_Call, ap_CB, ap_Cons, ap_Nil, ap_2, ap_C, ap_V, ap_VB, ap_Tup, ap_Lst, ap_If, ap_Not, ap_Nx, ap_Exp, ap_Par, ap_ParF, ap_Wh, ap_For, ap_IfS, ap_bN, ap_bT, ap_bC, ap_b0, ix0, ix1, gAdd_eq, gAddA_eq, gEqA_int, gEqA_int', ixA0, ixA1, gSub_eq, List.map_cons, List.map_nil, List.length_cons, List.length_nil, List.cons_append, List.nil_append, List.replicate, List.getElem?_cons_zero, List.getElem?_cons_succ, List.set_cons_zero, List.set_cons_succ, bind_s, Option.map_some, if_true, Nat.reduceAdd, Nat.reduceSub, Nat.reduceLeDiff, reduceIte, ix_pk1, eW, ix_wk1]
  simp only [List.map_map] at e3
  refine e3.trans ?_
  simp only [chQ, List.map_map]
  rfl
end K04

set_option maxHeartbeats 2000000
namespace K04
open PySem PySem.Spec PyProof.Rows L2 DL
/-! ### what is checked -/
theorem kit1 : kitB "int" "int" = some true := by decide +kernel
theorem kit2 : kitB "int" "bool" = some false := by decide +kernel
theorem kit3 : kitB "tuple" "tuple" = some true := by decide +kernel
theorem isi_int (i : Int) : gIsi "int" (.int i) = some (.bl true) := by show (kitB "int" "int").map _ = _; rw [kit1]; rfl
theorem isi_bool (i : Int) : gIsi "bool" (.int i) = some (.bl false) := by show (kitB "int" "bool").map _ = _; rw [kit2]; rfl
theorem isi_tup (l : List D) : gIsi "tuple" (.tup l) = some (.bl true) := by show (kitB "tuple" "tuple").map _ = _; rw [kit3]; rfl
theorem F_isint (i : Int) : F_is_integer [.int i] = some (.bl true) := by
  simp only [F_is_integer, g_is_integer, mkF, startD, ap_Seq, back_ret, ap_Set, ap_SetF, ap_Call, ap_CB, ap_Cons, ap_Nil, ap_2, ap_C, ap_V, ap_VB, ap_Tup, ap_Lst, ap_If, ap_Not, ap_Nx, ap_Exp, ap_Par, ap_ParF, ap_Wh, ap_For, ap_IfS, ap_bN, ap_bT, ap_bC, ap_b0, ix0, ix1, gAdd_eq, gAddA_eq, gEqA_int, gEqA_int', ixA0, ixA1, gSub_eq, List.map_cons, List.map_nil, List.length_cons, List.length_nil, List.cons_append, List.nil_append, List.replicate, List.getElem?_cons_zero, List.getElem?_cons_succ, List.set_cons_zero, List.set_cons_succ, bind_s, Option.map_some, if_true, Nat.reduceAdd, Nat.reduceSub, Nat.reduceLeDiff, reduceIte, ap_And, ap_Isi, isi_int, isi_bool, Bool.not_false]
theorem F_within {i a b : Int} (h : a ≤ i ∧ i ≤ b) : F_is_integer_within [.int i, .int a, .int b] = some (.bl true) := by
  simp only [F_is_integer_within, g_is_integer_within, mkF, startD, ap_Seq, back_ret, ap_Set, ap_SetF, ap_Call, ap_CB, ap_Cons, ap_Nil, ap_2, ap_C, ap_V, ap_VB, ap_Tup, ap_Lst, ap_If, ap_Not, ap_Nx, ap_Exp, ap_Par, ap_ParF, ap_Wh, ap_For, ap_IfS, ap_bN, ap_bT, ap_bC, ap_b0, ix0, ix1, gAdd_eq, gAddA_eq, gEqA_int, gEqA_int', ixA0, ixA1, gSub_eq, List.map_cons, List.map_nil, List.length_cons, List.length_nil, List.cons_append, List.nil_append, List.replicate, List.getElem?_cons_zero, List.getElem?_cons_succ, List.set_cons_zero, List.set_cons_succ, bind_s, Option.map_some, if_true, Nat.reduceAdd, Nat.reduceSub, Nat.reduceLeDiff, reduceIte, ap_And, ap_Ch, F_isint, gLe_eq, decide_eq_true h.1, decide_eq_true h.2]
theorem eqD_gcd {p : Qp} {n : Nat} (h : Ok n p) : (p.1.natAbs.gcd p.2.natAbs : Nat) = 1 := h.cop
theorem ge1 {p : Qp} {n : Nat} (h : Ok n p) : decide ((1 : Int) ≤ p.2) = true := decide_eq_true h.pos
theorem F_isfrac {p : Qp} {n : Nat} (h : Ok n p) : F_is_fraction [qd p] = some (.bl true) := by
  have e0 : gIsi "tuple" (qd p) = some (.bl true) := isi_tup _
  have e1 : gLenA [qd p] = some (.int 2) := rfl
  have e2 : bT (bCons (bN 1) (bCons (bN 2) bNil)) (qd p) [some (false, qd p), none, none] = some [some (false, qd p), some (false, .int p.1), some (false, .int p.2)] := rfl
  have e3 : gEqA true (.int 2) (.int 2) = some (.bl false) := rfl
  have e4 : gEqA false (.int ((p.1.natAbs.gcd p.2.natAbs : Nat) : Int)) (.int 1) = some (.bl true) := by rw [h.cop]; rfl
  simp only [F_is_fraction, g_is_fraction, mkF, startD, ap_Seq, back_ret, ap_Set, ap_SetF, ap_Call, ap_CB, ap_Cons, ap_Nil, ap_2, ap_C, ap_V, ap_VB, ap_Tup, ap_Lst, ap_If, ap_Not, ap_Nx, ap_Exp, ap_Par, ap_ParF, ap_Wh, ap_For, ap_IfS, ap_bN, ap_bT, ap_bC, ap_b0, ix0, ix1, gAdd_eq, gAddA_eq, gEqA_int, gEqA_int', ixA0, ixA1, gSub_eq, List.map_cons, List.map_nil, List.length_cons, List.length_nil, List.cons_append, List.nil_append, List.replicate, List.getElem?_cons_zero, List.getElem?_cons_succ, List.set_cons_zero, List.set_cons_succ, bind_s, Option.map_some, if_true, Nat.reduceAdd, Nat.reduceSub, Nat.reduceLeDiff, reduceIte, ap_And, ap_Or, ap_Isi, ap_Asg, e0, e1, e2, e3, F_isint, Bool.not_true, gGe_eq, ge1 h, gGcd_eq, e4]
theorem F_isamt {p : Qp} {n : Nat} (h : Ok n p) (h0 : 0 ≤ p.1) : F_is_amount [qd p] = some (.bl true) := by
  have e1 : gIxA (qd p) (.int 0) = some (.int p.1) := rfl
  simp only [F_is_amount, g_is_amount, mkF, startD, ap_Seq, back_ret, ap_Set, ap_SetF, ap_Call, ap_CB, ap_Cons, ap_Nil, ap_2, ap_C, ap_V, ap_VB, ap_Tup, ap_Lst, ap_If, ap_Not, ap_Nx, ap_Exp, ap_Par, ap_ParF, ap_Wh, ap_For, ap_IfS, ap_bN, ap_bT, ap_bC, ap_b0, ix0, ix1, gAdd_eq, gAddA_eq, gEqA_int, gEqA_int', ixA0, ixA1, gSub_eq, List.map_cons, List.map_nil, List.length_cons, List.length_nil, List.cons_append, List.nil_append, List.replicate, List.getElem?_cons_zero, List.getElem?_cons_succ, List.set_cons_zero, List.set_cons_succ, bind_s, Option.map_some, if_true, Nat.reduceAdd, Nat.reduceSub, Nat.reduceLeDiff, reduceIte, ap_And, F_isfrac h, e1, gGe_eq, decide_eq_true h0]
theorem gAll_true {α : Type} (l : List α) : gAll [.lst (l.map fun _ => D.bl true)] = some (.bl true) := by
  have e : (l.map fun _ => D.bl true) = (l.map fun _ => true).map D.bl := by rw [List.map_map]; rfl
  show (blsOf _).map _ = _
  rw [e, blsOf_map]
  show some (D.bl ((l.map fun _ => true).all id)) = _
  congr 2
  induction l with
  | nil => rfl
  | cons x l ih => rw [List.map_cons, List.all_cons, ih (by rw [List.map_map]; rfl)]; rfl
theorem F_worths_ok {ws : List Int} {wk : List (Int × List Int)} (V : Valid ws wk) : F_u_are_worths [wsD ws] = some (.bl true) := by
  have h1 := V.l1; have h2 := V.l2
  have el : gLenA [wsD ws] = some (.int ws.length) := by unfold wsD; rw [gLenA_tup, List.length_map]
  have e0 : gIsi "tuple" (wsD ws) = some (.bl true) := isi_tup _
  have e3 := eLc_map (it := iA (eV 0)) (vs := [1]) (b := bN 1) (f := eCall 3 (F_is_integer_within) (aCons (eV 1) (aCons (eC (.int 0)) (aCons (eC (.int 20)) aNil)))) (ρ := [some (false, wsD ws), none]) (ds := ws.map .int) (fun _ => .bl true) rfl (by rw [List.length_map]; omega) (fun d hd => by
    obtain ⟨x, hx, rfl⟩ := List.mem_map.mp hd
    simp only [wipeD, mkF, startD, ap_Seq, back_ret, ap_Set, ap_SetF, ap_Call, ap_CB, ap_Cons, ap_Nil, ap_2, ap_C, ap_V, ap_VB, ap_Tup, ap_Lst, ap_If, ap_Not, ap_Nx, ap_Exp, ap_Par, ap_ParF, ap_Wh, ap_For, ap_IfS, ap_bN, ap_bT, ap_bC, ap_b0, ix0, ix1, gAdd_eq, gAddA_eq, gEqA_int, gEqA_int', ixA0, ixA1, gSub_eq, List.map_cons, List.map_nil, List.length_cons, List.length_nil, List.cons_append, List.nil_append, List.replicate, List.getElem?_cons_zero, List.getElem?_cons_succ, List.set_cons_zero, List.set_cons_succ, bind_s, Option.map_some, if_true, Nat.reduceAdd, Nat.reduceSub, Nat.reduceLeDiff, reduceIte, F_within (V.w x hx)])
  simp only [F_u_are_worths, g_u_are_worths, mkF, startD, ap_Seq, back_ret, ap_Set, ap_SetF, ap_Call, ap_CB, ap_Cons, ap_Nil, ap_2, ap_C, ap_V, ap_VB, ap_Tup, ap_Lst, ap_If, ap_Not, ap_Nx, ap_Exp, ap_Par, ap_ParF, ap_Wh, ap_For, ap_IfS, ap_bN, ap_bT, ap_bC, ap_b0, ix0, ix1, gAdd_eq, gAddA_eq, gEqA_int, gEqA_int', ixA0, ixA1, gSub_eq, List.map_cons, List.map_nil, List.length_cons, List.length_nil, List.cons_append, List.nil_append, List.replicate, List.getElem?_cons_zero, List.getElem?_cons_succ, List.set_cons_zero, List.set_cons_succ, bind_s, Option.map_some, if_true, Nat.reduceAdd, Nat.reduceSub, Nat.reduceLeDiff, reduceIte, ap_And, ap_Or, ap_Isi, ap_Ch, e0, el, gLe_eq, Bool.not_true, decide_eq_true (show (2 : Int) ≤ ws.length by omega), decide_eq_true (show (ws.length : Int) ≤ 4 by omega), e3, gAll_true]
theorem F_parts_ok {n : Nat} {p : Int × List Int} (h : WkOk n p) (l : n ≤ 4) : F_u_are_parts [.tup (p.2.map .int), .int n] = some (.bl true) := by
  have el : gLenA [.tup (p.2.map D.int)] = some (.int n) := by rw [gLenA_tup, List.length_map, h.len]
  have en : gEqA true (.int n) (.int n) = some (.bl false) := by rw [gEqA_int', beq_self_eq_true]; rfl
  have e3 := eLc_map (it := iA (eV 0)) (vs := [2]) (b := bN 2) (f := eCall 3 (F_is_integer_within) (aCons (eV 2) (aCons (eC (.int 0)) (aCons (eC (.int 6)) aNil)))) (ρ := [some (false, .tup (p.2.map .int)), some (false, .int n), none]) (ds := p.2.map .int) (fun _ => .bl true) rfl (by rw [List.length_map, h.len]; omega) (fun d hd => by
    obtain ⟨x, hx, rfl⟩ := List.mem_map.mp hd
    simp only [wipeD, mkF, startD, ap_Seq, back_ret, ap_Set, ap_SetF, ap_Call, ap_CB, ap_Cons, ap_Nil, ap_2, ap_C, ap_V, ap_VB, ap_Tup, ap_Lst, ap_If, ap_Not, ap_Nx, ap_Exp, ap_Par, ap_ParF, ap_Wh, ap_For, ap_IfS, ap_bN, ap_bT, ap_bC, ap_b0, ix0, ix1, gAdd_eq, gAddA_eq, gEqA_int, gEqA_int', ixA0, ixA1, gSub_eq, List.map_cons, List.map_nil, List.length_cons, List.length_nil, List.cons_append, List.nil_append, List.replicate, List.getElem?_cons_zero, List.getElem?_cons_succ, List.set_cons_zero, List.set_cons_succ, bind_s, Option.map_some, if_true, Nat.reduceAdd, Nat.reduceSub, Nat.reduceLeDiff, reduceIte, F_within (h.part x hx)])
  simp only [F_u_are_parts, g_u_are_parts, mkF, startD, ap_Seq, back_ret, ap_Set, ap_SetF, ap_Call, ap_CB, ap_Cons, ap_Nil, ap_2, ap_C, ap_V, ap_VB, ap_Tup, ap_Lst, ap_If, ap_Not, ap_Nx, ap_Exp, ap_Par, ap_ParF, ap_Wh, ap_For, ap_IfS, ap_bN, ap_bT, ap_bC, ap_b0, ix0, ix1, gAdd_eq, gAddA_eq, gEqA_int, gEqA_int', ixA0, ixA1, gSub_eq, List.map_cons, List.map_nil, List.length_cons, List.length_nil, List.cons_append, List.nil_append, List.replicate, List.getElem?_cons_zero, List.getElem?_cons_succ, List.set_cons_zero, List.set_cons_succ, bind_s, Option.map_some, if_true, Nat.reduceAdd, Nat.reduceSub, Nat.reduceLeDiff, reduceIte, ap_And, ap_Or, ap_Isi, isi_tup, el, en, Bool.not_true, e3, gAll_true, gSum_tup, gGt_eq, decide_eq_true h.sum]
theorem F_work_ok {n : Nat} {p : Int × List Int} (h : WkOk n p) (l : n ≤ 4) : F_u_is_work [wkD p, .int n] = some (.bl true) := by
  have e0 : gIsi "tuple" (wkD p) = some (.bl true) := isi_tup _
  have e1 : gLenA [wkD p] = some (.int 2) := rfl
  have e2 : bT (bCons (bN 2) (bCons (bN 3) bNil)) (wkD p) [some (false, wkD p), some (false, .int n), none, none] = some [some (false, wkD p), some (false, .int n), some (false, .int p.1), some (false, .tup (p.2.map .int))] := rfl
  have e3 : gEqA true (.int 2) (.int 2) = some (.bl false) := rfl
  simp only [F_u_is_work, g_u_is_work, mkF, startD, ap_Seq, back_ret, ap_Set, ap_SetF, ap_Call, ap_CB, ap_Cons, ap_Nil, ap_2, ap_C, ap_V, ap_VB, ap_Tup, ap_Lst, ap_If, ap_Not, ap_Nx, ap_Exp, ap_Par, ap_ParF, ap_Wh, ap_For, ap_IfS, ap_bN, ap_bT, ap_bC, ap_b0, ix0, ix1, gAdd_eq, gAddA_eq, gEqA_int, gEqA_int', ixA0, ixA1, gSub_eq, List.map_cons, List.map_nil, List.length_cons, List.length_nil, List.cons_append, List.nil_append, List.replicate, List.getElem?_cons_zero, List.getElem?_cons_succ, List.set_cons_zero, List.set_cons_succ, bind_s, Option.map_some, if_true, Nat.reduceAdd, Nat.reduceSub, Nat.reduceLeDiff, reduceIte, ap_And, ap_Or, ap_Isi, ap_Asg, e0, e1, e2, e3, Bool.not_true, F_within ⟨h.e0, h.e1⟩, F_parts_ok h l]
theorem F_works_ok {ws : List Int} {wk : List (Int × List Int)} (V : Valid ws wk) : F_u_are_works [wksD wk, .int ws.length] = some (.bl true) := by
  have h1 := V.k1; have h2 := V.k2
  have el : gLenA [wksD wk] = some (.int wk.length) := by unfold wksD; rw [gLenA_tup, List.length_map]
  have e0 : gIsi "tuple" (wksD wk) = some (.bl true) := isi_tup _
  have e3 := eLc_map (it := iA (eV 0)) (vs := [2]) (b := bN 2) (f := eCall 2 (F_u_is_work) (aCons (eV 2) (aCons (eV 1) aNil))) (ρ := [some (false, wksD wk), some (false, .int ws.length), none]) (ds := wk.map wkD) (fun _ => .bl true) rfl (by rw [List.length_map]; omega) (fun d hd => by
    obtain ⟨x, hx, rfl⟩ := List.mem_map.mp hd
    simp only [wipeD, mkF, startD, ap_Seq, back_ret, ap_Set, ap_SetF, ap_Call, ap_CB, ap_Cons, ap_Nil, ap_2, ap_C, ap_V, ap_VB, ap_Tup, ap_Lst, ap_If, ap_Not, ap_Nx, ap_Exp, ap_Par, ap_ParF, ap_Wh, ap_For, ap_IfS, ap_bN, ap_bT, ap_bC, ap_b0, ix0, ix1, gAdd_eq, gAddA_eq, gEqA_int, gEqA_int', ixA0, ixA1, gSub_eq, List.map_cons, List.map_nil, List.length_cons, List.length_nil, List.cons_append, List.nil_append, List.replicate, List.getElem?_cons_zero, List.getElem?_cons_succ, List.set_cons_zero, List.set_cons_succ, bind_s, Option.map_some, if_true, Nat.reduceAdd, Nat.reduceSub, Nat.reduceLeDiff, reduceIte, F_work_ok (V.k x hx) V.l2])
  simp only [F_u_are_works, g_u_are_works, mkF, startD, ap_Seq, back_ret, ap_Set, ap_SetF, ap_Call, ap_CB, ap_Cons, ap_Nil, ap_2, ap_C, ap_V, ap_VB, ap_Tup, ap_Lst, ap_If, ap_Not, ap_Nx, ap_Exp, ap_Par, ap_ParF, ap_Wh, ap_For, ap_IfS, ap_bN, ap_bT, ap_bC, ap_b0, ix0, ix1, gAdd_eq, gAddA_eq, gEqA_int, gEqA_int', ixA0, ixA1, gSub_eq, List.map_cons, List.map_nil, List.length_cons, List.length_nil, List.cons_append, List.nil_append, List.replicate, List.getElem?_cons_zero, List.getElem?_cons_succ, List.set_cons_zero, List.set_cons_succ, bind_s, Option.map_some, if_true, Nat.reduceAdd, Nat.reduceSub, Nat.reduceLeDiff, reduceIte, ap_And, ap_Or, ap_Isi, ap_Ch, e0, el, gLe_eq, Bool.not_true, decide_eq_true (show (2 : Int) ≤ wk.length by omega), decide_eq_true (show (wk.length : Int) ≤ 4 by omega), e3, gAll_true]
theorem gTup_tup (l : List D) : gTupOf [.tup l] = some (.tup l) := rfl
theorem gTup_lst (l : List D) : gTupOf [.lst l] = some (.tup l) := rfl
theorem neW : ¬ (Str.ofString "_worths" = Str.ofString "_works") := by decide +kernel
theorem F_init_eq {ws : List Int} {wk : List (Int × List Int)} (V : Valid ws wk) : F_JobD_initD [wsD ws, wksD wk] = some [(Str.ofString "_worths", wsD ws), (Str.ofString "_works", wksD wk)] := by
  have el : gLenA [wsD ws] = some (.int ws.length) := by unfold wsD; rw [gLenA_tup, List.length_map]
  have t1 : gTupOf [wsD ws] = some (wsD ws) := rfl
  have hl := V.k2
  have e3 := eLc_map (it := iA (eV 2)) (vs := [3, 4]) (b := bT (bCons (bN 3) (bCons (bN 4) bNil))) (f := eTup (aCons (eV 3) (aCons (eCB gTupOf (aCons (eVB 4) aNil)) aNil))) (ρ := [none, some (false, wsD ws), some (false, wksD wk), none, none]) (ds := wk.map wkD) (fun d => d) rfl (by rw [List.length_map]; omega) (fun d hd => by
      obtain ⟨p, hx, rfl⟩ := List.mem_map.mp hd
      simp only [wipeD, wkD, mkF, startD, ap_Seq, back_ret, ap_Set, ap_SetF, ap_Call, ap_CB, ap_Cons, ap_Nil, ap_2, ap_C, ap_V, ap_VB, ap_Tup, ap_Lst, ap_If, ap_Not, ap_Nx, ap_Exp, ap_Par, ap_ParF, ap_Wh, ap_For, ap_IfS, ap_bN, ap_bT, ap_bC, ap_b0, ix0, ix1, gAdd_eq, gAddA_eq, gEqA_int, gEqA_int', ixA0, ixA1, gSub_eq, List.map_cons, List.map_nil, List.length_cons, List.length_nil, List.cons_append, List.nil_append, List.replicate, List.getElem?_cons_zero, List.getElem?_cons_succ, List.set_cons_zero, List.set_cons_succ, bind_s, Option.map_some, if_true, Nat.reduceAdd, Nat.reduceSub, Nat.reduceLeDiff, reduceIte, gTup_tup])
  rw [List.map_id'] at e3
  simp only [F_JobD_initD, mkI, g_JobD_initD, iIf, iFld, mkF, startD, ap_Seq, back_ret, ap_Set, ap_SetF, ap_Call, ap_CB, ap_Cons, ap_Nil, ap_2, ap_C, ap_V, ap_VB, ap_Tup, ap_Lst, ap_If, ap_Not, ap_Nx, ap_Exp, ap_Par, ap_ParF, ap_Wh, ap_For, ap_IfS, ap_bN, ap_bT, ap_bC, ap_b0, ix0, ix1, gAdd_eq, gAddA_eq, gEqA_int, gEqA_int', ixA0, ixA1, gSub_eq, List.map_cons, List.map_nil, List.length_cons, List.length_nil, List.cons_append, List.nil_append, List.replicate, List.getElem?_cons_zero, List.getElem?_cons_succ, List.set_cons_zero, List.set_cons_succ, bind_s, Option.map_some, if_true, Nat.reduceAdd, Nat.reduceSub, Nat.reduceLeDiff, reduceIte, F_worths_ok V, el, F_works_ok V, Bool.not_true, t1, putD, e3, gTup_lst, neW, if_false, Nat.reduceLT]
  rfl
theorem make_eq {ws : List Int} {wk : List (Int × List Int)} (V : Valid ws wk) {fs : DEnv → Option (List D)} {ρ : DEnv} (h : fs ρ = some [wsD ws, wksD wk]) : eMake 0 2 (F_JobD_initD) fs ρ = some (jobD ws wk) := by
  simp only [ap_Make, h, mkF, startD, ap_Seq, back_ret, ap_Set, ap_SetF, ap_Call, ap_CB, ap_Cons, ap_Nil, ap_2, ap_C, ap_V, ap_VB, ap_Tup, ap_Lst, ap_If, ap_Not, ap_Nx, ap_Exp, ap_Par, ap_ParF, ap_Wh, ap_For, ap_IfS, ap_bN, ap_bT, ap_bC, ap_b0, ix0, ix1, gAdd_eq, gAddA_eq, gEqA_int, gEqA_int', ixA0, ixA1, gSub_eq, List.map_cons, List.map_nil, List.length_cons, List.length_nil, List.cons_append, List.nil_append, List.replicate, List.getElem?_cons_zero, List.getElem?_cons_succ, List.set_cons_zero, List.set_cons_succ, bind_s, Option.map_some, if_true, Nat.reduceAdd, Nat.reduceSub, Nat.reduceLeDiff, reduceIte, F_init_eq V]
  rfl
theorem F_cjob (ws : List Int) (wk : List (Int × List Int)) : F_check_job [jobD ws wk] = some .non := rfl
def payD (as : List Qp) : D := .tup (as.map qd)
structure PayOk (n : Nat) (as : List Qp) : Prop where
  len : as.length = n
  ok : ∀ p ∈ as, Ok 10 p
  nn : ∀ p ∈ as, 0 ≤ p.1
/-! ### gains and profits -/
def one1 (n : Int) : Qp := (n, 1)
theorem one1_ok {n : Int} (h0 : 0 ≤ n) (h : n ≤ 20) : Ok 10 (one1 n) := ⟨by show (0 : Int) < 1; decide, by show Nat.gcd n.natAbs 1 = 1; exact Nat.gcd_one_right _, by show n.natAbs < 2 ^ 10; omega, by show (1 : Int).natAbs < 2 ^ 10; decide⟩
theorem F_efforts {ws : List Int} {wk : List (Int × List Int)} (V : Valid ws wk) : F_work_efforts [jobD ws wk] = some (.lst (wk.map fun p => qd (one1 p.1))) := by
  have ew : eProp 0 (F_Job_works) (eV 0) [some (false, jobD ws wk), none, none] = some (wksD wk) := prop_works ws wk _ _ rfl
  have hi : iA (eProp 0 (F_Job_works) (eV 0)) [some (false, jobD ws wk), none, none] = some (wk.map wkD) := by rw [ap_iA, ew]; rfl
  have e3 := eLc_map (it := iA (eProp 0 (F_Job_works) (eV 0))) (vs := [1, 2]) (b := bT (bCons (bN 1) (bCons (bN 2) bNil))) (f := eTup (aCons (eV 1) (aCons (eC (.int 1)) aNil))) (ρ := [some (false, jobD ws wk), none, none]) (ds := wk.map wkD) (fun d => match d with | .tup [x, _] => .tup [x, .int 1] | _ => .non) hi (by rw [List.length_map]; have := V.k2; omega) (fun d hd => by
    obtain ⟨p, hx, rfl⟩ := List.mem_map.mp hd
    simp only [wipeD, wkD, mkF, startD, ap_Seq, back_ret, ap_Set, ap_SetF, ap_Call, ap_CB, ap_Cons, ap_Nil, ap_2, ap_C, ap_V, ap_VB, ap_Tup, ap_Lst, ap_If, ap_Not, ap_Nx, ap_Exp, ap_Par, ap_ParF, ap_Wh, ap_For, ap_IfS, ap_bN, ap_bT, ap_bC, ap_b0, ix0, ix1, gAdd_eq, gAddA_eq, gEqA_int, gEqA_int', ixA0, ixA1, gSub_eq, List.map_cons, List.map_nil, List.length_cons, List.length_nil, List.cons_append, List.nil_append, List.replicate, List.getElem?_cons_zero, List.getElem?_cons_succ, List.set_cons_zero, List.set_cons_succ, bind_s, Option.map_some, if_true, Nat.reduceAdd, Nat.reduceSub, Nat.reduceLeDiff, reduceIte])
  simp only [F_work_efforts, g_work_efforts, mkF, startD, ap_Seq, back_ret, ap_Set, ap_SetF, ap_Call, ap_CB, ap_Cons, ap_Nil, ap_2, ap_C, ap_V, ap_VB, ap_Tup, ap_Lst, ap_If, ap_Not, ap_Nx, ap_Exp, ap_Par, ap_ParF, ap_Wh, ap_For, ap_IfS, ap_bN, ap_bT, ap_bC, ap_b0, ix0, ix1, gAdd_eq, gAddA_eq, gEqA_int, gEqA_int', ixA0, ixA1, gSub_eq, List.map_cons, List.map_nil, List.length_cons, List.length_nil, List.cons_append, List.nil_append, List.replicate, List.getElem?_cons_zero, List.getElem?_cons_succ, List.set_cons_zero, List.set_cons_succ, bind_s, Option.map_some, if_true, Nat.reduceAdd, Nat.reduceSub, Nat.reduceLeDiff, reduceIte, e3, List.map_map]
  rfl
def avQ (p : Int × List Int) (as : List Qp) : Qp := dotQ (chQ p.2) as
theorem avQ_ok {n : Nat} {p : Int × List Int} (h : WkOk n p) (l : n ≤ 4) {as : List Qp} (ha : ∀ q ∈ as, Ok 10 q) : Ok 85 (avQ p as) := dotQ_ok (chQ_ok h l) ha (by unfold chQ; rw [List.length_map, h.len]; exact l)
theorem chlen {n : Nat} {p : Int × List Int} (h : WkOk n p) (l : n ≤ 4) : (chQ p.2).length ≤ 4 := by unfold chQ; rw [List.length_map, h.len]; exact l
section
variable {ws : List Int} {wk : List (Int × List Int)} (V : Valid ws wk) {i : Nat} {p : Int × List Int} (hp : wk[i]? = some p)
include V hp
theorem F_avworth : F_average_worth [jobD ws wk, .int i] = some (qd (avQ p (ws.map one1))) := by
  have hk := V.k p (List.mem_of_getElem? hp)
  have ew : eProp 0 (F_Job_worths) (eV 0) [some (false, jobD ws wk), some (false, .int i), none] = some (wsD ws) := prop_worths ws wk _ _ rfl
  have hi : iA (eProp 0 (F_Job_worths) (eV 0)) [some (false, jobD ws wk), some (false, .int i), none] = some (ws.map .int) := by rw [ap_iA, ew]; rfl
  have e3 := eLc_map (it := iA (eProp 0 (F_Job_worths) (eV 0))) (vs := [2]) (b := bN 2) (f := eTup (aCons (eV 2) (aCons (eC (.int 1)) aNil))) (ρ := [some (false, jobD ws wk), some (false, .int i), none]) (ds := ws.map .int) (fun d => .tup [d, .int 1]) hi (by rw [List.length_map]; have := V.l2; omega) (fun d hd => by
    simp only [wipeD, mkF, startD, ap_Seq, back_ret, ap_Set, ap_SetF, ap_Call, ap_CB, ap_Cons, ap_Nil, ap_2, ap_C, ap_V, ap_VB, ap_Tup, ap_Lst, ap_If, ap_Not, ap_Nx, ap_Exp, ap_Par, ap_ParF, ap_Wh, ap_For, ap_IfS, ap_bN, ap_bT, ap_bC, ap_b0, ix0, ix1, gAdd_eq, gAddA_eq, gEqA_int, gEqA_int', ixA0, ixA1, gSub_eq, List.map_cons, List.map_nil, List.length_cons, List.length_nil, List.cons_append, List.nil_append, List.replicate, List.getElem?_cons_zero, List.getElem?_cons_succ, List.set_cons_zero, List.set_cons_succ, bind_s, Option.map_some, if_true, Nat.reduceAdd, Nat.reduceSub, Nat.reduceLeDiff, reduceIte])
  have e4 := F_weighted_eq (ws := chQ p.2) (as := ws.map one1) (A := .lst ((ws.map one1).map qd)) rfl (chQ_ok hk V.l2) (fun q hq => by
    obtain ⟨x, hx, rfl⟩ := List.mem_map.mp hq
    exact one1_ok (V.w x hx).1 (V.w x hx).2) (chlen hk V.l2)
  rw [List.map_map] at e3
  have e5 : ((fun d : D => D.tup [d, .int 1]) ∘ D.int) = (qd ∘ one1) := rfl
  rw [e5] at e3
  rw [List.map_map] at e4
  simp only [F_average_worth, g_average_worth, mkF, startD, ap_Seq, back_ret, ap_Set, ap_SetF, ap_Call, ap_CB, ap_Cons, ap_Nil, ap_2, ap_C, ap_V, ap_VB, ap_Tup, ap_Lst, ap_If, ap_Not, ap_Nx, ap_Exp, ap_Par, ap_ParF, ap_Wh, ap_For, ap_IfS, ap_bN, ap_bT, ap_bC, ap_b0, ix0, ix1, gAdd_eq, gAddA_eq, gEqA_int, gEqA_int', ixA0, ixA1, gSub_eq, List.map_cons, List.map_nil, List.length_cons, List.length_nil, List.cons_append, List.nil_append, List.replicate, List.getElem?_cons_zero, List.getElem?_cons_succ, List.set_cons_zero, List.set_cons_succ, bind_s, Option.map_some, if_true, Nat.reduceAdd, Nat.reduceSub, Nat.reduceLeDiff, reduceIte, F_chances_eq V hp, e3, e4]
  rfl
theorem F_lworth : F_u_law_worth [packD ws wk, .int i] = some (qd (avQ p (ws.map one1))) := by
  have hk := V.k p (List.mem_of_getElem? hp)
  have hi : iA (DL.e2 gIxA (eVB 0) (eC (.int 0))) [some (false, packD ws wk), some (false, .int i), none] = some (ws.map .int) := rfl
  have e3 := eLc_map (it := iA (DL.e2 gIxA (eVB 0) (eC (.int 0)))) (vs := [2]) (b := bN 2) (f := eTup (aCons (eV 2) (aCons (eC (.int 1)) aNil))) (ρ := [some (false, packD ws wk), some (false, .int i), none]) (ds := ws.map .int) (fun d => .tup [d, .int 1]) hi (by rw [List.length_map]; have := V.l2; omega) (fun d hd => by
    simp only [wipeD, mkF, startD, ap_Seq, back_ret, ap_Set, ap_SetF, ap_Call, ap_CB, ap_Cons, ap_Nil, ap_2, ap_C, ap_V, ap_VB, ap_Tup, ap_Lst, ap_If, ap_Not, ap_Nx, ap_Exp, ap_Par, ap_ParF, ap_Wh, ap_For, ap_IfS, ap_bN, ap_bT, ap_bC, ap_b0, ix0, ix1, gAdd_eq, gAddA_eq, gEqA_int, gEqA_int', ixA0, ixA1, gSub_eq, List.map_cons, List.map_nil, List.length_cons, List.length_nil, List.cons_append, List.nil_append, List.replicate, List.getElem?_cons_zero, List.getElem?_cons_succ, List.set_cons_zero, List.set_cons_succ, bind_s, Option.map_some, if_true, Nat.reduceAdd, Nat.reduceSub, Nat.reduceLeDiff, reduceIte])
  have e4 := F_dot_eq (ws := chQ p.2) (as := ws.map one1) (A := .lst ((ws.map one1).map qd)) rfl (chQ_ok hk V.l2) (fun q hq => by
    obtain ⟨x, hx, rfl⟩ := List.mem_map.mp hq
    exact one1_ok (V.w x hx).1 (V.w x hx).2) (chlen hk V.l2)
  rw [List.map_map] at e3
  have e5 : ((fun d : D => D.tup [d, .int 1]) ∘ D.int) = (qd ∘ one1) := rfl
  rw [e5] at e3
  rw [List.map_map] at e4
  have en : gIsN false (.int i) .non = some (.bl false) := rfl
  simp only [F_u_law_worth, g_u_law_worth, mkF, startD, ap_Seq, back_ret, ap_Set, ap_SetF, ap_Call, ap_CB, ap_Cons, ap_Nil, ap_2, ap_C, ap_V, ap_VB, ap_Tup, ap_Lst, ap_If, ap_Not, ap_Nx, ap_Exp, ap_Par, ap_ParF, ap_Wh, ap_For, ap_IfS, ap_bN, ap_bT, ap_bC, ap_b0, ix0, ix1, gAdd_eq, gAddA_eq, gEqA_int, gEqA_int', ixA0, ixA1, gSub_eq, List.map_cons, List.map_nil, List.length_cons, List.length_nil, List.cons_append, List.nil_append, List.replicate, List.getElem?_cons_zero, List.getElem?_cons_succ, List.set_cons_zero, List.set_cons_succ, bind_s, Option.map_some, if_true, Nat.reduceAdd, Nat.reduceSub, Nat.reduceLeDiff, reduceIte, en, F_lchances_eq V hp, e3, e4]
  rfl

end
end K04

set_option maxHeartbeats 2000000
namespace K04
open PySem PySem.Spec PyProof.Rows L2 DL
theorem F_num (ns : List Int) (h : ns.length ≤ 63) {i : Int} (h0 : 0 ≤ i) (h1 : i ≤ 100000) : ∃ n : Int, F_u_law_number [.scr ns, .int i] = some (.int n) := num_ex ns h h0 h1
theorem rngD_len {a b : Int} : (rngD a b).length = (b - a).toNat := @rngD_length ⟨fun _ => 0⟩ a b
/-! ### drawn jobs and pays -/
theorem compL_ex {b : D → DEnv → Option DEnv} {f : DE1} {ρ : DEnv} {P : Int → Prop} : ∀ ds : List D, (∀ d ∈ ds, ∃ x, (b d ρ).bind f = some (.int x) ∧ P x) → ∃ l : List Int, compL b (eC (.bl true)) f ρ ds = some (l.map .int) ∧ l.length = ds.length ∧ ∀ x ∈ l, P x
  | [], _ => ⟨[], rfl, rfl, fun x hx => by cases hx⟩
  | d :: ds, H => by
    obtain ⟨x, h1, px⟩ := H d List.mem_cons_self
    obtain ⟨l, h2, hl, hP⟩ := compL_ex ds fun x hx => H x (List.mem_cons_of_mem _ hx)
    refine ⟨x :: l, ?_, by simp [hl], fun y hy => (List.mem_cons.mp hy).elim (fun e => e ▸ px) (hP y)⟩
    unfold compL
    cases e : b d ρ with
    | none => rw [e] at h1; cases h1
    | some ρ1 =>
      rw [e] at h1
      have h1 : f ρ1 = some (.int x) := h1
      simp only [eC, h1, h2, Option.map_some, List.map_cons]
theorem compL_fil {α : Type} {b : D → DEnv → Option DEnv} {t f : DE1} {ρ : DEnv} {u v : α → D} {p : α → Bool} : ∀ zs : List α, (∀ z ∈ zs, ∃ ρ1, b (u z) ρ = some ρ1 ∧ t ρ1 = some (.bl (p z)) ∧ f ρ1 = some (v z)) → compL b t f ρ (zs.map u) = some ((zs.filter p).map v)
  | [], _ => rfl
  | z :: zs, H => by
    obtain ⟨ρ1, h1, h2, h3⟩ := H z List.mem_cons_self
    have ih := compL_fil zs fun x hx => H x (List.mem_cons_of_mem _ hx)
    rw [List.map_cons]
    unfold compL
    rw [h1]
    simp only [h2]
    cases e : p z with
    | true => simp only [h3, ih, Option.map_some, List.filter_cons, e, if_true, List.map_cons]
    | false => simp only [ih, List.filter_cons, e]; rfl
theorem rng_mem {n : Int} {d : D} (h : d ∈ rngD 0 n) : ∃ k : Nat, d = .int k ∧ (k : Int) < n := by
  unfold rngD at h
  obtain ⟨k, hk, rfl⟩ := List.mem_map.mp h
  rw [List.mem_range] at hk
  exact ⟨k, by simp, by omega⟩
theorem emod_lt' (a : Int) {m : Int} (h : 0 < m) : 0 ≤ a % m ∧ a % m < m := ⟨Int.emod_nonneg _ (by omega), Int.emod_lt_of_pos _ h⟩
theorem pick2 (n : Int) : ∃ m : Int, (m = 3 ∨ m = 7) ∧ gIxA (.tup [.int 3, .int 7]) (.int (n % 2)) = some (.int m) := by
  have := emod_lt' n (show (0 : Int) < 2 by decide)
  rcases (show n % 2 = 0 ∨ n % 2 = 1 by omega) with e | e
  · exact ⟨3, .inl rfl, by rw [e]; rfl⟩
  · exact ⟨7, .inr rfl, by rw [e]; rfl⟩
theorem nonneg_sum : ∀ l : List Int, (∀ x ∈ l, 0 ≤ x ∧ x ≤ 6) → 0 ≤ l.sum := fun l hl => (sum_le (by decide) l hl).1
theorem ones_sum : ∀ n : Nat, (List.replicate n (1 : Int)).sum = n
  | 0 => rfl
  | n + 1 => by rw [List.replicate_succ, List.sum_cons, ones_sum n]; omega
theorem rep_ones (n : Nat) : (List.replicate n [D.int 1]).flatten = (List.replicate n (1 : Int)).map D.int := by
  induction n with
  | zero => rfl
  | succ n ih => rw [List.replicate_succ, List.flatten_cons, ih, List.replicate_succ, List.map_cons]; rfl
section
variable (ns : List Int) (h : ns.length ≤ 63)
include h
theorem worths_loop {idx : Int} (i0 : 0 ≤ idx) (i1 : idx ≤ 1000) (M N : DL.Slot) (s5 s7 s8 s9 : Slot) : ∀ (ks : List Nat) (acc : List Int) (s6 : Slot), (∀ k ∈ ks, k ≤ 10) → acc.length + ks.length ≤ 10 → (∀ x ∈ acc, 0 ≤ x ∧ x ≤ 20) →
    ∃ (acc' : List Int) (s6' : DL.Slot), forL (bN 6) (gApp 4 (DL.e2 gModI (eCB gInt (aCons (eCall 2 (F_u_law_number) (aCons (eV 0) (aCons (DL.e2 gAddA (DL.e2 gAddA (eVB 1) (eC (.int 2))) (eVB 6)) aNil))) aNil)) (eC (.int 21)))) (ks.map fun k => D.int (k : Nat))
      [some (false, .scr ns), some (false, .int idx), M, N, some (true, .lst (acc.map .int)), s5, s6, s7, s8, s9] = .nx [some (false, .scr ns), some (false, .int idx), M, N, some (true, .lst (acc'.map .int)), s5, s6', s7, s8, s9]
      ∧ acc'.length = acc.length + ks.length ∧ ∀ x ∈ acc', 0 ≤ x ∧ x ≤ 20
  | [], acc, s6, _, _, ha => ⟨acc, s6, rfl, rfl, ha⟩
  | k :: ks, acc, s6, hk, hl, ha => by
    have k10 := hk k List.mem_cons_self
    obtain ⟨n, en⟩ := F_num ns h (i := idx + 2 + (k : Int)) (by omega) (by omega)
    rw [List.length_cons] at hl
    have hb := emod_lt' n (show (0 : Int) < 21 by decide)
    obtain ⟨acc', s6', e, hl', ha'⟩ := worths_loop i0 i1 M N s5 s7 s8 s9 ks (acc ++ [n % 21]) (some (false, .int k)) (fun x hx => hk x (List.mem_cons_of_mem _ hx)) (by simp; omega) (fun x hx => by
      rcases List.mem_append.mp hx with q | q
      · exact ha x q
      · rw [List.mem_singleton] at q; subst q; omega)
    refine ⟨acc', s6', ?_, by simp at hl'; simp; omega, ha'⟩
    rw [List.map_cons]
    unfold forL
    rw [List.map_append] at e
    simp only [mkF, startD, ap_Seq, back_ret, ap_Set, ap_SetF, ap_Call, ap_CB, ap_Cons, ap_Nil, ap_2, ap_C, ap_V, ap_VB, ap_Tup, ap_Lst, ap_If, ap_Not, ap_Nx, ap_Exp, ap_Par, ap_ParF, ap_Wh, ap_For, ap_IfS, ap_bN, ap_bT, ap_bC, ap_b0, ix0, ix1, gAdd_eq, gAddA_eq, gEqA_int, gEqA_int', ixA0, ixA1, gSub_eq, List.map_cons, List.map_nil, List.length_cons, List.length_nil, List.cons_append, List.nil_append, List.replicate, List.getElem?_cons_zero, List.getElem?_cons_succ, List.set_cons_zero, List.set_cons_succ, bind_s, Option.map_some, if_true, Nat.reduceAdd, Nat.reduceSub, Nat.reduceLeDiff, reduceIte, ap_App, gInt_eq, en, mMod_eq (show (0 : Int) < 21 by decide), List.length_map, if_pos (show acc.length < 1000 by omega)] at e ⊢
    exact e
theorem works_loop {idx : Int} (i0 : 0 ≤ idx) (i1 : idx ≤ 1000) {many : Nat} (m2 : 2 ≤ many) (m4 : many ≤ 4) (N s4 : DL.Slot) : ∀ (ks : List Nat) (acc : List (Int × List Int)) (s6 s7 s8 s9 : Slot), (∀ k ∈ ks, k ≤ 10) → acc.length + ks.length ≤ 10 → (∀ x ∈ acc, WkOk many x) →
    ∃ (acc' : List (Int × List Int)) (s6' s7' s8' s9' : DL.Slot), forL (bN 7)
  (gSeq (gSet 8 (DL.e2 gIxA (eTup (aCons (eC (.int 3)) (aCons (eC (.int 7)) aNil))) (DL.e2 gModI (eCB gInt (aCons (eCall 2 (F_u_law_number) (aCons (eV 0) (aCons (DL.e2 gAddA (eVB 1) (eC (.int 8))) aNil))) aNil)) (eC (.int 2)))))
  (gSeq (gSet 9 (eLc (iR1 (eV 2)) ([(Str.ofString "at", 6)].map (·.2)) (bN 6) (eC (.bl true)) (DL.e2 gModI (eCB gInt (aCons (eCall 2 (F_u_law_number) (aCons (eV 0) (aCons (DL.e2 gAddA (DL.e2 gAddA (DL.e2 gAddA (eVB 1) (eC (.int 10))) (DL.e2 gMulA (eC (.int 5)) (eVB 7))) (eVB 6)) aNil))) aNil)) (eVB 8))))
  (gSeq (gSet 9 (eIf (DL.e2 gGt (eCB gSum (aCons (eVB 9) aNil)) (eC (.int 0))) (eV 9) (DL.e2 gMulA (eLst (aCons (eC (.int 1)) aNil)) (eVB 2))))
  (gApp 5 (eTup (aCons (DL.e2 gModI (eCB gInt (aCons (eCall 2 (F_u_law_number) (aCons (eV 0) (aCons (DL.e2 gAddA (DL.e2 gAddA (eVB 1) (eC (.int 30))) (eVB 7)) aNil))) aNil)) (eC (.int 10))) (aCons (eCB gTupOf (aCons (eVB 9) aNil)) aNil)))))))
      (ks.map fun k => D.int (k : Nat)) [some (false, .scr ns), some (false, .int idx), some (false, .int many), N, s4, some (true, .lst (acc.map wkD)), s6, s7, s8, s9]
      = .nx [some (false, .scr ns), some (false, .int idx), some (false, .int many), N, s4, some (true, .lst (acc'.map wkD)), s6', s7', s8', s9'] ∧ acc'.length = acc.length + ks.length ∧ ∀ x ∈ acc', WkOk many x
  | [], acc, s6, s7, s8, s9, _, _, ha => ⟨acc, s6, s7, s8, s9, rfl, rfl, ha⟩
  | k :: ks, acc, s6, s7, s8, s9, hk, hl, ha => by
    have k10 := hk k List.mem_cons_self
    rw [List.length_cons] at hl
    obtain ⟨n8, en8⟩ := F_num ns h (i := idx + 8) (by omega) (by omega)
    obtain ⟨ne, ene⟩ := F_num ns h (i := idx + 30 + (k : Int)) (by omega) (by omega)
    obtain ⟨m, hm, em⟩ := pick2 n8
    have hm0 : 0 < m := by omega
    have s5 : sz 5 = true := by decide
    have sk : sz (k : Int) = true := sz_of (n := 10) (by omega) (by omega)
    obtain ⟨l, el, hll, hlp⟩ := compL_ex (b := bN 6) (f := DL.e2 gModI (eCB gInt (aCons (eCall 2 (F_u_law_number) (aCons (eV 0) (aCons (DL.e2 gAddA (DL.e2 gAddA (DL.e2 gAddA (eVB 1) (eC (.int 10))) (DL.e2 gMulA (eC (.int 5)) (eVB 7))) (eVB 6)) aNil))) aNil)) (eVB 8))
      (ρ := [some (false, .scr ns), some (false, .int idx), some (false, .int many), N, s4, some (true, .lst (acc.map wkD)), none, some (false, .int k), some (false, .int m), s9]) (P := fun x => 0 ≤ x ∧ x ≤ 6) (rngD 0 many) (fun d hd => by
      obtain ⟨j, rfl, hj⟩ := rng_mem hd
      obtain ⟨n, en⟩ := F_num ns h (i := idx + 10 + 5 * (k : Int) + (j : Int)) (by omega) (by omega)
      have hb := emod_lt' n hm0
      refine ⟨n % m, ?_, by omega⟩
      simp only [mkF, startD, ap_Seq, back_ret, ap_Set, ap_SetF, ap_Call, ap_CB, ap_Cons, ap_Nil, ap_2, ap_C, ap_V, ap_VB, ap_Tup, ap_Lst, ap_If, ap_Not, ap_Nx, ap_Exp, ap_Par, ap_ParF, ap_Wh, ap_For, ap_IfS, ap_bN, ap_bT, ap_bC, ap_b0, ix0, ix1, gAdd_eq, gAddA_eq, gEqA_int, gEqA_int', ixA0, ixA1, gSub_eq, List.map_cons, List.map_nil, List.length_cons, List.length_nil, List.cons_append, List.nil_append, List.replicate, List.getElem?_cons_zero, List.getElem?_cons_succ, List.set_cons_zero, List.set_cons_succ, bind_s, Option.map_some, if_true, Nat.reduceAdd, Nat.reduceSub, Nat.reduceLeDiff, reduceIte, gInt_eq, mMulA_eq s5 sk, en, mMod_eq hm0])
    rw [rngD_len] at hll
    have elc : eLc (iR1 (eV 2)) [6] (bN 6) (eC (.bl true)) (DL.e2 gModI (eCB gInt (aCons (eCall 2 (F_u_law_number) (aCons (eV 0) (aCons (DL.e2 gAddA (DL.e2 gAddA (DL.e2 gAddA (eVB 1) (eC (.int 10))) (DL.e2 gMulA (eC (.int 5)) (eVB 7))) (eVB 6)) aNil))) aNil)) (eVB 8))
      [some (false, .scr ns), some (false, .int idx), some (false, .int many), N, s4, some (true, .lst (acc.map wkD)), s6, some (false, .int k), some (false, .int m), s9] = some (.lst (l.map .int)) := by
      have hi : iR1 (eV 2) [some (false, .scr ns), some (false, .int idx), some (false, .int many), N, s4, some (true, .lst (acc.map wkD)), s6, some (false, .int k), some (false, .int m), s9] = some (rngD 0 many) := by
        simp only [ap_iR1, mkF, startD, ap_Seq, back_ret, ap_Set, ap_SetF, ap_Call, ap_CB, ap_Cons, ap_Nil, ap_2, ap_C, ap_V, ap_VB, ap_Tup, ap_Lst, ap_If, ap_Not, ap_Nx, ap_Exp, ap_Par, ap_ParF, ap_Wh, ap_For, ap_IfS, ap_bN, ap_bT, ap_bC, ap_b0, ix0, ix1, gAdd_eq, gAddA_eq, gEqA_int, gEqA_int', ixA0, ixA1, gSub_eq, List.map_cons, List.map_nil, List.length_cons, List.length_nil, List.cons_append, List.nil_append, List.replicate, List.getElem?_cons_zero, List.getElem?_cons_succ, List.set_cons_zero, List.set_cons_succ, bind_s, Option.map_some, if_true, Nat.reduceAdd, Nat.reduceSub, Nat.reduceLeDiff, reduceIte]
        rw [if_pos (by unfold rngOk; apply decide_eq_true; omega)]
      unfold eLc
      rw [hi]
      simp only [rngD_len]
      rw [if_pos (by omega)]
      have := el
      simp only [wipeD, List.set_cons_succ, List.set_cons_zero] at this ⊢
      rw [this]
      rfl
    have hb := emod_lt' ne (show (0 : Int) < 10 by decide)
    obtain ⟨l2, e2, hl2⟩ : ∃ l2 : List Int, eIf (DL.e2 gGt (eCB gSum (aCons (eVB 9) aNil)) (eC (.int 0))) (eV 9) (DL.e2 gMulA (eLst (aCons (eC (.int 1)) aNil)) (eVB 2)) [some (false, .scr ns), some (false, .int idx), some (false, .int many), N, s4, some (true, .lst (acc.map wkD)), s6, some (false, .int k), some (false, .int m), some (false, .lst (l.map .int))] = some (.lst (l2.map .int)) ∧ WkOk many (ne % 10, l2) := by
      by_cases hs : 0 < l.sum
      · refine ⟨l, ?_, ⟨hb.1, by show ne % 10 ≤ 9; omega, by show l.length = many; omega, hlp, hs⟩⟩
        simp only [mkF, startD, ap_Seq, back_ret, ap_Set, ap_SetF, ap_Call, ap_CB, ap_Cons, ap_Nil, ap_2, ap_C, ap_V, ap_VB, ap_Tup, ap_Lst, ap_If, ap_Not, ap_Nx, ap_Exp, ap_Par, ap_ParF, ap_Wh, ap_For, ap_IfS, ap_bN, ap_bT, ap_bC, ap_b0, ix0, ix1, gAdd_eq, gAddA_eq, gEqA_int, gEqA_int', ixA0, ixA1, gSub_eq, List.map_cons, List.map_nil, List.length_cons, List.length_nil, List.cons_append, List.nil_append, List.replicate, List.getElem?_cons_zero, List.getElem?_cons_succ, List.set_cons_zero, List.set_cons_succ, bind_s, Option.map_some, if_true, Nat.reduceAdd, Nat.reduceSub, Nat.reduceLeDiff, reduceIte, gSum_lst, gGt_eq, decide_eq_true hs]
      · refine ⟨List.replicate many 1, ?_, ⟨hb.1, by show ne % 10 ≤ 9; omega, List.length_replicate, fun x hx => by rw [List.eq_of_mem_replicate hx]; decide, by show 0 < (List.replicate many (1 : Int)).sum; rw [ones_sum]; omega⟩⟩
        have er0 : DL.gRep (.lst [.int 1]) (.int many) = some (.lst ((List.replicate many (1 : Int)).map .int)) := by
          show (if decide (-1000 ≤ (many : Int) ∧ (many : Int) ≤ 1000) && decide ([D.int 1].length ≤ 1000) then some (D.lst (List.replicate (many : Int).toNat [D.int 1]).flatten) else none) = _
          rw [decide_eq_true (show -1000 ≤ (many : Int) ∧ (many : Int) ≤ 1000 by omega), ← rep_ones]
          rfl
        have er : gMulA (.lst [.int 1]) (.int many) = some (.lst ((List.replicate many (1 : Int)).map .int)) := by
          show (none : Option D).or ((DL.gRep (.lst [.int 1]) (.int many)).or (DL.gRepT (.lst [.int 1]) (.int many))) = _
          rw [er0]; rfl
        simp only [mkF, startD, ap_Seq, back_ret, ap_Set, ap_SetF, ap_Call, ap_CB, ap_Cons, ap_Nil, ap_2, ap_C, ap_V, ap_VB, ap_Tup, ap_Lst, ap_If, ap_Not, ap_Nx, ap_Exp, ap_Par, ap_ParF, ap_Wh, ap_For, ap_IfS, ap_bN, ap_bT, ap_bC, ap_b0, ix0, ix1, gAdd_eq, gAddA_eq, gEqA_int, gEqA_int', ixA0, ixA1, gSub_eq, List.map_cons, List.map_nil, List.length_cons, List.length_nil, List.cons_append, List.nil_append, List.replicate, List.getElem?_cons_zero, List.getElem?_cons_succ, List.set_cons_zero, List.set_cons_succ, bind_s, Option.map_some, if_true, Nat.reduceAdd, Nat.reduceSub, Nat.reduceLeDiff, reduceIte, gSum_lst, gGt_eq, decide_eq_false hs, er]
    obtain ⟨acc', a6, a7, a8, a9, e, hl', ha'⟩ := works_loop i0 i1 m2 m4 N s4 ks (acc ++ [(ne % 10, l2)]) s6 (some (false, .int k)) (some (false, .int m)) (some (false, .lst (l2.map .int))) (fun x hx => hk x (List.mem_cons_of_mem _ hx)) (by simp; omega) (fun x hx => by
      rcases List.mem_append.mp hx with q | q
      · exact ha x q
      · rw [List.mem_singleton] at q; subst q; exact hl2)
    refine ⟨acc', a6, a7, a8, a9, ?_, by simp at hl'; simp; omega, ha'⟩
    rw [List.map_cons (l := ks)]
    unfold forL
    rw [List.map_append] at e
    simp only [List.map_cons, List.map_nil] at e elc
    simp only [mkF, startD, ap_Seq, back_ret, ap_Set, ap_SetF, ap_Call, ap_CB, ap_Cons, ap_Nil, ap_2, ap_C, ap_V, ap_VB, ap_Tup, ap_Lst, ap_If, ap_Not, ap_Nx, ap_Exp, ap_Par, ap_ParF, ap_Wh, ap_For, ap_IfS, ap_bN, ap_bT, ap_bC, ap_b0, ix0, ix1, gAdd_eq, gAddA_eq, gEqA_int, gEqA_int', ixA0, ixA1, gSub_eq, List.map_cons, List.map_nil, List.length_cons, List.length_nil, List.cons_append, List.nil_append, List.replicate, List.getElem?_cons_zero, List.getElem?_cons_succ, List.set_cons_zero, List.set_cons_succ, bind_s, Option.map_some, if_true, Nat.reduceAdd, Nat.reduceSub, Nat.reduceLeDiff, reduceIte] at e2
    simp only [mkF, startD, ap_Seq, back_ret, ap_Set, ap_SetF, ap_Call, ap_CB, ap_Cons, ap_Nil, ap_2, ap_C, ap_V, ap_VB, ap_Tup, ap_Lst, ap_If, ap_Not, ap_Nx, ap_Exp, ap_Par, ap_ParF, ap_Wh, ap_For, ap_IfS, ap_bN, ap_bT, ap_bC, ap_b0, ix0, ix1, gAdd_eq, gAddA_eq, gEqA_int, gEqA_int', ixA0, ixA1, gSub_eq, List.map_cons, List.map_nil, List.length_cons, List.length_nil, List.cons_append, List.nil_append, List.replicate, List.getElem?_cons_zero, List.getElem?_cons_succ, List.set_cons_zero, List.set_cons_succ, bind_s, Option.map_some, if_true, Nat.reduceAdd, Nat.reduceSub, Nat.reduceLeDiff, reduceIte, gInt_eq, en8, mMod_eq (show (0 : Int) < 2 by decide), em, elc, e2, ene, mMod_eq (show (0 : Int) < 10 by decide), gTup_lst, ap_App, List.length_map, if_pos (show acc.length < 1000 by omega)]
    simp only [wkD, List.map_cons, List.map_nil] at e ⊢
    exact e
end
theorem rng_nat (n : Nat) : rngD 0 n = (List.range n).map fun k => D.int (k : Nat) := by
  unfold rngD
  rw [show ((n : Int) - 0).toNat = n by omega]
  apply List.map_congr_left
  intro j _
  show D.int (0 + (j : Int)) = _
  rw [Int.zero_add]
theorem iR1_nat {f : DE1} {ρ : DEnv} {n : Nat} (h : f ρ = some (.int n)) (l : n ≤ 1000) : iR1 f ρ = some ((List.range n).map fun k => D.int (k : Nat)) := by
  rw [ap_iR1, h]
  simp only
  rw [if_pos (by unfold rngOk; apply decide_eq_true; omega), rng_nat]
section
variable (ns : List Int) (h : ns.length ≤ 63)
include h
theorem F_job_ex {idx : Int} (i0 : 0 ≤ idx) (i1 : idx ≤ 1000) : ∃ ws wk, Valid ws wk ∧ F_u_law_job [.scr ns, .int idx] = some (packD ws wk) := by
  obtain ⟨n1, e1⟩ := F_num ns h (i := idx) i0 (by omega)
  obtain ⟨n2, e2⟩ := F_num ns h (i := idx + 1) (by omega) (by omega)
  have b1 := emod_lt' n1 (show (0 : Int) < 3 by decide)
  have b2 := emod_lt' n2 (show (0 : Int) < 3 by decide)
  obtain ⟨m, hm⟩ : ∃ m : Nat, 2 + n1 % 3 = (m : Int) := ⟨(2 + n1 % 3).toNat, by omega⟩
  obtain ⟨k, hk⟩ : ∃ k : Nat, 2 + n2 % 3 = (k : Int) := ⟨(2 + n2 % 3).toNat, by omega⟩
  obtain ⟨ws, s6, ew, lw, hw⟩ := worths_loop ns h i0 i1 (some (false, .int m)) (some (false, .int k)) (some (true, .lst [])) none none none (List.range m) [] none (fun x hx => by rw [List.mem_range] at hx; omega) (by simp; omega) (fun x hx => by cases hx)
  obtain ⟨wk, a6, a7, a8, a9, ek, lk, hkk⟩ := works_loop ns h i0 i1 (many := m) (by omega) (by omega) (some (false, .int k)) (some (true, .lst (ws.map .int))) (List.range k) [] s6 none none none (fun x hx => by rw [List.mem_range] at hx; omega) (by simp; omega) (fun x hx => by cases hx)
  simp only [List.length_nil, List.length_range, Nat.zero_add] at lw lk
  refine ⟨ws, wk, ⟨by omega, by omega, hw, by omega, by omega, fun p hp => by rw [lw]; exact hkk p hp⟩, ?_⟩
  have r1 := iR1_nat (f := eV 2) (ρ := [some (false, .scr ns), some (false, .int idx), some (false, .int m), some (false, .int k), some (true, .lst []), some (true, .lst []), none, none, none, none]) (n := m) rfl (by omega)
  have r2 := iR1_nat (f := eV 3) (ρ := [some (false, .scr ns), some (false, .int idx), some (false, .int m), some (false, .int k), some (true, .lst (ws.map .int)), some (true, .lst []), s6, none, none, none]) (n := k) rfl (by omega)
  simp only [List.map_nil] at ew ek
  simp only [List.map_cons, List.map_nil] at ek
  simp only [F_u_law_job, g_u_law_job, mkF, startD, ap_Seq, back_ret, ap_Set, ap_SetF, ap_Call, ap_CB, ap_Cons, ap_Nil, ap_2, ap_C, ap_V, ap_VB, ap_Tup, ap_Lst, ap_If, ap_Not, ap_Nx, ap_Exp, ap_Par, ap_ParF, ap_Wh, ap_For, ap_IfS, ap_bN, ap_bT, ap_bC, ap_b0, ix0, ix1, gAdd_eq, gAddA_eq, gEqA_int, gEqA_int', ixA0, ixA1, gSub_eq, List.map_cons, List.map_nil, List.length_cons, List.length_nil, List.cons_append, List.nil_append, List.replicate, List.getElem?_cons_zero, List.getElem?_cons_succ, List.set_cons_zero, List.set_cons_succ, bind_s, Option.map_some, if_true, Nat.reduceAdd, Nat.reduceSub, Nat.reduceLeDiff, reduceIte, gInt_eq, e1, e2, mMod_eq (show (0 : Int) < 3 by decide), hm, hk, r1, ew, r2, ek, gTup_lst]
  rfl
end
end K04

set_option maxHeartbeats 1000000
/-! lines over the shares: which one is highest, where that changes -/
namespace K04R
abbrev Line := Rat × Rat
/-- what a line (worth, effort) gives at a share -/
def val (s : Rat) (l : Line) : Rat := s * l.1 - l.2
def lt (s : Rat) (a b : Line) : Prop := val s a < val s b ∨ (val s a = val s b ∧ a.1 < b.1)
instance (s : Rat) (a b : Line) : Decidable (lt s a b) := by unfold lt; infer_instance
/-- the k-th is the first of the best ones -/
structure Top (L : List Line) (s : Rat) (k : Nat) (l : Line) : Prop where
  at_ : L[k]? = some l
  max : ∀ (j : Nat) (m : Line), L[j]? = some m → ¬ lt s l m
  first : ∀ (j : Nat) (m : Line), j < k → L[j]? = some m → lt s m l
theorem lt_irr {s : Rat} {a b : Line} (h : lt s a b) (h' : lt s b a) : False := by unfold lt at h h'; grind
theorem Top.uniq {L : List Line} {s : Rat} {k k' : Nat} {l l' : Line} (h : Top L s k l) (h' : Top L s k' l') : k = k' ∧ l = l' := by
  have e : k = k' := by
    rcases Nat.lt_trichotomy k k' with z | z | z
    · exact absurd (h'.first k l z h.at_) (h.max _ _ h'.at_)
    · exact z
    · exact absurd (h.first k' l' z h'.at_) (h'.max _ _ h.at_)
  subst e
  have := h.at_; rw [h'.at_] at this; cases this
  exact ⟨rfl, rfl⟩
/-- the scan: the best so far -/
def scan (s : Rat) : Nat → Nat → Line → List Line → Nat × Line
  | _, b, m, [] => (b, m)
  | i, b, m, l :: r => if lt s m l then scan s (i + 1) i l r else scan s (i + 1) b m r
theorem lt_trans {s : Rat} {a b c : Line} (h : lt s a b) (h' : lt s b c) : lt s a c := by unfold lt at *; grind
theorem nlt_lt {s : Rat} {a b c : Line} (h : ¬ lt s b a) (h' : lt s b c) : lt s a c := by unfold lt at *; grind
theorem nlt_trans {s : Rat} {a b c : Line} (h : ¬ lt s b a) (h' : ¬ lt s c b) : ¬ lt s c a := by unfold lt at *; grind
theorem scan_top {L : List Line} {s : Rat} : ∀ (r : List Line) (i b : Nat) (m : Line), L.drop i = r → b < i → L[b]? = some m → (∀ (j : Nat) (n : Line), j < i → L[j]? = some n → ¬ lt s m n) → (∀ (j : Nat) (n : Line), j < b → L[j]? = some n → lt s n m) → Top L s (scan s i b m r).1 (scan s i b m r).2
  | [], i, b, m, hd, hb, hm, h1, h2 => by
    refine ⟨hm, fun j n hn => h1 j n ?_ hn, h2⟩
    have hl : L.length ≤ i := by
      have := congrArg List.length hd
      rw [List.length_drop] at this
      simp at this; omega
    obtain ⟨z, _⟩ := List.getElem?_eq_some_iff.mp hn
    omega
  | l :: r, i, b, m, hd, hb, hm, h1, h2 => by
    have hi : L[i]? = some l := by
      have := congrArg (·[0]?) hd
      simpa using this
    have hd' : L.drop (i + 1) = r := by
      have := congrArg (List.drop 1) hd
      simpa [List.drop_drop, Nat.add_comm] using this
    unfold scan
    by_cases c : lt s m l
    · rw [if_pos c]
      refine scan_top r (i + 1) i l hd' (Nat.lt_succ_self i) hi (fun j n hj hn => ?_) (fun j n hj hn => nlt_lt (h1 j n hj hn) c)
      rcases Nat.lt_succ_iff_lt_or_eq.mp hj with z | z
      · exact fun q => absurd (lt_trans c q) (h1 j n z hn)
      · subst z
        rw [hi] at hn; cases hn
        exact fun q => lt_irr q q
    · rw [if_neg c]
      refine scan_top r (i + 1) b m hd' (Nat.lt_succ_of_lt hb) hm (fun j n hj hn => ?_) h2
      rcases Nat.lt_succ_iff_lt_or_eq.mp hj with z | z
      · exact h1 j n z hn
      · subst z
        rw [hi] at hn; cases hn
        exact c
/-- the top line of (0, 0) and the others -/
def best (s : Rat) (R : List Line) : Nat × Line := scan s 1 0 (0, 0) R
theorem best_top (s : Rat) (R : List Line) : Top ((0, 0) :: R) s (best s R).1 (best s R).2 := by
  refine scan_top R 1 0 (0, 0) rfl (by decide) rfl (fun j n hj hn => ?_) (fun j n hj => by omega)
  have : j = 0 := by omega
  subst this
  cases hn
  exact fun q => lt_irr q q
/-! ### where the top changes -/
def cross (l m : Line) : Rat := (m.2 - l.2) / (m.1 - l.1)
theorem cross_eq {l m : Line} (h : l.1 < m.1) : val (cross l m) m = val (cross l m) l := by
  have h0 : m.1 - l.1 ≠ 0 := by grind
  have : (m.2 - l.2) / (m.1 - l.1) * (m.1 - l.1) = m.2 - l.2 := by grind
  unfold cross val
  grind
theorem below_cross {l m : Line} (h : l.1 < m.1) {t : Rat} : val t m < val t l ↔ t < cross l m := by
  have h0 : 0 < m.1 - l.1 := by grind
  have e : cross l m * (m.1 - l.1) = m.2 - l.2 := by unfold cross; grind
  unfold val
  constructor
  · intro q
    apply Classical.byContradiction
    intro hc
    have := Rat.mul_nonneg (show (0 : Rat) ≤ t - cross l m by grind) (show (0 : Rat) ≤ m.1 - l.1 by grind)
    grind
  · intro q
    have := Rat.mul_pos (show (0 : Rat) < cross l m - t by grind) h0
    grind
theorem stay {L : List Line} {s t : Rat} {k : Nat} {l : Line} (h : Top L s k l) (st : s ≤ t) (hc : ∀ (j : Nat) (m : Line), L[j]? = some m → l.1 < m.1 → t < cross l m) : Top L t k l := by
  have low : ∀ m : Line, m.1 ≤ l.1 → val s m ≤ val s l → val t m ≤ val t l := fun m hm hv => by
    have := Rat.mul_nonneg (show (0 : Rat) ≤ t - s by grind) (show (0 : Rat) ≤ l.1 - m.1 by grind)
    unfold val at *
    grind
  refine ⟨h.at_, fun j m hm q => ?_, fun j m hj hm => ?_⟩
  · by_cases c : l.1 < m.1
    · have := (below_cross c).mpr (hc j m hm c)
      unfold lt at q; grind
    · have h1 := h.max j m hm
      have := low m (by grind) (by unfold lt at h1; grind)
      unfold lt at q; grind
  · by_cases c : l.1 < m.1
    · have := (below_cross c).mpr (hc j m hm c)
      unfold lt; grind
    · have h1 := h.first j m hj hm
      by_cases e : m.1 = l.1
      · have h2 : val s m < val s l := by unfold lt at h1; grind
        have : val t m < val t l := by
          have q1 : val t m = val s m + (t - s) * m.1 := by unfold val; grind
          have q2 : val t l = val s l + (t - s) * l.1 := by unfold val; grind
          rw [q1, q2, e]; grind
        unfold lt; grind
      · have := low m (by grind) (by unfold lt at h1; grind)
        unfold lt; grind
theorem past {L : List Line} {s : Rat} {k : Nat} {l : Line} (h : Top L s k l) {j : Nat} {m : Line} (hm : L[j]? = some m) (c : l.1 < m.1) : s < cross l m := by
  apply (below_cross c).mp
  have := h.max j m hm
  unfold lt at this
  grind
theorem rise {L : List Line} {s t : Rat} {k k' : Nat} {l l' : Line} (h : Top L s k l) (st : s ≤ t) (h' : Top L t k' l') {j : Nat} {m : Line} (hm : L[j]? = some m) (c : l.1 < m.1) (e : val t m = val t l) : l.1 < l'.1 := by
  have h1 := h'.max j m hm
  have h2 := h.max k' l' h'.at_
  apply Classical.byContradiction
  intro q
  have := Rat.mul_nonneg (show (0 : Rat) ≤ t - s by grind) (show (0 : Rat) ≤ l.1 - l'.1 by grind)
  unfold lt val at *
  grind
/-- the least crossing with a steeper line, up to 1 -/
def nxt (l : Line) : Option Rat → List Line → Option Rat
  | b, [] => b
  | b, m :: r => if l.1 < m.1 ∧ ¬ 1 < cross l m ∧ (b = none ∨ ∃ x, b = some x ∧ cross l m < x) then nxt l (some (cross l m)) r else nxt l b r
theorem nxt_spec (l : Line) : ∀ (r : List Line) (b : Option Rat), (∀ x, b = some x → x ≤ 1) →
    (nxt l b r = none → b = none ∧ ∀ m ∈ r, l.1 < m.1 → 1 < cross l m) ∧
    (∀ x, nxt l b r = some x → (b = some x ∨ ∃ m ∈ r, l.1 < m.1 ∧ x = cross l m) ∧ x ≤ 1 ∧ (∀ y, b = some y → x ≤ y) ∧ ∀ m ∈ r, l.1 < m.1 → x ≤ cross l m)
  | [], b, h => ⟨fun e => ⟨e, fun m hm => by cases hm⟩, fun x e => ⟨.inl e, h x e, fun y ey => by
      have e' : b = some x := e
      rw [e'] at ey; cases ey; grind, fun m hm => by cases hm⟩⟩
  | m :: r, b, h => by
    unfold nxt
    by_cases c : l.1 < m.1 ∧ ¬ 1 < cross l m ∧ (b = none ∨ ∃ x, b = some x ∧ cross l m < x)
    · rw [if_pos c]
      obtain ⟨c1, c2, c3⟩ := c
      obtain ⟨i1, i2⟩ := nxt_spec l r (some (cross l m)) (fun x e => by cases e; grind)
      refine ⟨fun e => ?_, fun x e => ?_⟩
      · have := (i1 e).1; cases this
      · obtain ⟨j1, j2, j3, j4⟩ := i2 x e
        refine ⟨.inr ?_, j2, fun y ey => ?_, fun n hn hl => ?_⟩
        · rcases j1 with q | ⟨n, hn, q⟩
          · cases q; exact ⟨m, List.mem_cons_self, c1, rfl⟩
          · exact ⟨n, List.mem_cons_of_mem _ hn, q⟩
        · have := j3 _ rfl
          rcases c3 with q | ⟨z, q, q2⟩
          · rw [q] at ey; cases ey
          · rw [q] at ey; cases ey; grind
        · rcases List.mem_cons.mp hn with q | q
          · subst q; exact j3 _ rfl
          · exact j4 n q hl
    · rw [if_neg c]
      obtain ⟨i1, i2⟩ := nxt_spec l r b h
      refine ⟨fun e => ?_, fun x e => ?_⟩
      · obtain ⟨j1, j2⟩ := i1 e
        refine ⟨j1, fun n hn hl => ?_⟩
        rcases List.mem_cons.mp hn with q | q
        · subst q
          apply Classical.byContradiction
          intro q
          exact c ⟨hl, q, .inl j1⟩
        · exact j2 n q hl
      · obtain ⟨j1, j2, j3, j4⟩ := i2 x e
        refine ⟨?_, j2, j3, fun n hn hl => ?_⟩
        · rcases j1 with q | ⟨n, hn, q⟩
          · exact .inl q
          · exact .inr ⟨n, List.mem_cons_of_mem _ hn, q⟩
        · rcases List.mem_cons.mp hn with q | q
          · subst q
            by_cases z : 1 < cross l n
            · grind
            · cases eb : b with
              | none => exact absurd ⟨hl, z, .inl eb⟩ c
              | some y =>
                have h1 := j3 y eb
                have : ¬ cross l n < y := fun w => c ⟨hl, z, .inr ⟨y, eb, w⟩⟩
                grind
          · exact j4 n q hl
/-! ### the changes along ascending shares are the program's walk -/
def chg (R : List Line) : Nat → Line → List Rat → List (Rat × Nat × Line)
  | _, _, [] => []
  | k, l, t :: S => if (best t R).1 = k then chg R k l S else (t, best t R) :: chg R (best t R).1 (best t R).2 S
def walk (R : List Line) : Nat → Line → List (Rat × Nat × Line)
  | 0, _ => []
  | f + 1, l => match nxt l none R with
    | none => []
    | some t => (t, best t R) :: walk R f (best t R).2
def cnt (R : List Line) (l : Line) : Nat := (R.filter fun m => decide (l.1 < m.1)).length
theorem cnt_lt {R : List Line} {l m : Line} (h : l.1 < m.1) (hm : m ∈ R) : cnt R m < cnt R l := by
  unfold cnt
  induction R with
  | nil => cases hm
  | cons x R ih =>
    rw [List.filter_cons, List.filter_cons]
    have mono : (R.filter fun n => decide (m.1 < n.1)).length ≤ (R.filter fun n => decide (l.1 < n.1)).length := by
      clear ih hm
      induction R with
      | nil => simp
      | cons y R ih2 =>
        rw [List.filter_cons, List.filter_cons]
        by_cases c : m.1 < y.1
        · have : l.1 < y.1 := by grind
          simp [c, this, ih2]
        · by_cases c2 : l.1 < y.1
          · simp [c, c2]; omega
          · simp [c, c2, ih2]
    rcases List.mem_cons.mp hm with q | q
    · subst q
      have : ¬ m.1 < m.1 := by grind
      simp [this, h]; omega
    · have ih := ih q
      by_cases c : m.1 < x.1
      · have : l.1 < x.1 := by grind
        simp [c, this]; omega
      · by_cases c2 : l.1 < x.1
        · simp [c, c2]; omega
        · simp [c, c2]; omega
section
variable {R : List Line} (pos : ∀ m ∈ R, 0 ≤ m.1)
include pos
theorem top_pos {s : Rat} {k : Nat} {l : Line} (h : Top ((0, 0) :: R) s k l) : 0 ≤ l.1 := by
  have := List.mem_of_getElem? h.at_
  rcases List.mem_cons.mp this with q | q
  · subst q; decide
  · exact pos l q
theorem mem_steep {l : Line} (h0 : 0 ≤ l.1) {j : Nat} {m : Line} (hm : ((0, 0) :: R)[j]? = some m) (c : l.1 < m.1) : m ∈ R := by
  have := List.mem_of_getElem? hm
  rcases List.mem_cons.mp this with q | q
  · subst q; exact absurd c (by have : ¬ l.1 < (0 : Rat) := by grind
                                exact this)
  · exact q
theorem next_top {s : Rat} {k : Nat} {l : Line} (h : Top ((0, 0) :: R) s k l) : (nxt l none R = none → ∀ t, s ≤ t → t ≤ 1 → Top ((0, 0) :: R) t k l) ∧
    (∀ x, nxt l none R = some x → s < x ∧ x ≤ 1 ∧ (∃ m ∈ R, l.1 < m.1 ∧ x = cross l m) ∧ (∀ t, s ≤ t → t < x → Top ((0, 0) :: R) t k l) ∧ (best x R).1 ≠ k ∧ l.1 < (best x R).2.1) := by
  have h0 := top_pos pos h
  obtain ⟨i1, i2⟩ := nxt_spec l R none (fun x e => by cases e)
  refine ⟨fun e t st t1 => stay h st fun j m hm c => ?_, fun x e => ?_⟩
  · have := (i1 e).2 m (mem_steep pos h0 hm c) c
    grind
  · obtain ⟨j1, j2, _, j4⟩ := i2 x e
    rcases j1 with q | ⟨m, hm, c, ex⟩
    · cases q
    · obtain ⟨j, hj⟩ := List.mem_iff_getElem?.mp hm
      have hj' : ((0, 0) :: R)[j + 1]? = some m := by simpa using hj
      have sx : s < x := by rw [ex]; exact past h hj' c
      have hb := best_top x R
      have ev : val x m = val x l := by rw [ex]; exact cross_eq c
      have up := rise h (by grind) hb hj' c ev
      refine ⟨sx, j2, ⟨m, hm, c, ex⟩, fun t st tx => stay h st fun i n hn c2 => ?_, fun q => ?_, up⟩
      · have := j4 n (mem_steep pos h0 hn c2) c2
        grind
      · have h1 := hb.at_
        rw [q, h.at_] at h1
        have h2 := Option.some.inj h1
        rw [← h2] at up
        grind
theorem chg_walk : ∀ (S : List Rat) (s : Rat) (k : Nat) (l : Line) (f : Nat), Top ((0, 0) :: R) s k l → 0 ≤ s → (∀ t ∈ S, s ≤ t ∧ t ≤ 1) → S.Pairwise (· ≤ ·) →
    (∀ a ∈ (0, 0) :: R, ∀ m ∈ R, a.1 < m.1 → s < cross a m → cross a m ≤ 1 → cross a m ∈ S) → cnt R l < f → chg R k l S = walk R f l
  | S, s, k, l, 0, _, _, _, _, _, hf => absurd hf (Nat.not_lt_zero _)
  | [], s, k, l, f + 1, h, s0, _, _, hc, _ => by
    unfold walk chg
    cases e : nxt l none R with
    | none => rfl
    | some x =>
      obtain ⟨q1, q2, ⟨m, hm, c, ex⟩, _⟩ := (next_top pos h).2 x e
      have := hc l (List.mem_of_getElem? h.at_) m hm c (by grind) (by grind)
      cases this
  | t :: S, s, k, l, f + 1, h, s0, hS, ho, hc, hf => by
    have ht := hS t List.mem_cons_self
    have ho' := List.pairwise_cons.mp ho
    unfold chg
    by_cases c : (best t R).1 = k
    · rw [if_pos c]
      have hb := best_top t R
      have el : (best t R).2 = l := by
        have := hb.at_; rw [c, h.at_] at this; exact (Option.some.inj this).symm
      rw [c, el] at hb
      exact chg_walk S t k l (f + 1) hb (by grind) (fun u hu => ⟨ho'.1 u hu, (hS u (List.mem_cons_of_mem _ hu)).2⟩) ho'.2 (fun a ha m hm c1 c2 c3 => by
        rcases List.mem_cons.mp (hc a ha m hm c1 (by grind) c3) with q | q
        · exact absurd c2 (by rw [q]; grind)
        · exact q) hf
    · rw [if_neg c]
      have hb := best_top t R
      unfold walk
      cases e : nxt l none R with
      | none => exact absurd (hb.uniq ((next_top pos h).1 e t ht.1 ht.2)).1 c
      | some x =>
        obtain ⟨q1, q2, ⟨m, hm, cm, ex⟩, q4, q5, q6⟩ := (next_top pos h).2 x e
        have xt : x ≤ t := by
          apply Classical.byContradiction
          intro q
          exact c (hb.uniq (q4 t ht.1 (by grind))).1
        have hx := hc l (List.mem_of_getElem? h.at_) m hm cm (by grind) (by grind)
        rw [← ex] at hx
        have tx : x = t := by
          rcases List.mem_cons.mp hx with q | q
          · exact q
          · have := ho'.1 x q
            grind
        subst tx
        simp only
        congr 1
        have hbm : (best x R).2 ∈ R := by
          rcases List.mem_cons.mp (List.mem_of_getElem? hb.at_) with q | q
          · have := top_pos pos h
            rw [q] at q6
            exact absurd q6 (by grind)
          · exact q
        exact chg_walk S x _ _ f hb (by grind) (fun u hu => ⟨ho'.1 u hu, (hS u (List.mem_cons_of_mem _ hu)).2⟩) ho'.2 (fun a ha m hm c1 c2 c3 => by
          rcases List.mem_cons.mp (hc a ha m hm c1 (by grind) c3) with q | q
          · exact absurd c2 (by rw [q]; grind)
          · exact q) (by have := cnt_lt q6 hbm; omega)
/-! ### the best of them -/
def kp (t : Rat) (l : Line) : Rat := (1 - t) * l.1
def bst : Option (Rat × Rat) → List (Rat × Line) → Option (Rat × Rat)
  | b, [] => b
  | b, x :: r => if b = none ∨ ∃ y, b = some y ∧ y.2 < kp x.1 x.2 then bst (some (x.1, kp x.1 x.2)) r else bst b r
theorem bst_chg : ∀ (S : List Rat) (s : Rat) (k : Nat) (l : Line) (y : Rat × Rat), Top ((0, 0) :: R) s k l → (∀ t ∈ S, s ≤ t ∧ t ≤ 1) → S.Pairwise (· ≤ ·) → kp s l ≤ y.2 →
    bst (some y) (S.map fun t => (t, (best t R).2)) = bst (some y) ((chg R k l S).map fun x => (x.1, x.2.2))
  | [], s, k, l, y, _, _, _, _ => rfl
  | t :: S, s, k, l, y, h, hS, ho, hy => by
    have ht := hS t List.mem_cons_self
    have ho' := List.pairwise_cons.mp ho
    have h0 := top_pos pos h
    have hb := best_top t R
    have rest : ∀ u ∈ S, t ≤ u ∧ u ≤ 1 := fun u hu => ⟨ho'.1 u hu, (hS u (List.mem_cons_of_mem _ hu)).2⟩
    unfold chg
    by_cases c : (best t R).1 = k
    · rw [if_pos c]
      have el : (best t R).2 = l := by
        have := hb.at_; rw [c, h.at_] at this; exact (Option.some.inj this).symm
      have hk : kp t l ≤ kp s l := by
        have := Rat.mul_nonneg (show (0 : Rat) ≤ t - s by grind) h0
        unfold kp; grind
      rw [List.map_cons, bst, el]
      rw [if_neg (by
        intro q
        rcases q with q | ⟨z, q, q2⟩
        · cases q
        · cases q; grind)]
      rw [c, el] at hb
      exact bst_chg S t k l y hb rest ho'.2 (by grind)
    · rw [if_neg c, List.map_cons, List.map_cons, bst, bst]
      by_cases c2 : some y = none ∨ ∃ z, some y = some z ∧ z.2 < kp t (best t R).2
      · rw [if_pos c2, if_pos c2]
        exact bst_chg S t _ _ _ hb rest ho'.2 (by show kp t _ ≤ kp t _; grind)
      · rw [if_neg c2, if_neg c2]
        exact bst_chg S t _ _ y hb rest ho'.2 (by
          apply Classical.byContradiction
          intro q
          exact c2 (.inr ⟨y, rfl, by grind⟩))
end
end K04R

set_option maxHeartbeats 2000000
namespace K04
open PySem PySem.Spec PyProof.Rows L2 DL
/-! ### fractions as rationals -/
def toR (p : Qp) : Rat := (p.1 : Rat) / (p.2 : Rat)
theorem ne0 {b : Int} (h : b ≠ 0) : (b : Rat) ≠ 0 := fun z => h (by simpa using z)
theorem toR_of {p : Qp} {t b : Int} (h2 : p.2 ≠ 0) (hb : b ≠ 0) (e : p.1 * b = t * p.2) : toR p = (t : Rat) / (b : Rat) := by
  have e' : (p.1 : Rat) * (b : Rat) = (t : Rat) * (p.2 : Rat) := by
    rw [← Rat.intCast_mul, ← Rat.intCast_mul, e]
  have h2' := ne0 h2
  have hb' := ne0 hb
  unfold toR
  generalize (p.1 : Rat) = x at *
  generalize (p.2 : Rat) = y at *
  grind
theorem low_pos {t b : Int} (h : 0 < b) : 0 < (low t b).2 := by
  obtain ⟨n, hn⟩ : ∃ n, t.natAbs < 2 ^ n := ⟨_, Nat.lt_two_pow_self⟩
  obtain ⟨m, hm⟩ : ∃ m, b.natAbs < 2 ^ m := ⟨_, Nat.lt_two_pow_self⟩
  exact (low_ok (n := n + m) h (Nat.lt_of_lt_of_le hn (Nat.pow_le_pow_right (by decide) (by omega))) (Nat.lt_of_lt_of_le hm (Nat.pow_le_pow_right (by decide) (by omega)))).pos
theorem toR_low {t b : Int} (h : 0 < b) : toR (low t b) = (t : Rat) / (b : Rat) := toR_of (by have := low_pos (t := t) h; omega) (by omega) (low_val h)
section
variable {p q : Qp} {n m : Nat} (hp : Ok n p) (hq : Ok m q)
include hp hq
theorem toR_add : toR (qadd p q) = toR p + toR q := by
  have h1 := ne0 (show p.2 ≠ 0 by have := hp.pos; omega)
  have h2 := ne0 (show q.2 ≠ 0 by have := hq.pos; omega)
  unfold qadd
  rw [toR_low (Int.mul_pos hp.pos hq.pos), Rat.intCast_add, Rat.intCast_mul, Rat.intCast_mul, Rat.intCast_mul]
  unfold toR
  generalize (p.1 : Rat) = a at *
  generalize (p.2 : Rat) = b at *
  generalize (q.1 : Rat) = c at *
  generalize (q.2 : Rat) = d at *
  grind
theorem toR_sub : toR (qsub p q) = toR p - toR q := by
  have h1 := ne0 (show p.2 ≠ 0 by have := hp.pos; omega)
  have h2 := ne0 (show q.2 ≠ 0 by have := hq.pos; omega)
  unfold qsub
  rw [toR_low (Int.mul_pos hp.pos hq.pos), Rat.intCast_sub, Rat.intCast_mul, Rat.intCast_mul, Rat.intCast_mul]
  unfold toR
  generalize (p.1 : Rat) = a at *
  generalize (p.2 : Rat) = b at *
  generalize (q.1 : Rat) = c at *
  generalize (q.2 : Rat) = d at *
  grind
theorem toR_mul : toR (qmul p q) = toR p * toR q := by
  have h1 := ne0 (show p.2 ≠ 0 by have := hp.pos; omega)
  have h2 := ne0 (show q.2 ≠ 0 by have := hq.pos; omega)
  unfold qmul
  rw [toR_low (Int.mul_pos hp.pos hq.pos), Rat.intCast_mul, Rat.intCast_mul]
  unfold toR
  generalize (p.1 : Rat) = a at *
  generalize (p.2 : Rat) = b at *
  generalize (q.1 : Rat) = c at *
  generalize (q.2 : Rat) = d at *
  grind
theorem toR_lt : (p.1 * q.2 < q.1 * p.2) ↔ toR p < toR q := by
  have h1 : (0 : Rat) < (p.2 : Rat) := by have := hp.pos; exact_mod_cast this
  have h2 : (0 : Rat) < (q.2 : Rat) := by have := hq.pos; exact_mod_cast this
  have e : (p.1 * q.2 < q.1 * p.2) ↔ (p.1 : Rat) * (q.2 : Rat) < (q.1 : Rat) * (p.2 : Rat) := by
    rw [← Rat.intCast_mul, ← Rat.intCast_mul]
    exact_mod_cast Iff.rfl
  rw [e]
  unfold toR
  have ha : (p.1 : Rat) = (p.1 : Rat) / (p.2 : Rat) * (p.2 : Rat) := by grind
  have hb : (q.1 : Rat) = (q.1 : Rat) / (q.2 : Rat) * (q.2 : Rat) := by grind
  generalize (p.1 : Rat) / (p.2 : Rat) = x at *
  generalize (q.1 : Rat) / (q.2 : Rat) = y at *
  rw [ha, hb]
  generalize (p.2 : Rat) = b at *
  generalize (q.2 : Rat) = d at *
  have bd := Rat.mul_pos h1 h2
  constructor
  · intro h
    apply Classical.byContradiction
    intro hc
    have := Rat.mul_nonneg (show (0 : Rat) ≤ x - y by grind) (show (0 : Rat) ≤ b * d by grind)
    grind
  · intro h
    have := Rat.mul_pos (show (0 : Rat) < y - x by grind) bd
    grind
theorem qlt_R : qlt p q = decide (toR p < toR q) := by
  unfold qlt
  rw [decide_eq_decide]
  exact toR_lt hp hq
theorem toR_inj (h : toR p = toR q) : p = q := by
  refine q_ext hp hq ?_
  have h1 := ne0 (show p.2 ≠ 0 by have := hp.pos; omega)
  have h2 := ne0 (show q.2 ≠ 0 by have := hq.pos; omega)
  have : (p.1 : Rat) * (q.2 : Rat) = (q.1 : Rat) * (p.2 : Rat) := by
    unfold toR at h
    generalize (p.1 : Rat) = a at *
    generalize (p.2 : Rat) = b at *
    generalize (q.1 : Rat) = c at *
    generalize (q.2 : Rat) = d at *
    grind
  rw [← Rat.intCast_mul, ← Rat.intCast_mul] at this
  exact_mod_cast this
end
theorem toR_int (z : Int) : toR (z, 1) = z := by
  show (z : Rat) / ((1 : Int) : Rat) = z
  have : ((1 : Int) : Rat) = 1 := rfl
  rw [this]
  grind
theorem toR_one1 (z : Int) : toR (one1 z) = z := toR_int z
theorem flip_ok {q : Qp} {m : Nat} (hq : Ok m q) (h : 0 < q.1) : Ok m (q.2, q.1) := ⟨h, by show Nat.gcd q.2.natAbs q.1.natAbs = 1; rw [Nat.gcd_comm]; exact hq.cop, hq.b2, hq.b1⟩
theorem toR_flip {q : Qp} {m : Nat} (hq : Ok m q) (h : 0 < q.1) : toR (q.2, q.1) = (toR q)⁻¹ := by
  have h1 := ne0 (show q.1 ≠ 0 by omega)
  have h2 := ne0 (show q.2 ≠ 0 by have := hq.pos; omega)
  unfold toR
  show (q.2 : Rat) / (q.1 : Rat) = _
  generalize (q.1 : Rat) = a at *
  generalize (q.2 : Rat) = b at *
  grind
theorem F_inverse_eq {q : Qp} (h : 0 < q.1) : F_inverse [qd q] = some (qd (q.2, q.1)) := by
  have e2 : bT (bCons (bN 1) (bCons (bN 2) bNil)) (qd q) [some (false, qd q), none, none] = some [some (false, qd q), some (false, .int q.1), some (false, .int q.2)] := rfl
  simp only [F_inverse, g_inverse, mkF, startD, ap_Seq, back_ret, ap_Set, ap_SetF, ap_Call, ap_CB, ap_Cons, ap_Nil, ap_2, ap_C, ap_V, ap_VB, ap_Tup, ap_Lst, ap_If, ap_Not, ap_Nx, ap_Exp, ap_Par, ap_ParF, ap_Wh, ap_For, ap_IfS, ap_bN, ap_bT, ap_bC, ap_b0, ix0, ix1, gAdd_eq, gAddA_eq, gEqA_int, gEqA_int', ixA0, ixA1, gSub_eq, List.map_cons, List.map_nil, List.length_cons, List.length_nil, List.cons_append, List.nil_append, List.replicate, List.getElem?_cons_zero, List.getElem?_cons_succ, List.set_cons_zero, List.set_cons_succ, bind_s, Option.map_some, if_true, Nat.reduceAdd, Nat.reduceSub, Nat.reduceLeDiff, reduceIte, ap_Asg, e2, gGt_eq, decide_eq_true h]
  rfl
def qdiv (p q : Qp) : Qp := qmul p (q.2, q.1)
theorem F_over_eq {p q : Qp} {n m : Nat} (hp : Ok n p) (hq : Ok m q) (h : 0 < q.1) (l : n + m ≤ 8000) : F_over [qd p, qd q] = some (qd (qdiv p q)) := by
  simp only [F_over, g_over, mkF, startD, ap_Seq, back_ret, ap_Set, ap_SetF, ap_Call, ap_CB, ap_Cons, ap_Nil, ap_2, ap_C, ap_V, ap_VB, ap_Tup, ap_Lst, ap_If, ap_Not, ap_Nx, ap_Exp, ap_Par, ap_ParF, ap_Wh, ap_For, ap_IfS, ap_bN, ap_bT, ap_bC, ap_b0, ix0, ix1, gAdd_eq, gAddA_eq, gEqA_int, gEqA_int', ixA0, ixA1, gSub_eq, List.map_cons, List.map_nil, List.length_cons, List.length_nil, List.cons_append, List.nil_append, List.replicate, List.getElem?_cons_zero, List.getElem?_cons_succ, List.set_cons_zero, List.set_cons_succ, bind_s, Option.map_some, if_true, Nat.reduceAdd, Nat.reduceSub, Nat.reduceLeDiff, reduceIte, F_inverse_eq h, F_times_eq hp (flip_ok hq h) l]
  rfl
theorem toR_div {p q : Qp} {n m : Nat} (hp : Ok n p) (hq : Ok m q) (h : 0 < q.1) : toR (qdiv p q) = toR p / toR q := by
  unfold qdiv
  rw [toR_mul hp (flip_ok hq h), toR_flip hq h, Rat.div_def]
theorem qdiv_ok {p q : Qp} {n m : Nat} (hp : Ok n p) (hq : Ok m q) (h : 0 < q.1) : Ok (n + m) (qdiv p q) := qmul_ok hp (flip_ok hq h)
theorem pos_R {q : Qp} {m : Nat} (hq : Ok m q) : 0 < q.1 ↔ 0 < toR q := by
  have z : Ok 1 ((0, 1) : Qp) := ⟨by decide, by decide, by decide, by decide⟩
  have := toR_lt z hq
  rw [toR_int] at this
  simpa using this
theorem eq_qd (p q : Qp) : gEqA false (qd p) (qd q) = some (.bl (decide (p = q))) := by
  have : gEqA false (qd p) (qd q) = some (.bl (p.1 == q.1 && (p.2 == q.2 && true))) := rfl
  rw [this]
  congr 2
  rw [Bool.and_true]
  by_cases h : p = q
  · subst h; simp
  · rw [decide_eq_false h]
    by_cases h1 : p.1 = q.1
    · have h2 : ¬ p.2 = q.2 := fun z => h (Prod.ext h1 z)
      simp [h2]
    · simp [h1]
end K04

set_option maxHeartbeats 2000000
namespace K04
open PySem PySem.Spec PyProof.Rows L2 DL K04R
/-! ### the works as lines -/
abbrev Wq := Qp × Int
def Lq (ws : List Int) (wk : List (Int × List Int)) : List Wq := wk.map fun p => (avQ p (ws.map one1), p.1)
def Lq0 (ws : List Int) (wk : List (Int × List Int)) : List Wq := ((0, 1), 0) :: Lq ws wk
def lnR (x : Wq) : Line := (toR x.1, (x.2 : Rat))
def RL (ws : List Int) (wk : List (Int × List Int)) : List Line := (Lq ws wk).map lnR
theorem lnR0 : lnR ((0, 1), 0) = (0, 0) := by
  unfold lnR
  rw [show toR (0, 1) = ((0 : Int) : Rat) from toR_int 0]
  rfl
theorem RL0 (ws : List Int) (wk : List (Int × List Int)) : (Lq0 ws wk).map lnR = (0, 0) :: RL ws wk := by
  unfold Lq0 RL
  rw [List.map_cons, lnR0]
def wD : Nat → D
  | 0 => .non
  | i + 1 => .int i
theorem low_nn {t b : Int} (h : 0 ≤ t) : 0 ≤ (low t b).1 := Int.ediv_nonneg h (by omega)
theorem fold_nn : ∀ (ps : List Qp) (a : Qp), 0 ≤ a.1 → 0 ≤ a.2 → (∀ p ∈ ps, 0 ≤ p.1 ∧ 0 < p.2) → 0 ≤ (ps.foldl qadd a).1
  | [], a, h, _, _ => h
  | p :: ps, a, h, h2, H => by
    have hp := H p List.mem_cons_self
    refine fold_nn ps (qadd a p) (low_nn ?_) ?_ fun q hq => H q (List.mem_cons_of_mem _ hq)
    · have := Int.mul_nonneg h (show 0 ≤ p.2 by omega)
      have := Int.mul_nonneg hp.1 h2
      omega
    · show 0 ≤ a.2 * p.2 / _
      exact Int.ediv_nonneg (Int.mul_nonneg h2 (by omega)) (by omega)
theorem Ok.nnR {n : Nat} {p : Qp} (h : Ok n p) (h0 : 0 ≤ p.1) : 0 ≤ toR p := by
  by_cases z : p.1 = 0
  · unfold toR; rw [z]; show (0 : Rat) ≤ ((0 : Int) : Rat) / _; rw [show ((0 : Int) : Rat) = 0 from rfl]; grind
  · have := (pos_R h).mp (by omega); grind
structure WOk (x : Wq) : Prop where
  ok : Ok 85 x.1
  nn : 0 ≤ x.1.1
  e0 : 0 ≤ x.2
  e1 : x.2 ≤ 9
theorem ok0 : Ok 85 ((0, 1) : Qp) := ⟨by decide, by decide, by decide, by decide⟩
section
variable {ws : List Int} {wk : List (Int × List Int)} (V : Valid ws wk)
include V
theorem ws_ok : ∀ q ∈ ws.map one1, Ok 10 q := fun q hq => by
  obtain ⟨x, hx, rfl⟩ := List.mem_map.mp hq
  exact one1_ok (V.w x hx).1 (V.w x hx).2
theorem Lq_ok : ∀ x ∈ Lq ws wk, WOk x := fun x hx => by
  obtain ⟨p, hp, rfl⟩ := List.mem_map.mp hx
  have hk := V.k p hp
  refine ⟨avQ_ok hk V.l2 (ws_ok V), ?_, hk.e0, hk.e1⟩
  refine fold_nn _ _ (by decide) (by decide) fun q hq => ?_
  obtain ⟨⟨a, b⟩, hab, rfl⟩ := List.mem_map.mp hq
  have hm := List.of_mem_zip hab
  have oa := chQ_ok hk V.l2 a hm.1
  have ob := ws_ok V b hm.2
  have na : 0 ≤ a.1 := by
    obtain ⟨y, hy, rfl⟩ := List.mem_map.mp hm.1
    exact low_nn (hk.part y hy).1
  have nb : 0 ≤ b.1 := by
    obtain ⟨y, hy, rfl⟩ := List.mem_map.mp hm.2
    exact (V.w y hy).1
  exact ⟨low_nn (Int.mul_nonneg na nb), (qmul_ok oa ob).pos⟩
theorem Lq0_ok : ∀ x ∈ Lq0 ws wk, WOk x := fun x hx => by
  rcases List.mem_cons.mp hx with q | q
  · subst q; exact ⟨ok0, by decide, by decide, by decide⟩
  · exact Lq_ok V x q
theorem at_ok {k : Nat} {x : Wq} (h : (Lq0 ws wk)[k]? = some x) : WOk x := Lq0_ok V x (List.mem_of_getElem? h)
theorem F_worth_at {k : Nat} {x : Wq} (h : (Lq0 ws wk)[k]? = some x) : F_u_worth [jobD ws wk, wD k] = some (qd x.1) := by
  cases k with
  | zero => cases h; rfl
  | succ i =>
    have h : (wk.map fun p => ((avQ p (ws.map one1), p.1) : Wq))[i]? = some x := h
    rw [List.getElem?_map, Option.map_eq_some_iff] at h
    obtain ⟨p, hp, rfl⟩ := h
    have en : gIsN false (.int i) .non = some (.bl false) := rfl
    simp only [F_u_worth, g_u_worth, wD, mkF, startD, ap_Seq, back_ret, ap_Set, ap_SetF, ap_Call, ap_CB, ap_Cons, ap_Nil, ap_2, ap_C, ap_V, ap_VB, ap_Tup, ap_Lst, ap_If, ap_Not, ap_Nx, ap_Exp, ap_Par, ap_ParF, ap_Wh, ap_For, ap_IfS, ap_bN, ap_bT, ap_bC, ap_b0, ix0, ix1, gAdd_eq, gAddA_eq, gEqA_int, gEqA_int', ixA0, ixA1, gSub_eq, List.map_cons, List.map_nil, List.length_cons, List.length_nil, List.cons_append, List.nil_append, List.replicate, List.getElem?_cons_zero, List.getElem?_cons_succ, List.set_cons_zero, List.set_cons_succ, bind_s, Option.map_some, if_true, Nat.reduceAdd, Nat.reduceSub, Nat.reduceLeDiff, reduceIte, en, F_avworth V hp]
theorem F_effort_at {k : Nat} {x : Wq} (h : (Lq0 ws wk)[k]? = some x) : F_u_effort [jobD ws wk, wD k] = some (qd (one1 x.2)) := by
  cases k with
  | zero => cases h; rfl
  | succ i =>
    have h : (wk.map fun p => ((avQ p (ws.map one1), p.1) : Wq))[i]? = some x := h
    rw [List.getElem?_map, Option.map_eq_some_iff] at h
    obtain ⟨p, hp, rfl⟩ := h
    have en : gIsN false (.int i) .non = some (.bl false) := rfl
    have e2 : gIxA (.lst (wk.map fun p => qd (one1 p.1))) (.int i) = some (qd (one1 p.1)) := ixA_lst_map (f := fun p : Int × List Int => qd (one1 p.1)) hp
    simp only [F_u_effort, g_u_effort, wD, mkF, startD, ap_Seq, back_ret, ap_Set, ap_SetF, ap_Call, ap_CB, ap_Cons, ap_Nil, ap_2, ap_C, ap_V, ap_VB, ap_Tup, ap_Lst, ap_If, ap_Not, ap_Nx, ap_Exp, ap_Par, ap_ParF, ap_Wh, ap_For, ap_IfS, ap_bN, ap_bT, ap_bC, ap_b0, ix0, ix1, gAdd_eq, gAddA_eq, gEqA_int, gEqA_int', ixA0, ixA1, gSub_eq, List.map_cons, List.map_nil, List.length_cons, List.length_nil, List.cons_append, List.nil_append, List.replicate, List.getElem?_cons_zero, List.getElem?_cons_succ, List.set_cons_zero, List.set_cons_succ, bind_s, Option.map_some, if_true, Nat.reduceAdd, Nat.reduceSub, Nat.reduceLeDiff, reduceIte, en, F_efforts V, e2]
end
/-! ### gains -/
def gnQ (s : Qp) (x : Wq) : Qp := qsub (qmul s x.1) (one1 x.2)
theorem one_ok {x : Wq} (h : WOk x) : Ok 10 (one1 x.2) := one1_ok h.e0 (by have := h.e1; omega)
theorem gn_ok {n : Nat} {s : Qp} {x : Wq} (hs : Ok n s) (h : WOk x) : Ok (n + 96) (gnQ s x) := (qsub_ok (qmul_ok hs h.ok) (one_ok h)).mono (by omega)
theorem gn_R {n : Nat} {s : Qp} {x : Wq} (hs : Ok n s) (h : WOk x) : toR (gnQ s x) = val (toR s) (lnR x) := by
  unfold gnQ val lnR
  rw [toR_sub (qmul_ok hs h.ok) (one_ok h), toR_mul hs h.ok, toR_one1]
theorem pref_R {n : Nat} {s : Qp} {x y : Wq} (hs : Ok n s) (hx : WOk x) (hy : WOk y) : (if gnQ s x = gnQ s y then qlt y.1 x.1 else qlt (gnQ s y) (gnQ s x)) = decide (lt (toR s) (lnR y) (lnR x)) := by
  have e1 := gn_R hs hx
  have e2 := gn_R hs hy
  have o1 := gn_ok hs hx
  have o2 := gn_ok hs hy
  have key : lt (toR s) (lnR y) (lnR x) ↔ (toR (gnQ s y) < toR (gnQ s x) ∨ (toR (gnQ s y) = toR (gnQ s x) ∧ toR y.1 < toR x.1)) := by
    rw [e1, e2]; exact Iff.rfl
  by_cases c : gnQ s x = gnQ s y
  · rw [if_pos c, qlt_R hy.ok hx.ok, decide_eq_decide, key, c]
    constructor
    · exact fun h => .inr ⟨rfl, h⟩
    · exact fun h => h.elim (fun q => absurd q (by grind)) fun q => q.2
  · rw [if_neg c, qlt_R o2 o1, decide_eq_decide, key]
    constructor
    · exact fun h => .inl h
    · exact fun h => h.elim (fun q => q) fun q => absurd (toR_inj o2 o1 q.1).symm c
section
variable {ws : List Int} {wk : List (Int × List Int)} (V : Valid ws wk) {n : Nat} {s : Qp} (hs : Ok n s) (ln : n ≤ 1000)
include V hs ln
theorem F_gain_at {k : Nat} {x : Wq} (h : (Lq0 ws wk)[k]? = some x) : F_u_gain [jobD ws wk, qd s, wD k] = some (qd (gnQ s x)) := by
  have hx := at_ok V h
  simp only [F_u_gain, g_u_gain, mkF, startD, ap_Seq, back_ret, ap_Set, ap_SetF, ap_Call, ap_CB, ap_Cons, ap_Nil, ap_2, ap_C, ap_V, ap_VB, ap_Tup, ap_Lst, ap_If, ap_Not, ap_Nx, ap_Exp, ap_Par, ap_ParF, ap_Wh, ap_For, ap_IfS, ap_bN, ap_bT, ap_bC, ap_b0, ix0, ix1, gAdd_eq, gAddA_eq, gEqA_int, gEqA_int', ixA0, ixA1, gSub_eq, List.map_cons, List.map_nil, List.length_cons, List.length_nil, List.cons_append, List.nil_append, List.replicate, List.getElem?_cons_zero, List.getElem?_cons_succ, List.set_cons_zero, List.set_cons_succ, bind_s, Option.map_some, if_true, Nat.reduceAdd, Nat.reduceSub, Nat.reduceLeDiff, reduceIte, F_worth_at V h, F_effort_at V h, F_times_eq hs hx.ok (by omega), F_minus_eq (qmul_ok hs hx.ok) (one_ok hx) (by omega)]
  rfl
theorem F_pref_at {j k : Nat} {x y : Wq} (hj : (Lq0 ws wk)[j]? = some x) (hk : (Lq0 ws wk)[k]? = some y) : F_u_is_preferred [jobD ws wk, qd s, wD j, wD k] = some (.bl (decide (lt (toR s) (lnR y) (lnR x)))) := by
  have hx := at_ok V hj
  have hy := at_ok V hk
  rw [← pref_R hs hx hy]
  have e1 := F_is_less_eq hy.ok hx.ok (by omega)
  have e2 := F_is_less_eq (gn_ok hs hy) (gn_ok hs hx) (by omega)
  simp only [F_u_is_preferred, g_u_is_preferred, mkF, startD, ap_Seq, back_ret, ap_Set, ap_SetF, ap_Call, ap_CB, ap_Cons, ap_Nil, ap_2, ap_C, ap_V, ap_VB, ap_Tup, ap_Lst, ap_If, ap_Not, ap_Nx, ap_Exp, ap_Par, ap_ParF, ap_Wh, ap_For, ap_IfS, ap_bN, ap_bT, ap_bC, ap_b0, ix0, ix1, gAdd_eq, gAddA_eq, gEqA_int, gEqA_int', ixA0, ixA1, gSub_eq, List.map_cons, List.map_nil, List.length_cons, List.length_nil, List.cons_append, List.nil_append, List.replicate, List.getElem?_cons_zero, List.getElem?_cons_succ, List.set_cons_zero, List.set_cons_succ, bind_s, Option.map_some, if_true, Nat.reduceAdd, Nat.reduceSub, Nat.reduceLeDiff, reduceIte, F_gain_at V hs ln hj, F_gain_at V hs ln hk, eq_qd]
  by_cases c : gnQ s x = gnQ s y
  · simp only [c, decide_true, if_true, mkF, startD, ap_Seq, back_ret, ap_Set, ap_SetF, ap_Call, ap_CB, ap_Cons, ap_Nil, ap_2, ap_C, ap_V, ap_VB, ap_Tup, ap_Lst, ap_If, ap_Not, ap_Nx, ap_Exp, ap_Par, ap_ParF, ap_Wh, ap_For, ap_IfS, ap_bN, ap_bT, ap_bC, ap_b0, ix0, ix1, gAdd_eq, gAddA_eq, gEqA_int, gEqA_int', ixA0, ixA1, gSub_eq, List.map_cons, List.map_nil, List.length_cons, List.length_nil, List.cons_append, List.nil_append, List.replicate, List.getElem?_cons_zero, List.getElem?_cons_succ, List.set_cons_zero, List.set_cons_succ, bind_s, Option.map_some, if_true, Nat.reduceAdd, Nat.reduceSub, Nat.reduceLeDiff, reduceIte, F_worth_at V hj, F_worth_at V hk, e1, gRet, backD]
  · simp only [c, decide_false, if_false, mkF, startD, ap_Seq, back_ret, ap_Set, ap_SetF, ap_Call, ap_CB, ap_Cons, ap_Nil, ap_2, ap_C, ap_V, ap_VB, ap_Tup, ap_Lst, ap_If, ap_Not, ap_Nx, ap_Exp, ap_Par, ap_ParF, ap_Wh, ap_For, ap_IfS, ap_bN, ap_bT, ap_bC, ap_b0, ix0, ix1, gAdd_eq, gAddA_eq, gEqA_int, gEqA_int', ixA0, ixA1, gSub_eq, List.map_cons, List.map_nil, List.length_cons, List.length_nil, List.cons_append, List.nil_append, List.replicate, List.getElem?_cons_zero, List.getElem?_cons_succ, List.set_cons_zero, List.set_cons_succ, bind_s, Option.map_some, if_true, Nat.reduceAdd, Nat.reduceSub, Nat.reduceLeDiff, reduceIte, e2]
theorem done_loop (J : D) (hJ : J = jobD ws wk) : ∀ (r : List Wq) (i b : Nat) (m : Wq) (sl : Slot), (Lq ws wk).drop i = r → (Lq0 ws wk)[b]? = some m →
    ∃ sl', forL (bN 3) (gIf (eCall 4 F_u_is_preferred (aCons (eV 0) (aCons (eV 1) (aCons (eV 3) (aCons (eV 2) aNil))))) (gSet 2 (eV 3)) gNx) ((List.range' i r.length).map fun k => D.int (k : Nat)) [some (false, J), some (false, qd s), some (false, wD b), sl]
      = .nx [some (false, J), some (false, qd s), some (false, wD (K04R.scan (toR s) (i + 1) b (lnR m) (r.map lnR)).1), sl']
  | [], i, b, m, sl, _, _ => ⟨sl, rfl⟩
  | x :: r, i, b, m, sl, hd, hb => by
    have hi : (Lq ws wk)[i]? = some x := by
      have := congrArg (·[0]?) hd
      simpa using this
    have hi0 : (Lq0 ws wk)[i + 1]? = some x := hi
    have hd' : (Lq ws wk).drop (i + 1) = r := by
      have := congrArg (List.drop 1) hd
      simpa [List.drop_drop, Nat.add_comm] using this
    have ep := F_pref_at V hs ln hi0 hb
    rw [← hJ] at ep
    have ep : F_u_is_preferred [J, qd s, .int i, wD b] = _ := ep
    rw [List.length_cons, List.range'_succ, List.map_cons, List.map_cons (f := lnR)]
    unfold forL K04R.scan
    by_cases c : lt (toR s) (lnR m) (lnR x)
    · obtain ⟨sl', e⟩ := done_loop J hJ r (i + 1) (i + 1) x (some (false, .int i)) hd' hi0
      refine ⟨sl', ?_⟩
      rw [if_pos c]
      simp only [mkF, startD, ap_Seq, back_ret, ap_Set, ap_SetF, ap_Call, ap_CB, ap_Cons, ap_Nil, ap_2, ap_C, ap_V, ap_VB, ap_Tup, ap_Lst, ap_If, ap_Not, ap_Nx, ap_Exp, ap_Par, ap_ParF, ap_Wh, ap_For, ap_IfS, ap_bN, ap_bT, ap_bC, ap_b0, ix0, ix1, gAdd_eq, gAddA_eq, gEqA_int, gEqA_int', ixA0, ixA1, gSub_eq, List.map_cons, List.map_nil, List.length_cons, List.length_nil, List.cons_append, List.nil_append, List.replicate, List.getElem?_cons_zero, List.getElem?_cons_succ, List.set_cons_zero, List.set_cons_succ, bind_s, Option.map_some, if_true, Nat.reduceAdd, Nat.reduceSub, Nat.reduceLeDiff, reduceIte, ep, decide_eq_true c]
      exact e
    · obtain ⟨sl', e⟩ := done_loop J hJ r (i + 1) b m (some (false, .int i)) hd' hb
      refine ⟨sl', ?_⟩
      rw [if_neg c]
      simp only [mkF, startD, ap_Seq, back_ret, ap_Set, ap_SetF, ap_Call, ap_CB, ap_Cons, ap_Nil, ap_2, ap_C, ap_V, ap_VB, ap_Tup, ap_Lst, ap_If, ap_Not, ap_Nx, ap_Exp, ap_Par, ap_ParF, ap_Wh, ap_For, ap_IfS, ap_bN, ap_bT, ap_bC, ap_b0, ix0, ix1, gAdd_eq, gAddA_eq, gEqA_int, gEqA_int', ixA0, ixA1, gSub_eq, List.map_cons, List.map_nil, List.length_cons, List.length_nil, List.cons_append, List.nil_append, List.replicate, List.getElem?_cons_zero, List.getElem?_cons_succ, List.set_cons_zero, List.set_cons_succ, bind_s, Option.map_some, if_true, Nat.reduceAdd, Nat.reduceSub, Nat.reduceLeDiff, reduceIte, ep, decide_eq_false c]
      exact e
end
end K04

set_option maxHeartbeats 2000000
namespace K04
open PySem PySem.Spec PyProof.Rows L2 DL K04R
theorem ok1 : Ok 10 ((1, 1) : Qp) := ⟨by decide, by decide, by decide, by decide⟩
theorem ok00 : Ok 10 ((0, 1) : Qp) := ⟨by decide, by decide, by decide, by decide⟩
theorem R1 : toR (1, 1) = 1 := toR_int 1
theorem R0 : toR (0, 1) = 0 := toR_int 0
/-- a share -/
structure Shr (n : Nat) (s : Qp) : Prop where
  ok : Ok n s
  nn : 0 ≤ s.1
  le : toR s ≤ 1
theorem F_cshare {n : Nat} {s : Qp} (h : Shr n s) (ln : n ≤ 1000) : F_u_check_share [qd s] = some (.v .non) := by
  have e1 := F_is_less_eq ok1 h.ok (by omega)
  have e2 : qlt (1, 1) s = false := by
    rw [qlt_R ok1 h.ok, R1]
    exact decide_eq_false (by have := h.le; grind)
  have e0 : (D.tup [.int 1, .int 1]) = qd (1, 1) := rfl
  rw [e2] at e1
  have c : eOr (eNot (eCall 1 F_is_amount (aCons (eV 0) aNil))) (eCall 2 F_is_less (aCons (eC (.tup [(.int 1), (.int 1)])) (aCons (eV 0) aNil))) (startD 1 [qd s]) = some (.bl false) := by
    simp only [ap_Or, mkF, startD, ap_Seq, back_ret, ap_Set, ap_SetF, ap_Call, ap_CB, ap_Cons, ap_Nil, ap_2, ap_C, ap_V, ap_VB, ap_Tup, ap_Lst, ap_If, ap_Not, ap_Nx, ap_Exp, ap_Par, ap_ParF, ap_Wh, ap_For, ap_IfS, ap_bN, ap_bT, ap_bC, ap_b0, ix0, ix1, gAdd_eq, gAddA_eq, gEqA_int, gEqA_int', ixA0, ixA1, gSub_eq, List.map_cons, List.map_nil, List.length_cons, List.length_nil, List.cons_append, List.nil_append, List.replicate, List.getElem?_cons_zero, List.getElem?_cons_succ, List.set_cons_zero, List.set_cons_succ, bind_s, Option.map_some, if_true, Nat.reduceAdd, Nat.reduceSub, Nat.reduceLeDiff, reduceIte, F_isamt h.ok h.nn, e0, e1, Bool.not_true]
  unfold F_u_check_share mkX g_u_check_share xIf
  rw [c]
  rfl
theorem xSeq_of {g : DS1} {g' : DX1} {ρ ρ1 : DEnv} (h : g ρ = .nx ρ1) : xSeq (xOf g) g' ρ = g' ρ1 := by unfold xSeq xOf; rw [h]
theorem xSeq_nx {g g' : DX1} {ρ ρ1 : DEnv} (h : g ρ = .fl (.nx ρ1)) : xSeq g g' ρ = g' ρ1 := by unfold xSeq; rw [h]
section
variable {ws : List Int} {wk : List (Int × List Int)} (V : Valid ws wk)
include V
theorem r_len {ρ : DEnv} (h : ρ[0]? = some (some (false, jobD ws wk))) : iR1 (eCB (fun x => (gLen x).or (gLenO 0 F_JobD_lenD x)) (aCons (eVB 0) aNil)) ρ = some ((List.range' 0 (Lq ws wk).length).map fun k => D.int (k : Nat)) := by
  have := V.k2
  rw [← List.range_eq_range', show (Lq ws wk).length = wk.length by unfold Lq; rw [List.length_map]]
  refine iR1_nat ?_ (by omega)
  have ha : aCons (eVB 0) aNil ρ = some [jobD ws wk] := by
    rw [ap_Cons, ap_VB, h]; rfl
  rw [ap_CB, ha, bind_s]
  exact len_job V
theorem F_done_eq {n : Nat} {s : Qp} (h : Shr n s) (ln : n ≤ 1000) : F_done [jobD ws wk, qd s] = some (.v (wD (K04R.best (toR s) (RL ws wk)).1)) := by
  obtain ⟨sl', e⟩ := done_loop V h.ok ln _ rfl (Lq ws wk) 0 0 ((0, 1), 0) none rfl rfl
  rw [lnR0, Nat.zero_add] at e
  have hbb : K04R.scan (toR s) 1 0 (0, 0) ((Lq ws wk).map lnR) = K04R.best (toR s) (RL ws wk) := by unfold K04R.best RL; rfl
  rw [hbb] at e
  have r1 := r_len V (ρ := [some (false, jobD ws wk), some (false, qd s), some (false, .non), none]) rfl
  have hc := F_cjob ws wk
  have c1 : gExp (eCall 1 F_check_job (aCons (eV 0) aNil)) (startD 4 [jobD ws wk, qd s]) = .nx (startD 4 [jobD ws wk, qd s]) := by simp only [mkF, startD, ap_Seq, back_ret, ap_Set, ap_SetF, ap_Call, ap_CB, ap_Cons, ap_Nil, ap_2, ap_C, ap_V, ap_VB, ap_Tup, ap_Lst, ap_If, ap_Not, ap_Nx, ap_Exp, ap_Par, ap_ParF, ap_Wh, ap_For, ap_IfS, ap_bN, ap_bT, ap_bC, ap_b0, ix0, ix1, gAdd_eq, gAddA_eq, gEqA_int, gEqA_int', ixA0, ixA1, gSub_eq, List.map_cons, List.map_nil, List.length_cons, List.length_nil, List.cons_append, List.nil_append, List.replicate, List.getElem?_cons_zero, List.getElem?_cons_succ, List.set_cons_zero, List.set_cons_succ, bind_s, Option.map_some, if_true, Nat.reduceAdd, Nat.reduceSub, Nat.reduceLeDiff, reduceIte, hc]
  have c2 : xCall 1 F_u_check_share (aCons (eV 1) aNil) (startD 4 [jobD ws wk, qd s]) = .fl (.nx (startD 4 [jobD ws wk, qd s])) := by
    unfold xCall
    have : aCons (eV 1) aNil (startD 4 [jobD ws wk, qd s]) = some [qd s] := rfl
    rw [this]
    simp only [List.length_cons, List.length_nil, Nat.zero_add, if_true, F_cshare h ln]
  have c3 : gSet 2 (eC .non) (startD 4 [jobD ws wk, qd s]) = .nx [some (false, jobD ws wk), some (false, qd s), some (false, .non), none] := rfl
  have c4 : gFor (iR1 (eCB (fun x => (gLen x).or (gLenO 0 F_JobD_lenD x)) (aCons (eVB 0) aNil))) (bN 3) (gIf (eCall 4 F_u_is_preferred (aCons (eV 0) (aCons (eV 1) (aCons (eV 3) (aCons (eV 2) aNil))))) (gSet 2 (eV 3)) gNx) [some (false, jobD ws wk), some (false, qd s), some (false, .non), none]
      = .nx [some (false, jobD ws wk), some (false, qd s), some (false, wD (K04R.best (toR s) (RL ws wk)).1), sl'] := by
    rw [ap_For, r1]
    exact e
  have d : g_done (startD 4 [jobD ws wk, qd s]) = .fl (.rt (wD (K04R.best (toR s) (RL ws wk)).1)) := by
    unfold g_done
    rw [xSeq_of c1, xSeq_nx c2, xSeq_of c3, xSeq_of c4]
    rfl
  unfold F_done mkX
  rw [d]
end
end K04

set_option maxHeartbeats 2000000
namespace K04
open PySem PySem.Spec PyProof.Rows L2 DL K04R
/-! ### the next share -/
def nextB : DS1 := (gSeq (gSet 4 (eCall 2 F_minus (aCons (eCall 2 F_u_worth (aCons (eV 0) (aCons (eV 3) aNil))) (aCons (eCall 2 F_u_worth (aCons (eV 0) (aCons (eV 1) aNil))) aNil))))
  (gSeq (gIf (eNot (eCall 2 F_is_less (aCons (eC (.tup [(.int 0), (.int 1)])) (aCons (eV 4) aNil)))) (fun ρ => .ct ρ) gNx)
  (gSeq (gSet 5 (eCall 2 F_over (aCons (eCall 2 F_minus (aCons (eCall 2 F_u_effort (aCons (eV 0) (aCons (eV 3) aNil))) (aCons (eCall 2 F_u_effort (aCons (eV 0) (aCons (eV 1) aNil))) aNil))) (aCons (eV 4) aNil))))
  (gIf (eAnd (eNot (eCall 2 F_is_less (aCons (eC (.tup [(.int 1), (.int 1)])) (aCons (eV 5) aNil)))) (eOr (DL.e2 (gIsN false) (eVB 2) (eC .non)) (eCall 2 F_is_less (aCons (eV 5) (aCons (eV 2) aNil))))) (gSet 2 (eV 5)) gNx))))
def oQ : Option Qp → D
  | none => .non
  | some q => qd q
theorem is_oQ (b : Option Qp) : gIsN false (oQ b) .non = some (.bl b.isNone) := by cases b <;> rfl
theorem isnot_oQ (b : Option Qp) : gIsN true (oQ b) .non = some (.bl b.isSome) := by cases b <;> rfl
def moreQ (x y : Wq) : Qp := qsub y.1 x.1
def crQ (x y : Wq) : Qp := qdiv (qsub (one1 y.2) (one1 x.2)) (moreQ x y)
theorem more_ok {x y : Wq} (hx : WOk x) (hy : WOk y) : Ok 171 (moreQ x y) := qsub_ok hy.ok hx.ok
theorem more_R {x y : Wq} (hx : WOk x) (hy : WOk y) : toR (moreQ x y) = toR y.1 - toR x.1 := toR_sub hy.ok hx.ok
theorem more_pos {x y : Wq} (hx : WOk x) (hy : WOk y) : 0 < (moreQ x y).1 ↔ (lnR x).1 < (lnR y).1 := by
  rw [pos_R (more_ok hx hy), more_R hx hy]
  show (0 : Rat) < toR y.1 - toR x.1 ↔ toR x.1 < toR y.1
  constructor <;> intro h <;> grind
theorem cr_ok {x y : Wq} (hx : WOk x) (hy : WOk y) (h : (lnR x).1 < (lnR y).1) : Ok 200 (crQ x y) := (qdiv_ok (qsub_ok (one_ok hy) (one_ok hx)) (more_ok hx hy) ((more_pos hx hy).mpr h)).mono (by omega)
theorem cr_R {x y : Wq} (hx : WOk x) (hy : WOk y) (h : (lnR x).1 < (lnR y).1) : toR (crQ x y) = cross (lnR x) (lnR y) := by
  unfold crQ
  rw [toR_div (qsub_ok (one_ok hy) (one_ok hx)) (more_ok hx hy) ((more_pos hx hy).mpr h), toR_sub (one_ok hy) (one_ok hx), more_R hx hy, toR_one1, toR_one1]
  rfl
section
variable {ws : List Int} {wk : List (Int × List Int)} (V : Valid ws wk) {k : Nat} {x : Wq} (hk : (Lq0 ws wk)[k]? = some x)
include V hk
theorem next_loop (J : D) (hJ : J = jobD ws wk) : ∀ (r : List Wq) (i : Nat) (b : Option Qp) (s3 s4 s5 : Slot), (Lq ws wk).drop i = r → (∀ q, b = some q → Ok 200 q) →
    ∃ b' s3' s4' s5', forL (bN 3) nextB ((List.range' i r.length).map fun k => D.int (k : Nat)) [some (false, J), some (false, wD k), some (false, oQ b), s3, s4, s5] = .nx [some (false, J), some (false, wD k), some (false, oQ b'), s3', s4', s5'] ∧ (∀ q, b' = some q → Ok 200 q) ∧ b'.map toR = nxt (lnR x) (b.map toR) (r.map lnR)
  | [], i, b, s3, s4, s5, _, hb => ⟨b, s3, s4, s5, rfl, hb, rfl⟩
  | y :: r, i, b, s3, s4, s5, hd, hb => by
    have hi : (Lq ws wk)[i]? = some y := by
      have := congrArg (·[0]?) hd
      simpa using this
    have hi0 : (Lq0 ws wk)[i + 1]? = some y := hi
    have hd' : (Lq ws wk).drop (i + 1) = r := by
      have := congrArg (List.drop 1) hd
      simpa [List.drop_drop, Nat.add_comm] using this
    have hx := at_ok V hk
    have hy := at_ok V hi0
    have w1 := F_worth_at V hi0
    have w2 := F_worth_at V hk
    have f1 := F_effort_at V hi0
    have f2 := F_effort_at V hk
    rw [← hJ] at w1 w2 f1 f2
    have w1 : F_u_worth [J, .int i] = _ := w1
    have f1 : F_u_effort [J, .int i] = _ := f1
    have m1 := F_minus_eq hy.ok hx.ok (by omega)
    have z0 : (D.tup [.int 0, .int 1]) = qd (0, 1) := rfl
    have z1 : (D.tup [.int 1, .int 1]) = qd (1, 1) := rfl
    have l0 := F_is_less_eq ok00 (more_ok hx hy) (by omega)
    rw [qlt_R ok00 (more_ok hx hy), R0, more_R hx hy] at l0
    rw [List.length_cons, List.range'_succ, List.map_cons, List.map_cons (f := lnR)]
    unfold forL nxt nextB
    by_cases c : (lnR x).1 < (lnR y).1
    · have c0 : (0 : Rat) < toR y.1 - toR x.1 := by have : toR x.1 < toR y.1 := c; grind
      have mp := (more_pos hx hy).mpr c
      have m2 := F_minus_eq (one_ok hy) (one_ok hx) (by omega)
      have o1 := F_over_eq (qsub_ok (one_ok hy) (one_ok hx)) (more_ok hx hy) mp (by omega)
      have oc := cr_ok hx hy c
      have l1 := F_is_less_eq ok1 oc (by omega)
      rw [qlt_R ok1 oc, R1, cr_R hx hy c] at l1
      have go : ∀ (b2 : Option Qp), (∀ q, b2 = some q → Ok 200 q) → ∃ b' s3' s4' s5', forL (bN 3) nextB ((List.range' (i + 1) r.length).map fun k => D.int (k : Nat)) [some (false, J), some (false, wD k), some (false, oQ b2), some (false, .int i), some (false, qd (moreQ x y)), some (false, qd (crQ x y))] = .nx [some (false, J), some (false, wD k), some (false, oQ b'), s3', s4', s5'] ∧ (∀ q, b' = some q → Ok 200 q) ∧ b'.map toR = nxt (lnR x) (b2.map toR) (r.map lnR) := fun b2 h2 => next_loop J hJ r (i + 1) b2 _ _ _ hd' h2
      have mq : qd (qsub y.1 x.1) = qd (moreQ x y) := rfl
      have cq : qd (qdiv (qsub (one1 y.2) (one1 x.2)) (moreQ x y)) = qd (crQ x y) := rfl
      by_cases c1 : 1 < cross (lnR x) (lnR y)
      · obtain ⟨b', t3, t4, t5, e, h1, h2⟩ := go b hb
        refine ⟨b', t3, t4, t5, ?_, h1, ?_⟩
        · simp only [mkF, startD, ap_Seq, back_ret, ap_Set, ap_SetF, ap_Call, ap_CB, ap_Cons, ap_Nil, ap_2, ap_C, ap_V, ap_VB, ap_Tup, ap_Lst, ap_If, ap_Not, ap_Nx, ap_Exp, ap_Par, ap_ParF, ap_Wh, ap_For, ap_IfS, ap_bN, ap_bT, ap_bC, ap_b0, ix0, ix1, gAdd_eq, gAddA_eq, gEqA_int, gEqA_int', ixA0, ixA1, gSub_eq, List.map_cons, List.map_nil, List.length_cons, List.length_nil, List.cons_append, List.nil_append, List.replicate, List.getElem?_cons_zero, List.getElem?_cons_succ, List.set_cons_zero, List.set_cons_succ, bind_s, Option.map_some, if_true, Nat.reduceAdd, Nat.reduceSub, Nat.reduceLeDiff, reduceIte, w1, w2, m1, mq, z0, l0, decide_eq_true c0, Bool.not_true, f1, f2, m2, o1, cq, z1, l1, decide_eq_true c1, ap_And]
          exact e
        · rw [h2, if_neg (fun q => q.2.1 c1)]
      · cases hbb : b with
        | none =>
          obtain ⟨b', t3, t4, t5, e, h1, h2⟩ := go (some (crQ x y)) (fun q e => by cases e; exact oc)
          refine ⟨b', t3, t4, t5, ?_, h1, ?_⟩
          · simp only [mkF, startD, ap_Seq, back_ret, ap_Set, ap_SetF, ap_Call, ap_CB, ap_Cons, ap_Nil, ap_2, ap_C, ap_V, ap_VB, ap_Tup, ap_Lst, ap_If, ap_Not, ap_Nx, ap_Exp, ap_Par, ap_ParF, ap_Wh, ap_For, ap_IfS, ap_bN, ap_bT, ap_bC, ap_b0, ix0, ix1, gAdd_eq, gAddA_eq, gEqA_int, gEqA_int', ixA0, ixA1, gSub_eq, List.map_cons, List.map_nil, List.length_cons, List.length_nil, List.cons_append, List.nil_append, List.replicate, List.getElem?_cons_zero, List.getElem?_cons_succ, List.set_cons_zero, List.set_cons_succ, bind_s, Option.map_some, if_true, Nat.reduceAdd, Nat.reduceSub, Nat.reduceLeDiff, reduceIte, w1, w2, m1, mq, z0, l0, decide_eq_true c0, Bool.not_true, f1, f2, m2, o1, cq, z1, l1, decide_eq_false c1, Bool.not_false, ap_And, ap_Or, is_oQ, Option.isNone_none]
            exact e
          · rw [h2, if_pos ⟨c, c1, .inl rfl⟩, Option.map_some, cr_R hx hy c]
        | some q =>
          have oq := hb q hbb
          have hoq : oQ (some q) = qd q := rfl
          have l2 := F_is_less_eq oc oq (by omega)
          rw [qlt_R oc oq, cr_R hx hy c] at l2
          by_cases c2 : cross (lnR x) (lnR y) < toR q
          · obtain ⟨b', t3, t4, t5, e, h1, h2⟩ := go (some (crQ x y)) (fun q e => by cases e; exact oc)
            refine ⟨b', t3, t4, t5, ?_, h1, ?_⟩
            · simp only [mkF, startD, ap_Seq, back_ret, ap_Set, ap_SetF, ap_Call, ap_CB, ap_Cons, ap_Nil, ap_2, ap_C, ap_V, ap_VB, ap_Tup, ap_Lst, ap_If, ap_Not, ap_Nx, ap_Exp, ap_Par, ap_ParF, ap_Wh, ap_For, ap_IfS, ap_bN, ap_bT, ap_bC, ap_b0, ix0, ix1, gAdd_eq, gAddA_eq, gEqA_int, gEqA_int', ixA0, ixA1, gSub_eq, List.map_cons, List.map_nil, List.length_cons, List.length_nil, List.cons_append, List.nil_append, List.replicate, List.getElem?_cons_zero, List.getElem?_cons_succ, List.set_cons_zero, List.set_cons_succ, bind_s, Option.map_some, if_true, Nat.reduceAdd, Nat.reduceSub, Nat.reduceLeDiff, reduceIte, w1, w2, m1, mq, z0, l0, decide_eq_true c0, Bool.not_true, f1, f2, m2, o1, cq, z1, l1, decide_eq_false c1, Bool.not_false, ap_And, ap_Or, is_oQ, Option.isNone_some, hoq, l2, decide_eq_true c2]
              exact e
            · rw [h2, Option.map_some, if_pos ⟨c, c1, .inr ⟨toR q, rfl, c2⟩⟩, cr_R hx hy c]
          · obtain ⟨b', t3, t4, t5, e, h1, h2⟩ := go (some q) (fun q' e => by cases e; exact oq)
            refine ⟨b', t3, t4, t5, ?_, h1, ?_⟩
            · simp only [mkF, startD, ap_Seq, back_ret, ap_Set, ap_SetF, ap_Call, ap_CB, ap_Cons, ap_Nil, ap_2, ap_C, ap_V, ap_VB, ap_Tup, ap_Lst, ap_If, ap_Not, ap_Nx, ap_Exp, ap_Par, ap_ParF, ap_Wh, ap_For, ap_IfS, ap_bN, ap_bT, ap_bC, ap_b0, ix0, ix1, gAdd_eq, gAddA_eq, gEqA_int, gEqA_int', ixA0, ixA1, gSub_eq, List.map_cons, List.map_nil, List.length_cons, List.length_nil, List.cons_append, List.nil_append, List.replicate, List.getElem?_cons_zero, List.getElem?_cons_succ, List.set_cons_zero, List.set_cons_succ, bind_s, Option.map_some, if_true, Nat.reduceAdd, Nat.reduceSub, Nat.reduceLeDiff, reduceIte, w1, w2, m1, mq, z0, l0, decide_eq_true c0, Bool.not_true, f1, f2, m2, o1, cq, z1, l1, decide_eq_false c1, Bool.not_false, ap_And, ap_Or, is_oQ, Option.isNone_some, hoq, l2, decide_eq_false c2]
              exact e
            · rw [h2, Option.map_some, if_neg (fun w => by
                rcases w.2.2 with w | ⟨z, w, w2⟩
                · cases w
                · cases w; exact c2 w2)]
    · have c0 : ¬ (0 : Rat) < toR y.1 - toR x.1 := by have : ¬ toR x.1 < toR y.1 := c; grind
      obtain ⟨b', t3, t4, t5, e, h1, h2⟩ := next_loop J hJ r (i + 1) b (some (false, .int i)) (some (false, qd (moreQ x y))) s5 hd' hb
      have mq : qd (qsub y.1 x.1) = qd (moreQ x y) := rfl
      refine ⟨b', t3, t4, t5, ?_, h1, ?_⟩
      · simp only [mkF, startD, ap_Seq, back_ret, ap_Set, ap_SetF, ap_Call, ap_CB, ap_Cons, ap_Nil, ap_2, ap_C, ap_V, ap_VB, ap_Tup, ap_Lst, ap_If, ap_Not, ap_Nx, ap_Exp, ap_Par, ap_ParF, ap_Wh, ap_For, ap_IfS, ap_bN, ap_bT, ap_bC, ap_b0, ix0, ix1, gAdd_eq, gAddA_eq, gEqA_int, gEqA_int', ixA0, ixA1, gSub_eq, List.map_cons, List.map_nil, List.length_cons, List.length_nil, List.cons_append, List.nil_append, List.replicate, List.getElem?_cons_zero, List.getElem?_cons_succ, List.set_cons_zero, List.set_cons_succ, bind_s, Option.map_some, if_true, Nat.reduceAdd, Nat.reduceSub, Nat.reduceLeDiff, reduceIte, w1, w2, m1, mq, z0, l0, decide_eq_false c0, Bool.not_false]
        exact e
      · rw [h2, if_neg (fun q => c q.1)]
end
end K04

set_option maxHeartbeats 2000000
namespace K04
open PySem PySem.Spec PyProof.Rows L2 DL K04R
section
variable {ws : List Int} {wk : List (Int × List Int)} (V : Valid ws wk)
include V
theorem F_next_eq {k : Nat} {x : Wq} (hk : (Lq0 ws wk)[k]? = some x) : ∃ b : Option Qp, F_u_next_share [jobD ws wk, wD k] = some (oQ b) ∧ (∀ q, b = some q → Ok 200 q) ∧ b.map toR = nxt (lnR x) none (RL ws wk) := by
  obtain ⟨b, s3, s4, s5, e, h1, h2⟩ := next_loop V hk _ rfl (Lq ws wk) 0 none none none none rfl (fun q z => by cases z)
  refine ⟨b, ?_, h1, h2⟩
  have r1 := r_len V (ρ := [some (false, jobD ws wk), some (false, wD k), some (false, .non), none, none, none]) rfl
  have c1 : gSet 2 (eC .non) (startD 6 [jobD ws wk, wD k]) = .nx [some (false, jobD ws wk), some (false, wD k), some (false, .non), none, none, none] := rfl
  have c2 : gFor (iR1 (eCB (fun x => (gLen x).or (gLenO 0 F_JobD_lenD x)) (aCons (eVB 0) aNil))) (bN 3) nextB [some (false, jobD ws wk), some (false, wD k), some (false, .non), none, none, none] = .nx [some (false, jobD ws wk), some (false, wD k), some (false, oQ b), s3, s4, s5] := by
    rw [ap_For, r1]; exact e
  have c3 : gRet (eV 2) [some (false, jobD ws wk), some (false, wD k), some (false, oQ b), s3, s4, s5] = .rt (oQ b) := rfl
  have d : g_u_next_share (startD 6 [jobD ws wk, wD k]) = .rt (oQ b) := by
    have : g_u_next_share = gSeq (gSet 2 (eC .non)) (gSeq (gFor (iR1 (eCB (fun x => (gLen x).or (gLenO 0 F_JobD_lenD x)) (aCons (eVB 0) aNil))) (bN 3) nextB) (gRet (eV 2))) := rfl
    rw [this, ap_Seq, c1]
    show gSeq _ _ _ = _
    rw [ap_Seq, c2]
    exact c3
  unfold F_u_next_share mkF
  rw [d]
  rfl
/-! ### turns -/
theorem RL_pos : ∀ m ∈ RL ws wk, 0 ≤ m.1 := fun m hm => by
  obtain ⟨x, hx, rfl⟩ := List.mem_map.mp hm
  have := Lq_ok V x hx
  exact K04.Ok.nnR this.ok this.nn
theorem best_at (s : Rat) : ∃ x, (Lq0 ws wk)[(K04R.best s (RL ws wk)).1]? = some x ∧ (K04R.best s (RL ws wk)).2 = lnR x := by
  have h := (best_top s (RL ws wk)).at_
  rw [← RL0, List.getElem?_map, Option.map_eq_some_iff] at h
  obtain ⟨x, h1, h2⟩ := h
  exact ⟨x, h1, h2.symm⟩
end
theorem seq_nx {g g' : DS1} {ρ ρ1 : DEnv} (h : g ρ = .nx ρ1) : gSeq g g' ρ = g' ρ1 := by unfold gSeq; rw [h]
theorem callV2 {F : List D → Option Out} {fs : DEnv → Option (List D)} {ρ : DEnv} {a b d : D} (h : fs ρ = some [a, b]) (e : F [a, b] = some (.v d)) : eCallV 2 F fs ρ = some d := by
  unfold eCallV
  rw [h]
  show (match F [a, b] with | some (.v d) => some d | _ => none) = _
  rw [e]
theorem call2 {F : List D → Option D} {fs : DEnv → Option (List D)} {ρ : DEnv} {a b d : D} (h : fs ρ = some [a, b]) (e : F [a, b] = some d) : eCall 2 F fs ρ = some d := by
  unfold eCall
  rw [h]
  exact e
abbrev Tq := Qp × Nat
def tD (p : Tq) : D := .tup [qd p.1, wD p.2]
def turnB : DS1 := (gSeq (gSet 3 (eCallV 2 F_done (aCons (eV 0) (aCons (eV 2) aNil))))
  (gSeq (gApp 1 (eTup (aCons (eV 2) (aCons (eV 3) aNil))))
  (gSet 2 (eCall 2 F_u_next_share (aCons (eV 0) (aCons (eV 3) aNil))))))
section
variable {ws : List Int} {wk : List (Int × List Int)} (V : Valid ws wk)
include V
theorem turn_step {q : Qp} (h : Shr 200 q) {acc : List D} (ha : acc.length < 900) (s3 : Slot) {x : Wq} (hx : (Lq0 ws wk)[(K04R.best (toR q) (RL ws wk)).1]? = some x) {b : Option Qp} (hb : F_u_next_share [jobD ws wk, wD (K04R.best (toR q) (RL ws wk)).1] = some (oQ b)) :
    turnB [some (false, jobD ws wk), some (true, .lst acc), some (false, qd q), s3] = .nx [some (false, jobD ws wk), some (true, .lst (acc ++ [tD (q, (K04R.best (toR q) (RL ws wk)).1)])), some (false, oQ b), some (false, wD (K04R.best (toR q) (RL ws wk)).1)] := by
  have e1 := F_done_eq V h (by omega)
  generalize K04R.best (toR q) (RL ws wk) = B at *
  have c1 : gSet 3 (eCallV 2 F_done (aCons (eV 0) (aCons (eV 2) aNil))) [some (false, jobD ws wk), some (true, .lst acc), some (false, qd q), s3] = .nx [some (false, jobD ws wk), some (true, .lst acc), some (false, qd q), some (false, wD B.1)] := by
    have : eCallV 2 F_done (aCons (eV 0) (aCons (eV 2) aNil)) [some (false, jobD ws wk), some (true, .lst acc), some (false, qd q), s3] = some (wD B.1) := by
      have ha : aCons (eV 0) (aCons (eV 2) aNil) [some (false, jobD ws wk), some (true, .lst acc), some (false, qd q), s3] = some [jobD ws wk, qd q] := rfl
      exact callV2 ha e1
    rw [ap_Set, this]
    rfl
  have c2 : gApp 1 (eTup (aCons (eV 2) (aCons (eV 3) aNil))) [some (false, jobD ws wk), some (true, .lst acc), some (false, qd q), some (false, wD B.1)] = .nx [some (false, jobD ws wk), some (true, .lst (acc ++ [tD (q, B.1)])), some (false, qd q), some (false, wD B.1)] := by
    have : eTup (aCons (eV 2) (aCons (eV 3) aNil)) [some (false, jobD ws wk), some (true, .lst acc), some (false, qd q), some (false, wD B.1)] = some (tD (q, B.1)) := rfl
    rw [ap_App, this]
    simp only [List.getElem?_cons_succ, List.getElem?_cons_zero, if_pos (show acc.length < 1000 by omega)]
    rfl
  have c3 : gSet 2 (eCall 2 F_u_next_share (aCons (eV 0) (aCons (eV 3) aNil))) [some (false, jobD ws wk), some (true, .lst (acc ++ [tD (q, B.1)])), some (false, qd q), some (false, wD B.1)] = .nx [some (false, jobD ws wk), some (true, .lst (acc ++ [tD (q, B.1)])), some (false, oQ b), some (false, wD B.1)] := by
    have : eCall 2 F_u_next_share (aCons (eV 0) (aCons (eV 3) aNil)) [some (false, jobD ws wk), some (true, .lst (acc ++ [tD (q, B.1)])), some (false, qd q), some (false, wD B.1)] = some (oQ b) := by
      have ha : aCons (eV 0) (aCons (eV 3) aNil) [some (false, jobD ws wk), some (true, .lst (acc ++ [tD (q, B.1)])), some (false, qd q), some (false, wD B.1)] = some [jobD ws wk, wD B.1] := rfl
      exact call2 ha hb
    rw [ap_Set, this]
    rfl
  unfold turnB
  rw [ap_Seq, c1]
  show gSeq _ _ _ = _
  rw [ap_Seq, c2]
  exact c3
theorem turns_loop : ∀ (f : Nat) (q : Qp) (acc : List Tq) (s3 : Slot) (fuel : Nat), Shr 200 q → acc.length + f ≤ 800 → cnt (RL ws wk) (K04R.best (toR q) (RL ws wk)).2 < f → f < fuel →
    ∃ (rest : List Tq) (s3' : Slot), (rest.map fun p => (toR p.1, p.2)) = ((toR q, (K04R.best (toR q) (RL ws wk)).1) :: (walk (RL ws wk) f (K04R.best (toR q) (RL ws wk)).2).map fun x => (x.1, x.2.1)) ∧ (∀ p ∈ rest, Shr 200 p.1) ∧
      whL (DL.e2 (gIsN true) (eVB 2) (eC .non)) turnB fuel [some (false, jobD ws wk), some (true, .lst (acc.map tD)), some (false, qd q), s3] = .nx [some (false, jobD ws wk), some (true, .lst ((acc ++ rest).map tD)), some (false, .non), s3']
  | 0, q, acc, s3, fuel, _, _, h, _ => absurd h (Nat.not_lt_zero _)
  | f + 1, q, acc, s3, 0, _, _, _, h => absurd h (Nat.not_lt_zero _)
  | f + 1, q, acc, s3, fuel + 1, hq, ha, hc, hf => by
    obtain ⟨x, hx, ex⟩ := best_at V (toR q)
    obtain ⟨b, eb, hb, hn⟩ := F_next_eq V hx
    have st := turn_step V hq (acc := acc.map tD) (by rw [List.length_map]; omega) s3 hx eb
    have top := best_top (toR q) (RL ws wk)
    have nt := next_top (RL_pos V) top
    rw [ex] at nt hc ⊢
    have cond : DL.e2 (gIsN true) (eVB 2) (eC .non) [some (false, jobD ws wk), some (true, .lst (acc.map tD)), some (false, qd q), s3] = some (.bl true) := rfl
    generalize hB : (K04R.best (toR q) (RL ws wk)).1 = B at *
    cases b with
    | none =>
      have hn' : nxt (lnR x) none (RL ws wk) = none := hn.symm
      refine ⟨[(q, B)], some (false, wD B), ?_, fun p hp => by rw [List.mem_singleton] at hp; subst hp; exact hq, ?_⟩
      · rw [walk, hn']
        rfl
      · unfold whL
        rw [cond]
        simp only [st]
        obtain ⟨g, rfl⟩ : ∃ g, fuel = g + 1 := ⟨fuel - 1, by omega⟩
        unfold whL
        have cond2 : DL.e2 (gIsN true) (eVB 2) (eC .non) [some (false, jobD ws wk), some (true, .lst (acc.map tD ++ [tD (q, B)])), some (false, oQ none), some (false, wD B)] = some (.bl false) := rfl
        rw [cond2]
        simp only [List.map_append, List.map_cons, List.map_nil]
        rfl
    | some q' =>
      have hn' : nxt (lnR x) none (RL ws wk) = some (toR q') := hn.symm
      obtain ⟨n1, n2, _, _, _, n6⟩ := nt.2 (toR q') hn'
      have ok' := hb q' rfl
      have q0 : 0 ≤ toR q := K04.Ok.nnR hq.ok hq.nn
      have nn' : 0 ≤ q'.1 := by
        have := (pos_R (q := q') ok').mpr (by grind)
        omega
      have hm : (K04R.best (toR q') (RL ws wk)).2 ∈ RL ws wk := by
        rcases List.mem_cons.mp (List.mem_of_getElem? (best_top (toR q') (RL ws wk)).at_) with z | z
        · have := top_pos (RL_pos V) top
          rw [ex] at this
          rw [z] at n6
          exact absurd n6 (by grind)
        · exact z
      have lt := cnt_lt n6 hm
      obtain ⟨rest, s3', r1, r2, r3⟩ := turns_loop f q' (acc ++ [(q, B)]) (some (false, wD B)) fuel ⟨ok', nn', n2⟩ (by simp; omega) (by omega) (by omega)
      refine ⟨(q, B) :: rest, s3', ?_, fun p hp => (List.mem_cons.mp hp).elim (fun z => z ▸ hq) (r2 p), ?_⟩
      · rw [List.map_cons, r1, walk, hn']
        rfl
      · unfold whL
        rw [cond]
        simp only [st]
        simp only [List.map_append, List.map_cons, List.map_nil, List.append_assoc, List.cons_append, List.nil_append] at r3 ⊢
        exact r3
theorem shr0 : Shr 200 ((0, 1) : Qp) := ⟨ok00.mono (by decide), by decide, by rw [R0]; decide⟩
theorem F_turns_eq : ∃ rest : List Tq, F_turns [jobD ws wk] = some (.lst (rest.map tD)) ∧ (∀ p ∈ rest, Shr 200 p.1) ∧ rest.length ≤ 100 ∧
    (rest.map fun p => (toR p.1, p.2)) = (((0 : Rat), (K04R.best 0 (RL ws wk)).1) :: (walk (RL ws wk) 50 (K04R.best 0 (RL ws wk)).2).map fun x => (x.1, x.2.1)) := by
  have hl : (RL ws wk).length ≤ 4 := by unfold RL Lq; rw [List.length_map, List.length_map]; exact V.k2
  have hcn : cnt (RL ws wk) (K04R.best (toR (0, 1)) (RL ws wk)).2 < 50 := by
    unfold K04R.cnt
    have := List.length_filter_le (fun m : Line => decide ((K04R.best (toR (0, 1)) (RL ws wk)).2.1 < m.1)) (RL ws wk)
    omega
  obtain ⟨rest, s3', r1, r2, r3⟩ := turns_loop V 50 (0, 1) [] none 100 (shr0 V) (by decide) hcn (by decide)
  have wl : ∀ (f : Nat) (l : Line), (walk (RL ws wk) f l).length ≤ f := fun f => by
    induction f with
    | zero => exact fun l => Nat.le_refl _
    | succ f ih =>
      intro l
      unfold walk
      split
      · exact Nat.zero_le _
      · rw [List.length_cons]; exact Nat.succ_le_succ (ih _)
  refine ⟨rest, ?_, r2, ?_, by rw [r1, R0]⟩
  · have hc := F_cjob ws wk
    have c1 : gExp (eCall 1 F_check_job (aCons (eV 0) aNil)) (startD 4 [jobD ws wk]) = .nx (startD 4 [jobD ws wk]) := by simp only [mkF, startD, ap_Seq, back_ret, ap_Set, ap_SetF, ap_Call, ap_CB, ap_Cons, ap_Nil, ap_2, ap_C, ap_V, ap_VB, ap_Tup, ap_Lst, ap_If, ap_Not, ap_Nx, ap_Exp, ap_Par, ap_ParF, ap_Wh, ap_For, ap_IfS, ap_bN, ap_bT, ap_bC, ap_b0, ix0, ix1, gAdd_eq, gAddA_eq, gEqA_int, gEqA_int', ixA0, ixA1, gSub_eq, List.map_cons, List.map_nil, List.length_cons, List.length_nil, List.cons_append, List.nil_append, List.replicate, List.getElem?_cons_zero, List.getElem?_cons_succ, List.set_cons_zero, List.set_cons_succ, bind_s, Option.map_some, if_true, Nat.reduceAdd, Nat.reduceSub, Nat.reduceLeDiff, reduceIte, hc]
    have c2 : gSetF 1 (eLst aNil) (startD 4 [jobD ws wk]) = .nx [some (false, jobD ws wk), some (true, .lst []), none, none] := rfl
    have c3 : gSet 2 (eC (.tup [(.int 0), (.int 1)])) [some (false, jobD ws wk), some (true, .lst []), none, none] = .nx [some (false, jobD ws wk), some (true, .lst []), some (false, qd (0, 1)), none] := rfl
    have c5 : (fun ρ => gRet (eV 1) (frz 1 ρ)) [some (false, jobD ws wk), some (true, .lst (rest.map tD)), some (false, .non), s3'] = .rt (.lst (rest.map tD)) := rfl
    have c4 : gWh (fun _ => 100) (DL.e2 (gIsN true) (eVB 2) (eC .non)) turnB [some (false, jobD ws wk), some (true, .lst []), some (false, qd (0, 1)), none] = .nx [some (false, jobD ws wk), some (true, .lst (rest.map tD)), some (false, .non), s3'] := by
      rw [ap_Wh]
      rw [List.nil_append, List.map_nil] at r3
      exact r3
    have d : g_turns (startD 4 [jobD ws wk]) = .rt (.lst (rest.map tD)) := by
      unfold g_turns
      rw [seq_nx c1, seq_nx c2, seq_nx c3]
      exact (seq_nx c4).trans c5
    unfold F_turns mkF
    rw [d]
    rfl
  · have := congrArg List.length r1
    rw [List.length_map, List.length_cons, List.length_map] at this
    have := wl 50 (K04R.best (toR (0, 1)) (RL ws wk)).2
    omega
end
end K04

set_option maxHeartbeats 2000000
namespace K04
open PySem PySem.Spec PyProof.Rows L2 DL K04R
/-! ### the best share -/
theorem call1 {F : List D → Option D} {fs : DEnv → Option (List D)} {ρ : DEnv} {a d : D} (h : fs ρ = some [a]) (e : F [a] = some d) : eCall 1 F fs ρ = some d := by
  unfold eCall
  rw [h]
  exact e
abbrev Bq := Option (Qp × Qp)
def bR (b : Bq) : Option (Rat × Rat) := b.map fun y => (toR y.1, toR y.2)
def BOk (b : Bq) : Prop := ∀ y, b = some y → Ok 200 y.1 ∧ Ok 300 y.2
def kpQ (q : Qp) (x : Wq) : Qp := qmul (qsub (1, 1) q) x.1
theorem kp_ok {q : Qp} {x : Wq} (hq : Ok 200 q) (hx : WOk x) : Ok 300 (kpQ q x) := (qmul_ok (qsub_ok ok1 hq) hx.ok).mono (by decide)
theorem kp_R {q : Qp} {x : Wq} (hq : Ok 200 q) (hx : WOk x) : toR (kpQ q x) = kp (toR q) (lnR x) := by
  unfold kpQ kp
  rw [toR_mul (qsub_ok ok1 hq) hx.ok, toR_sub ok1 hq, R1]
  rfl
def ln0 (ws : List Int) (wk : List (Int × List Int)) (k : Nat) : Line := (((Lq0 ws wk)[k]?).map lnR).getD (0, 0)
def bestB : DS1 := (gSeq (gSet 5 (eCall 2 F_times (aCons (eCall 2 F_minus (aCons (eC (.tup [(.int 1), (.int 1)])) (aCons (eV 3) aNil))) (aCons (eCall 2 F_u_worth (aCons (eV 0) (aCons (eV 4) aNil))) aNil))))
  (gIf (eOr (DL.e2 (gIsN false) (eVB 1) (eC .non)) (eCall 2 F_is_less (aCons (eV 2) (aCons (eV 5) aNil)))) (gSeq (gSet 1 (eV 3))
  (gSet 2 (eV 5))) gNx))
def bstep (b : Bq) (q : Qp) (x : Wq) : Bq := if b = none ∨ ∃ y, b = some y ∧ toR y.2 < kp (toR q) (lnR x) then some (q, kpQ q x) else b
section
variable {ws : List Int} {wk : List (Int × List Int)} (V : Valid ws wk)
include V
theorem best_step {b : Bq} (hb : BOk b) {q : Qp} (hq : Shr 200 q) {k : Nat} {x : Wq} (hk : (Lq0 ws wk)[k]? = some x) (s5 : Slot) :
    bestB [some (false, jobD ws wk), some (false, oQ (b.map (·.1))), some (false, oQ (b.map (·.2))), some (false, qd q), some (false, wD k), s5] = .nx [some (false, jobD ws wk), some (false, oQ ((bstep b q x).map (·.1))), some (false, oQ ((bstep b q x).map (·.2))), some (false, qd q), some (false, wD k), some (false, qd (kpQ q x))] ∧ BOk (bstep b q x) := by
  have hx := at_ok V hk
  have w1 := F_worth_at V hk
  have m1 := F_minus_eq ok1 hq.ok (by decide)
  have t1 := F_times_eq (qsub_ok ok1 hq.ok) hx.ok (by decide)
  have ok := kp_ok hq.ok hx
  have c1 : gSet 5 (eCall 2 F_times (aCons (eCall 2 F_minus (aCons (eC (.tup [(.int 1), (.int 1)])) (aCons (eV 3) aNil))) (aCons (eCall 2 F_u_worth (aCons (eV 0) (aCons (eV 4) aNil))) aNil))) [some (false, jobD ws wk), some (false, oQ (b.map (·.1))), some (false, oQ (b.map (·.2))), some (false, qd q), some (false, wD k), s5]
      = .nx [some (false, jobD ws wk), some (false, oQ (b.map (·.1))), some (false, oQ (b.map (·.2))), some (false, qd q), some (false, wD k), some (false, qd (kpQ q x))] := by
    have a1 : eCall 2 F_minus (aCons (eC (.tup [(.int 1), (.int 1)])) (aCons (eV 3) aNil)) [some (false, jobD ws wk), some (false, oQ (b.map (·.1))), some (false, oQ (b.map (·.2))), some (false, qd q), some (false, wD k), s5] = some (qd (qsub (1, 1) q)) := call2 (a := qd (1, 1)) (b := qd q) rfl m1
    have a2 : eCall 2 F_u_worth (aCons (eV 0) (aCons (eV 4) aNil)) [some (false, jobD ws wk), some (false, oQ (b.map (·.1))), some (false, oQ (b.map (·.2))), some (false, qd q), some (false, wD k), s5] = some (qd x.1) := call2 (a := jobD ws wk) (b := wD k) rfl w1
    have a3 : eCall 2 F_times (aCons (eCall 2 F_minus (aCons (eC (.tup [(.int 1), (.int 1)])) (aCons (eV 3) aNil))) (aCons (eCall 2 F_u_worth (aCons (eV 0) (aCons (eV 4) aNil))) aNil)) [some (false, jobD ws wk), some (false, oQ (b.map (·.1))), some (false, oQ (b.map (·.2))), some (false, qd q), some (false, wD k), s5] = some (qd (kpQ q x)) :=
      call2 (a := qd (qsub (1, 1) q)) (b := qd x.1) (by rw [ap_Cons, a1, bind_s, ap_Cons, a2]; rfl) t1
    rw [ap_Set, a3]
    rfl
  have fin : ∀ (c : Bool), eOr (DL.e2 (gIsN false) (eVB 1) (eC .non)) (eCall 2 F_is_less (aCons (eV 2) (aCons (eV 5) aNil))) [some (false, jobD ws wk), some (false, oQ (b.map (·.1))), some (false, oQ (b.map (·.2))), some (false, qd q), some (false, wD k), some (false, qd (kpQ q x))] = some (.bl c) → 
      (c = true ↔ (b = none ∨ ∃ y, b = some y ∧ toR y.2 < kp (toR q) (lnR x))) →
      bestB [some (false, jobD ws wk), some (false, oQ (b.map (·.1))), some (false, oQ (b.map (·.2))), some (false, qd q), some (false, wD k), s5] = .nx [some (false, jobD ws wk), some (false, oQ ((bstep b q x).map (·.1))), some (false, oQ ((bstep b q x).map (·.2))), some (false, qd q), some (false, wD k), some (false, qd (kpQ q x))] ∧ BOk (bstep b q x) := fun c ec hc => by
    unfold bestB bstep
    rw [seq_nx c1, ap_IfS, ec]
    cases c with
    | true =>
      rw [if_pos (hc.mp rfl)]
      exact ⟨rfl, fun y hy => by cases hy; exact ⟨hq.ok, ok⟩⟩
    | false =>
      rw [if_neg (fun z => by have := hc.mpr z; cases this)]
      exact ⟨rfl, hb⟩
  cases hbb : b with
  | none =>
    refine hbb ▸ fin true ?_ ⟨fun _ => .inl hbb, fun _ => rfl⟩
    rw [hbb]; rfl
  | some y =>
    obtain ⟨o1, o2⟩ := hb y hbb
    have l1 := F_is_less_eq o2 ok (by decide)
    rw [qlt_R o2 ok, kp_R hq.ok hx] at l1
    refine hbb ▸ fin (decide (toR y.2 < kp (toR q) (lnR x))) ?_ ?_
    · rw [hbb]
      have : eCall 2 F_is_less (aCons (eV 2) (aCons (eV 5) aNil)) [some (false, jobD ws wk), some (false, qd y.1), some (false, qd y.2), some (false, qd q), some (false, wD k), some (false, qd (kpQ q x))] = some (.bl (decide (toR y.2 < kp (toR q) (lnR x)))) := call2 (a := qd y.2) (b := qd (kpQ q x)) rfl l1
      rw [ap_Or]
      exact this
    · rw [decide_eq_true_iff, hbb]
      constructor
      · exact fun z => .inr ⟨y, rfl, z⟩
      · rintro (z | ⟨y', z, z2⟩)
        · cases z
        · cases z; exact z2
theorem bstep_R {b : Bq} {q : Qp} (hq : Ok 200 q) {k : Nat} {x : Wq} (hk : (Lq0 ws wk)[k]? = some x) (r : List (Rat × Line)) : bst (bR b) ((toR q, ln0 ws wk k) :: r) = bst (bR (bstep b q x)) r := by
  have hx := at_ok V hk
  have e : ln0 ws wk k = lnR x := by unfold ln0; rw [hk]; rfl
  rw [bst, e]
  unfold bstep
  by_cases c : b = none ∨ ∃ y, b = some y ∧ toR y.2 < kp (toR q) (lnR x)
  · rw [if_pos c, if_pos]
    · unfold bR; rw [Option.map_some, kp_R hq hx]
    · rcases c with z | ⟨y, z, z2⟩
      · exact .inl (by rw [z]; rfl)
      · exact .inr ⟨(toR y.1, toR y.2), by rw [z]; rfl, z2⟩
  · rw [if_neg c, if_neg]
    intro z
    rcases z with z | ⟨y, z, z2⟩
    · exact c (.inl (by unfold bR at z; simpa using z))
    · unfold bR at z
      rw [Option.map_eq_some_iff] at z
      obtain ⟨w, h1, h2⟩ := z
      exact c (.inr ⟨w, h1, by rw [← h2] at z2; exact z2⟩)
theorem best_loop : ∀ (ts : List Tq) (b : Bq) (s3 s4 s5 : Slot), (∀ p ∈ ts, Shr 200 p.1 ∧ ∃ x, (Lq0 ws wk)[p.2]? = some x) → BOk b →
    ∃ b' s3' s4' s5', forL (bT (bCons (bN 3) (bCons (bN 4) bNil))) bestB (ts.map tD) [some (false, jobD ws wk), some (false, oQ (b.map (·.1))), some (false, oQ (b.map (·.2))), s3, s4, s5] = .nx [some (false, jobD ws wk), some (false, oQ (b'.map (·.1))), some (false, oQ (b'.map (·.2))), s3', s4', s5'] ∧ BOk b' ∧ bR b' = bst (bR b) (ts.map fun p => (toR p.1, ln0 ws wk p.2))
  | [], b, s3, s4, s5, _, hb => ⟨b, s3, s4, s5, rfl, hb, rfl⟩
  | p :: ts, b, s3, s4, s5, H, hb => by
    obtain ⟨hq, x, hx⟩ := H p List.mem_cons_self
    obtain ⟨e1, hb1⟩ := best_step V hb hq hx s5
    obtain ⟨b', t3, t4, t5, e, h1, h2⟩ := best_loop ts (bstep b p.1 x) (some (false, qd p.1)) (some (false, wD p.2)) (some (false, qd (kpQ p.1 x))) (fun r hr => H r (List.mem_cons_of_mem _ hr)) hb1
    refine ⟨b', t3, t4, t5, ?_, h1, ?_⟩
    · rw [List.map_cons]
      unfold forL
      have eb : bT (bCons (bN 3) (bCons (bN 4) bNil)) (tD p) [some (false, jobD ws wk), some (false, oQ (b.map (·.1))), some (false, oQ (b.map (·.2))), s3, s4, s5] = some [some (false, jobD ws wk), some (false, oQ (b.map (·.1))), some (false, oQ (b.map (·.2))), some (false, qd p.1), some (false, wD p.2), s5] := rfl
      rw [eb]
      simp only [e1]
      exact e
    · rw [h2, List.map_cons, bstep_R V hq.ok hx]
theorem F_best_eq {ts : List Tq} (ht : F_turns [jobD ws wk] = some (.lst (ts.map tD))) (H : ∀ p ∈ ts, Shr 200 p.1 ∧ ∃ x, (Lq0 ws wk)[p.2]? = some x) :
    ∃ b : Bq, F_best_share [jobD ws wk] = some (.tup [oQ (b.map (·.1)), oQ (b.map (·.2))]) ∧ BOk b ∧ bR b = bst none (ts.map fun p => (toR p.1, ln0 ws wk p.2)) := by
  obtain ⟨b, t3, t4, t5, e, h1, h2⟩ := best_loop V ts none none none none H (fun y hy => by cases hy)
  refine ⟨b, ?_, h1, h2⟩
  have c1 : gSet 1 (eC .non) (startD 6 [jobD ws wk]) = .nx [some (false, jobD ws wk), some (false, .non), none, none, none, none] := rfl
  have c2 : gSet 2 (eC .non) [some (false, jobD ws wk), some (false, .non), none, none, none, none] = .nx [some (false, jobD ws wk), some (false, .non), some (false, .non), none, none, none] := rfl
  have ei : iA (eCall 1 F_turns (aCons (eV 0) aNil)) [some (false, jobD ws wk), some (false, .non), some (false, .non), none, none, none] = some (ts.map tD) := by
    have : eCall 1 F_turns (aCons (eV 0) aNil) [some (false, jobD ws wk), some (false, .non), some (false, .non), none, none, none] = some (.lst (ts.map tD)) := by
      exact call1 rfl ht
    rw [ap_iA, this]
  have c3 : gFor (iA (eCall 1 F_turns (aCons (eV 0) aNil))) (bT (bCons (bN 3) (bCons (bN 4) bNil))) bestB [some (false, jobD ws wk), some (false, .non), some (false, .non), none, none, none] = .nx [some (false, jobD ws wk), some (false, oQ (b.map (·.1))), some (false, oQ (b.map (·.2))), t3, t4, t5] := by
    rw [ap_For, ei]
    exact e
  have c4 : gRet (eTup (aCons (eV 1) (aCons (eV 2) aNil))) [some (false, jobD ws wk), some (false, oQ (b.map (·.1))), some (false, oQ (b.map (·.2))), t3, t4, t5] = .rt (.tup [oQ (b.map (·.1)), oQ (b.map (·.2))]) := rfl
  have d : g_best_share (startD 6 [jobD ws wk]) = .rt (.tup [oQ (b.map (·.1)), oQ (b.map (·.2))]) := by
    unfold g_best_share
    rw [seq_nx c1, seq_nx c2]
    exact (seq_nx c3).trans c4
  unfold F_best_share mkF
  rw [d]
  rfl
end
end K04

set_option maxHeartbeats 2000000
namespace K04
open PySem PySem.Spec PyProof.Rows L2 DL K04R
/-! ### the law's own scan -/
def mD (s : Qp) (x : Wq) : D := .tup [qd (gnQ s x), qd x.1]
def ldoneB : DS1 := (gSeq (gSet 7 (eCall 2 F_u_law_worth (aCons (eV 0) (aCons (eV 4) aNil))))
  (gSeq (gSet 8 (eTup (aCons (eCall 2 F_u_law_less (aCons (eCall 2 F_u_law_product (aCons (eV 1) (aCons (eV 7) aNil))) (aCons (eTup (aCons (eV 5) (aCons (eC (.int 1)) aNil))) aNil))) (aCons (eV 7) aNil))))
  (gIf (eOr (eCall 2 F_u_law_below (aCons (DL.e2 gIxA (eVB 3) (eC (.int 0))) (aCons (DL.e2 gIxA (eVB 8) (eC (.int 0))) aNil))) (eAnd (DL.e2 (gEqA false) (DL.e2 gIxA (eVB 3) (eC (.int 0))) (DL.e2 gIxA (eVB 8) (eC (.int 0)))) (eCall 2 F_u_law_below (aCons (DL.e2 gIxA (eVB 3) (eC (.int 1))) (aCons (DL.e2 gIxA (eVB 8) (eC (.int 1))) aNil))))) (gPar 2 3 (aCons (eV 4) (aCons (eV 8) aNil))) gNx)))
def ldoneT : D → DEnv → Option DEnv := bT (bCons (bN 4) (bCons (bT (bCons (bN 5) (bCons (bN 6) bNil))) bNil))
def wqOf (ws : List Int) (p : Int × List Int) : Wq := (avQ p (ws.map one1), p.1)
theorem ix_m0 (s : Qp) (x : Wq) : gIxA (mD s x) (.int 0) = some (qd (gnQ s x)) := rfl
theorem ix_m1 (s : Qp) (x : Wq) : gIxA (mD s x) (.int 1) = some (qd x.1) := rfl
section
variable {ws : List Int} {wk : List (Int × List Int)} (V : Valid ws wk)
include V
theorem F_lworth_at {k : Nat} {x : Wq} (h : (Lq0 ws wk)[k]? = some x) : F_u_law_worth [packD ws wk, wD k] = some (qd x.1) := by
  cases k with
  | zero => cases h; rfl
  | succ i =>
    have h : (wk.map fun p => ((avQ p (ws.map one1), p.1) : Wq))[i]? = some x := h
    rw [List.getElem?_map, Option.map_eq_some_iff] at h
    obtain ⟨p, hp, rfl⟩ := h
    exact F_lworth V hp
theorem ldone_step {n : Nat} {s : Qp} (hs : Ok n s) (ln : n ≤ 1000) {i b : Nat} {m : Wq} {p : Int × List Int} (hi : wk[i]? = some p) (hm : WOk m) (s7 s8 : Slot) :
    ldoneB [some (false, packD ws wk), some (false, qd s), some (false, wD b), some (false, mD s m), some (false, .int i), some (false, .int p.1), some (false, .tup (p.2.map .int)), s7, s8]
      = .nx (if lt (toR s) (lnR m) (lnR (wqOf ws p)) then [some (false, packD ws wk), some (false, qd s), some (false, wD (i + 1)), some (false, mD s (wqOf ws p)), some (false, .int i), some (false, .int p.1), some (false, .tup (p.2.map .int)), some (false, qd (wqOf ws p).1), some (false, mD s (wqOf ws p))]
        else [some (false, packD ws wk), some (false, qd s), some (false, wD b), some (false, mD s m), some (false, .int i), some (false, .int p.1), some (false, .tup (p.2.map .int)), some (false, qd (wqOf ws p).1), some (false, mD s (wqOf ws p))]) := by
  have hx : WOk (wqOf ws p) := Lq_ok V _ (List.mem_map_of_mem (List.mem_of_getElem? hi))
  have e1 : F_u_law_worth [packD ws wk, .int i] = some (qd (wqOf ws p).1) := F_lworth V hi
  have e2 := F_lproduct_eq hs hx.ok (by omega)
  have e3 := F_lless_eq (qmul_ok hs hx.ok) (one_ok hx) (by omega)
  have e3 : F_u_law_less [qd (qmul s (wqOf ws p).1), qd (one1 p.1)] = some (qd (gnQ s (wqOf ws p))) := e3
  have e4 := F_below_eq (gn_ok hs hm) (gn_ok hs hx) (by omega)
  have e5 := F_below_eq hm.ok hx.ok (by omega)
  have e6 := eq_qd (gnQ s m) (gnQ s (wqOf ws p))
  have pr := pref_R hs hx hm
  generalize hX : wqOf ws p = X at *
  have o1 : (D.tup [.int p.1, .int 1]) = qd (one1 p.1) := rfl
  have c7 : ∀ ρ : DEnv, aCons (eV 0) (aCons (eV 4) aNil) ρ = some [packD ws wk, .int i] → gSet 7 (eCall 2 F_u_law_worth (aCons (eV 0) (aCons (eV 4) aNil))) ρ = .nx (ρ.set 7 (some (false, qd X.1))) := fun ρ h => by
    rw [ap_Set, call2 h e1]
  unfold ldoneB
  rw [seq_nx (c7 _ rfl)]
  have c8 : gSet 8 (eTup (aCons (eCall 2 F_u_law_less (aCons (eCall 2 F_u_law_product (aCons (eV 1) (aCons (eV 7) aNil))) (aCons (eTup (aCons (eV 5) (aCons (eC (.int 1)) aNil))) aNil))) (aCons (eV 7) aNil))) [some (false, packD ws wk), some (false, qd s), some (false, wD b), some (false, mD s m), some (false, .int i), some (false, .int p.1), some (false, .tup (p.2.map .int)), some (false, qd X.1), s8]
      = .nx [some (false, packD ws wk), some (false, qd s), some (false, wD b), some (false, mD s m), some (false, .int i), some (false, .int p.1), some (false, .tup (p.2.map .int)), some (false, qd X.1), some (false, mD s X)] := by
    simp only [mkF, startD, ap_Seq, back_ret, ap_Set, ap_SetF, ap_Call, ap_CB, ap_Cons, ap_Nil, ap_2, ap_C, ap_V, ap_VB, ap_Tup, ap_Lst, ap_If, ap_Not, ap_Nx, ap_Exp, ap_Par, ap_ParF, ap_Wh, ap_For, ap_IfS, ap_bN, ap_bT, ap_bC, ap_b0, ix0, ix1, gAdd_eq, gAddA_eq, gEqA_int, gEqA_int', ixA0, ixA1, gSub_eq, List.map_cons, List.map_nil, List.length_cons, List.length_nil, List.cons_append, List.nil_append, List.replicate, List.getElem?_cons_zero, List.getElem?_cons_succ, List.set_cons_zero, List.set_cons_succ, bind_s, Option.map_some, if_true, Nat.reduceAdd, Nat.reduceSub, Nat.reduceLeDiff, reduceIte, e2, o1, e3]
    rfl
  have c8' := seq_nx (g' := (gIf (eOr (eCall 2 F_u_law_below (aCons (DL.e2 gIxA (eVB 3) (eC (.int 0))) (aCons (DL.e2 gIxA (eVB 8) (eC (.int 0))) aNil))) (eAnd (DL.e2 (gEqA false) (DL.e2 gIxA (eVB 3) (eC (.int 0))) (DL.e2 gIxA (eVB 8) (eC (.int 0)))) (eCall 2 F_u_law_below (aCons (DL.e2 gIxA (eVB 3) (eC (.int 1))) (aCons (DL.e2 gIxA (eVB 8) (eC (.int 1))) aNil))))) (gPar 2 3 (aCons (eV 4) (aCons (eV 8) aNil))) gNx)) c8
  refine c8'.trans ?_
  have ec : eOr (eCall 2 F_u_law_below (aCons (DL.e2 gIxA (eVB 3) (eC (.int 0))) (aCons (DL.e2 gIxA (eVB 8) (eC (.int 0))) aNil))) (eAnd (DL.e2 (gEqA false) (DL.e2 gIxA (eVB 3) (eC (.int 0))) (DL.e2 gIxA (eVB 8) (eC (.int 0)))) (eCall 2 F_u_law_below (aCons (DL.e2 gIxA (eVB 3) (eC (.int 1))) (aCons (DL.e2 gIxA (eVB 8) (eC (.int 1))) aNil)))) [some (false, packD ws wk), some (false, qd s), some (false, wD b), some (false, mD s m), some (false, .int i), some (false, .int p.1), some (false, .tup (p.2.map .int)), some (false, qd X.1), some (false, mD s X)]
      = some (.bl (decide (lt (toR s) (lnR m) (lnR X)))) := by
    rw [← pr]
    simp only [ap_Or, ap_And, mkF, startD, ap_Seq, back_ret, ap_Set, ap_SetF, ap_Call, ap_CB, ap_Cons, ap_Nil, ap_2, ap_C, ap_V, ap_VB, ap_Tup, ap_Lst, ap_If, ap_Not, ap_Nx, ap_Exp, ap_Par, ap_ParF, ap_Wh, ap_For, ap_IfS, ap_bN, ap_bT, ap_bC, ap_b0, ix0, ix1, gAdd_eq, gAddA_eq, gEqA_int, gEqA_int', ixA0, ixA1, gSub_eq, List.map_cons, List.map_nil, List.length_cons, List.length_nil, List.cons_append, List.nil_append, List.replicate, List.getElem?_cons_zero, List.getElem?_cons_succ, List.set_cons_zero, List.set_cons_succ, bind_s, Option.map_some, if_true, Nat.reduceAdd, Nat.reduceSub, Nat.reduceLeDiff, reduceIte, ix_m0, ix_m1, e4, e5, e6]
    by_cases c : gnQ s X = gnQ s m
    · have c2 : gnQ s m = gnQ s X := c.symm
      have : qlt (gnQ s m) (gnQ s X) = false := by
        rw [c]; unfold qlt; exact decide_eq_false (Int.lt_irrefl _)
      rw [this, if_pos c]
      simp only [decide_eq_true c2]
    · have c2 : ¬ gnQ s m = gnQ s X := fun z => c z.symm
      rw [if_neg c]
      cases qlt (gnQ s m) (gnQ s X) with
      | true => rfl
      | false => simp only [decide_eq_false c2]
  rw [ap_IfS, ec]
  by_cases c : lt (toR s) (lnR m) (lnR X)
  · rw [if_pos c, decide_eq_true c]
    rfl
  · rw [if_neg c, decide_eq_false c]
    rfl
theorem ldone_loop {n : Nat} {s : Qp} (hs : Ok n s) (ln : n ≤ 1000) : ∀ (r : List (Int × List Int)) (i b : Nat) (m : Wq) (s4 s5 s6 s7 s8 : Slot), wk.drop i = r → WOk m →
    ∃ m' s4' s5' s6' s7' s8', forL ldoneT ldoneB (enD i (r.map wkD)) [some (false, packD ws wk), some (false, qd s), some (false, wD b), some (false, mD s m), s4, s5, s6, s7, s8]
      = .nx [some (false, packD ws wk), some (false, qd s), some (false, wD (K04R.scan (toR s) (i + 1) b (lnR m) ((r.map (wqOf ws)).map lnR)).1), some (false, m'), s4', s5', s6', s7', s8']
  | [], i, b, m, s4, s5, s6, s7, s8, _, _ => ⟨_, s4, s5, s6, s7, s8, rfl⟩
  | p :: r, i, b, m, s4, s5, s6, s7, s8, hd, hm => by
    have hi : wk[i]? = some p := by
      have := congrArg (·[0]?) hd
      simpa using this
    have hd' : wk.drop (i + 1) = r := by
      have := congrArg (List.drop 1) hd
      simpa [List.drop_drop, Nat.add_comm] using this
    have st := ldone_step V hs ln hi (b := b) hm s7 s8
    have hx : WOk (wqOf ws p) := Lq_ok V _ (List.mem_map_of_mem (List.mem_of_getElem? hi))
    rw [List.map_cons, List.map_cons, List.map_cons]
    unfold enD forL K04R.scan
    have eb : ldoneT (.tup [.int i, wkD p]) [some (false, packD ws wk), some (false, qd s), some (false, wD b), some (false, mD s m), s4, s5, s6, s7, s8] = some [some (false, packD ws wk), some (false, qd s), some (false, wD b), some (false, mD s m), some (false, .int i), some (false, .int p.1), some (false, .tup (p.2.map .int)), s7, s8] := rfl
    rw [eb]
    simp only [st]
    by_cases c : lt (toR s) (lnR m) (lnR (wqOf ws p))
    · rw [if_pos c, if_pos c]
      exact ldone_loop hs ln r (i + 1) (i + 1) (wqOf ws p) _ _ _ _ _ hd' hx
    · rw [if_neg c, if_neg c]
      exact ldone_loop hs ln r (i + 1) b m _ _ _ _ _ hd' hm
theorem F_ldone_eq {n : Nat} {s : Qp} (hs : Ok n s) (ln : n ≤ 1000) : F_u_law_done [packD ws wk, qd s] = some (wD (K04R.best (toR s) (RL ws wk)).1) := by
  have w0 : WOk (((0, 1), 0) : Wq) := Lq0_ok V _ List.mem_cons_self
  obtain ⟨m', t4, t5, t6, t7, t8, e⟩ := ldone_loop V hs ln wk 0 0 ((0, 1), 0) none none none none none rfl w0
  have em : mD s ((0, 1), 0) = .tup [qd (0, 1), qd (0, 1)] := by
    have : gnQ s ((0, 1), 0) = (0, 1) := toR_inj (gn_ok hs w0) ok00 (by
      rw [gn_R hs w0, lnR0, R0]; unfold val; grind)
    unfold mD
    rw [this]
  have hbb : K04R.scan (toR s) 1 0 (0, 0) ((wk.map (wqOf ws)).map lnR) = K04R.best (toR s) (RL ws wk) := by unfold K04R.best RL; rfl
  rw [lnR0, Nat.zero_add, hbb] at e
  have c1 : gAsg (eTup (aCons (eC .non) (aCons (eTup (aCons (eTup (aCons (eC (.int 0)) (aCons (eC (.int 1)) aNil))) (aCons (eTup (aCons (eC (.int 0)) (aCons (eC (.int 1)) aNil))) aNil))) aNil))) (bT (bCons (bN 2) (bCons (bN 3) bNil))) (startD 9 [packD ws wk, qd s]) = .nx [some (false, packD ws wk), some (false, qd s), some (false, wD 0), some (false, mD s ((0, 1), 0)), none, none, none, none, none] := by
    rw [em]; rfl
  have ei : iEnA (DL.e2 gIxA (eVB 0) (eC (.int 1))) [some (false, packD ws wk), some (false, qd s), some (false, wD 0), some (false, mD s ((0, 1), 0)), none, none, none, none, none] = some (enD 0 (wk.map wkD)) := rfl
  have c2 : gFor (iEnA (DL.e2 gIxA (eVB 0) (eC (.int 1)))) ldoneT ldoneB [some (false, packD ws wk), some (false, qd s), some (false, wD 0), some (false, mD s ((0, 1), 0)), none, none, none, none, none] = .nx [some (false, packD ws wk), some (false, qd s), some (false, wD (K04R.best (toR s) (RL ws wk)).1), some (false, m'), t4, t5, t6, t7, t8] := by
    rw [ap_For, ei]
    exact e
  have d : g_u_law_done (startD 9 [packD ws wk, qd s]) = .rt (wD (K04R.best (toR s) (RL ws wk)).1) := by
    unfold g_u_law_done
    rw [seq_nx c1]
    exact (seq_nx c2).trans rfl
  unfold F_u_law_done mkF
  rw [d]
  rfl
end
end K04

set_option maxHeartbeats 1000000
/-! passes over a list, the greater one carried on -/
namespace K04R
section
variable {α : Type} (f : α → Rat)
def pas : α → List α → List α
  | a, [] => [a]
  | a, b :: r => if f b < f a then b :: pas a r else a :: pas b r
def pass : List α → List α
  | [] => []
  | a :: r => pas f a r
def passes : Nat → List α → List α
  | 0, l => l
  | n + 1, l => passes n (pass f l)
theorem pas_len : ∀ (r : List α) (a : α), (pas f a r).length = r.length + 1
  | [], a => rfl
  | b :: r, a => by
    unfold pas
    split
    · rw [List.length_cons, pas_len r a, List.length_cons]
    · rw [List.length_cons, pas_len r b, List.length_cons]
theorem pass_len (l : List α) : (pass f l).length = l.length := by
  cases l with
  | nil => rfl
  | cons a r => exact pas_len f r a
theorem passes_len : ∀ (n : Nat) (l : List α), (passes f n l).length = l.length
  | 0, l => rfl
  | n + 1, l => by
    show (passes f n (pass f l)).length = _
    rw [passes_len n, pass_len]
theorem pas_mem : ∀ (r : List α) (a x : α), x ∈ pas f a r ↔ x = a ∨ x ∈ r
  | [], a, x => by unfold pas; simp
  | b :: r, a, x => by
    unfold pas
    split
    · rw [List.mem_cons, pas_mem r a, List.mem_cons]
      constructor
      · rintro (h | h | h)
        · exact .inr (.inl h)
        · exact .inl h
        · exact .inr (.inr h)
      · rintro (h | h | h)
        · exact .inr (.inl h)
        · exact .inl h
        · exact .inr (.inr h)
    · rw [List.mem_cons, pas_mem r b, List.mem_cons]
theorem pass_mem (l : List α) (x : α) : x ∈ pass f l ↔ x ∈ l := by
  cases l with
  | nil => exact Iff.rfl
  | cons a r => exact (pas_mem f r a x).trans List.mem_cons.symm
theorem passes_mem : ∀ (n : Nat) (l : List α) (x : α), x ∈ passes f n l ↔ x ∈ l
  | 0, l, x => Iff.rfl
  | n + 1, l, x => (passes_mem n _ x).trans (pass_mem f l x)
theorem pas_last : ∀ (r : List α) (a : α), ∃ (u : List α) (m : α), pas f a r = u ++ [m] ∧ f a ≤ f m ∧ ∀ x ∈ u, f x ≤ f m
  | [], a => ⟨[], a, rfl, by grind, fun x hx => by cases hx⟩
  | b :: r, a => by
    unfold pas
    by_cases c : f b < f a
    · rw [if_pos c]
      obtain ⟨u, m, e, h1, h2⟩ := pas_last r a
      refine ⟨b :: u, m, by rw [e]; rfl, h1, fun x hx => ?_⟩
      rcases List.mem_cons.mp hx with q | q
      · subst q; grind
      · exact h2 x q
    · rw [if_neg c]
      obtain ⟨u, m, e, h1, h2⟩ := pas_last r b
      refine ⟨a :: u, m, by rw [e]; rfl, by grind, fun x hx => ?_⟩
      rcases List.mem_cons.mp hx with q | q
      · subst q; grind
      · exact h2 x q
theorem pas_sorted : ∀ (v : List α) (a : α), v.Pairwise (fun x y => f x ≤ f y) → (∀ x ∈ v, f a ≤ f x) → pas f a v = a :: v
  | [], a, _, _ => rfl
  | b :: r, a, h, h2 => by
    have h' := List.pairwise_cons.mp h
    have := h2 b List.mem_cons_self
    unfold pas
    rw [if_neg (by grind), pas_sorted r b h'.2 h'.1]
theorem pas_app : ∀ (u : List α) (a : α) (v : List α), v.Pairwise (fun x y => f x ≤ f y) → (∀ x ∈ v, f a ≤ f x) → (∀ y ∈ u, ∀ x ∈ v, f y ≤ f x) → pas f a (u ++ v) = pas f a u ++ v
  | [], a, v, h, h1, _ => pas_sorted f v a h h1
  | b :: u, a, v, h, h1, h2 => by
    rw [List.cons_append]
    unfold pas
    split
    · rw [pas_app u a v h h1 (fun y hy => h2 y (List.mem_cons_of_mem _ hy))]; rfl
    · rw [pas_app u b v h (h2 b List.mem_cons_self) (fun y hy => h2 y (List.mem_cons_of_mem _ hy))]; rfl
theorem passes_inv : ∀ (n : Nat) (u v : List α), u.length = n → v.Pairwise (fun x y => f x ≤ f y) → (∀ y ∈ u, ∀ x ∈ v, f y ≤ f x) → (passes f n (u ++ v)).Pairwise (fun x y => f x ≤ f y)
  | 0, u, v, hu, h, _ => by
    rw [List.length_eq_zero_iff] at hu
    subst hu
    exact h
  | n + 1, [], v, hu, _, _ => by cases hu
  | n + 1, a :: r, v, hu, h, h2 => by
    show (passes f n (pas f a (r ++ v))).Pairwise _
    rw [pas_app f r a v h (h2 a List.mem_cons_self) (fun y hy => h2 y (List.mem_cons_of_mem _ hy))]
    obtain ⟨u, m, e, h3, h4⟩ := pas_last f r a
    have hm : ∀ x ∈ u ++ [m], x = a ∨ x ∈ r := fun x hx => (pas_mem f r a x).mp (by rw [e]; exact hx)
    have hl := pas_len f r a
    rw [e] at hl ⊢
    rw [List.append_assoc]
    have mem : ∀ y ∈ u ++ [m], ∀ x ∈ v, f y ≤ f x := fun y hy x hx => by
      rcases hm y hy with q | q
      · subst q; exact h2 _ List.mem_cons_self x hx
      · exact h2 y (List.mem_cons_of_mem _ q) x hx
    refine passes_inv n u ([m] ++ v) ?_ ?_ ?_
    · rw [List.length_append, List.length_singleton] at hl
      rw [List.length_cons] at hu
      omega
    · refine List.pairwise_cons.mpr ⟨fun x hx => mem m (List.mem_append_right _ List.mem_cons_self) x hx, h⟩
    · intro y hy x hx
      rcases List.mem_append.mp hx with q | q
      · rw [List.mem_singleton] at q
        subst q
        exact h4 y hy
      · exact mem y (List.mem_append_left _ hy) x q
theorem passes_sorted (l : List α) : (passes f l.length l).Pairwise (fun x y => f x ≤ f y) := by
  have := passes_inv f l.length l [] rfl List.Pairwise.nil (fun _ _ _ hx => by cases hx)
  rwa [List.append_nil] at this
end
end K04R

set_option maxHeartbeats 2000000
namespace K04
open PySem PySem.Spec PyProof.Rows L2 DL K04R
/-! ### the law's shares where something may change -/
def kq (q : Qp) : NestedKey := .tup [.num q.1, .num q.2]
theorem keyD_qd (q : Qp) : keyD (qd q) = some (kq q) := rfl
theorem kq_inj {p q : Qp} : kq p = kq q ↔ p = q := by
  constructor
  · intro h
    unfold kq at h
    injection h with h
    injection h with h1 h2
    injection h1 with h1
    injection h2 with h2 _
    injection h2 with h2
    exact Prod.ext h1 h2
  · intro h; rw [h]
def ent (q : Qp) : D × D := (qd q, .bl true)
def addK (ks : List Qp) (q : Qp) : List Qp := if q ∈ ks then ks else ks ++ [q]
theorem look_ent : ∀ (ks : List Qp) (q : Qp), lookD (ks.map ent) (kq q) = if q ∈ ks then some (.bl true) else none
  | [], q => rfl
  | k :: ks, q => by
    letI : CT := ⟨fun _ => 0⟩
    rw [List.map_cons, lookD_cons]
    show (if some (kq k) = some (kq q) then _ else _) = _
    by_cases c : k = q
    · subst c
      rw [if_pos rfl, if_pos List.mem_cons_self]
      rfl
    · rw [if_neg (fun z => c (kq_inj.mp (Option.some.inj z))), look_ent ks q]
      by_cases c2 : q ∈ ks
      · rw [if_pos c2, if_pos (List.mem_cons_of_mem _ c2)]
      · rw [if_neg c2, if_neg (fun z => (List.mem_cons.mp z).elim (fun w => c w.symm) c2)]
theorem put_ent (ks : List Qp) (q : Qp) : putDD (ks.map ent) (qd q) (kq q) (.bl true) = (addK ks q).map ent := by
  unfold putDD addK
  rw [look_ent]
  by_cases c : q ∈ ks
  · rw [if_pos c, if_pos c]
    show (if true = true then _ else _) = _
    rw [if_pos rfl, List.map_map]
    refine List.map_congr_left fun p _ => ?_
    show (if some (kq p) = some (kq q) then _ else _) = _
    split
    · rfl
    · rfl
  · rw [if_neg c, if_neg c]
    show (if false = true then _ else _) = _
    rw [if_neg (by decide), List.map_append]
    rfl
theorem ok_ent (ks : List Qp) (q : Qp) : okKey (ks.map ent) (kq q) = true := by
  unfold okKey
  rw [Bool.and_eq_true]
  refine ⟨rfl, ?_⟩
  rw [List.all_eq_true]
  intro p hp
  obtain ⟨k, _, rfl⟩ := List.mem_map.mp hp
  rfl
theorem addK_len (ks : List Qp) (q : Qp) : (addK ks q).length ≤ ks.length + 1 := by
  unfold addK; split
  · omega
  · simp
theorem addK_mem (ks : List Qp) (q k : Qp) : k ∈ addK ks q ↔ k ∈ ks ∨ k = q := by
  unfold addK; split
  · rename_i h
    exact ⟨.inl, fun z => z.elim id fun e => e ▸ h⟩
  · simp
def cndR (x y : Wq) : Prop := (lnR x).1 < (lnR y).1 ∧ x.2 < y.2 ∧ ¬ 1 < cross (lnR x) (lnR y)
instance (x y : Wq) : Decidable (cndR x y) := by unfold cndR; infer_instance
def addR (x : Wq) (ks : List Qp) (y : Wq) : List Qp := if cndR x y then addK ks (crQ x y) else ks
theorem cross_pos {x y : Wq} (h : (lnR x).1 < (lnR y).1) : 0 < cross (lnR x) (lnR y) ↔ x.2 < y.2 := by
  have h0 : (0 : Rat) < (lnR y).1 - (lnR x).1 := by grind
  have e : cross (lnR x) (lnR y) * ((lnR y).1 - (lnR x).1) = (lnR y).2 - (lnR x).2 := by unfold cross; grind
  have i : x.2 < y.2 ↔ (0 : Rat) < (lnR y).2 - (lnR x).2 := by
    show _ ↔ (0 : Rat) < (y.2 : Rat) - (x.2 : Rat)
    have : (x.2 < y.2) ↔ (x.2 : Rat) < (y.2 : Rat) := by exact_mod_cast Iff.rfl
    rw [this]
    constructor <;> intro h <;> grind
  rw [i, ← e]
  constructor
  · exact fun z => Rat.mul_pos z h0
  · intro z
    apply Classical.byContradiction
    intro q
    have := Rat.mul_nonneg (show (0 : Rat) ≤ - cross (lnR x) (lnR y) by grind) (show (0 : Rat) ≤ (lnR y).1 - (lnR x).1 by grind)
    grind
theorem cnd_shr {x y : Wq} (hx : WOk x) (hy : WOk y) (h : cndR x y) : Shr 200 (crQ x y) := by
  have o := cr_ok hx hy h.1
  have e := cr_R hx hy h.1
  have p := (cross_pos h.1).mpr h.2.1
  refine ⟨o, ?_, ?_⟩
  · have := (pos_R o).mpr (by rw [e]; exact p)
    omega
  · rw [e]; have := h.2.2; grind
theorem addR_inner {x : Wq} : ∀ (ys : List Wq) (ks : List Qp), (∀ q, q ∈ ys.foldl (addR x) ks ↔ q ∈ ks ∨ ∃ y ∈ ys, cndR x y ∧ q = crQ x y) ∧ (ys.foldl (addR x) ks).length ≤ ks.length + ys.length
  | [], ks => ⟨fun q => ⟨.inl, fun z => z.elim id fun ⟨y, h, _⟩ => by cases h⟩, Nat.le_refl _⟩
  | y :: ys, ks => by
    obtain ⟨i1, i2⟩ := addR_inner (x := x) ys (addR x ks y)
    have hl : (addR x ks y).length ≤ ks.length + 1 := by
      unfold addR; split
      · exact addK_len _ _
      · omega
    rw [List.foldl_cons]
    refine ⟨fun q => ?_, by rw [List.length_cons]; omega⟩
    rw [i1]
    unfold addR
    by_cases c : cndR x y
    · rw [if_pos c, addK_mem]
      constructor
      · rintro ((h | h) | ⟨z, hz, h1, h2⟩)
        · exact .inl h
        · exact .inr ⟨y, List.mem_cons_self, c, h⟩
        · exact .inr ⟨z, List.mem_cons_of_mem _ hz, h1, h2⟩
      · rintro (h | ⟨z, hz, h1, h2⟩)
        · exact .inl (.inl h)
        · rcases List.mem_cons.mp hz with w | w
          · subst w; exact .inl (.inr h2)
          · exact .inr ⟨z, w, h1, h2⟩
    · rw [if_neg c]
      constructor
      · rintro (h | ⟨z, hz, h1, h2⟩)
        · exact .inl h
        · exact .inr ⟨z, List.mem_cons_of_mem _ hz, h1, h2⟩
      · rintro (h | ⟨z, hz, h1, h2⟩)
        · exact .inl h
        · rcases List.mem_cons.mp hz with w | w
          · subst w; exact absurd h1 c
          · exact .inr ⟨z, w, h1, h2⟩
def allK (ys : List Wq) (xs : List Wq) (ks : List Qp) : List Qp := xs.foldl (fun ks x => ys.foldl (addR x) ks) ks
theorem allK_spec (ys : List Wq) : ∀ (xs : List Wq) (ks : List Qp), (∀ q, q ∈ allK ys xs ks ↔ q ∈ ks ∨ ∃ x ∈ xs, ∃ y ∈ ys, cndR x y ∧ q = crQ x y) ∧ (allK ys xs ks).length ≤ ks.length + xs.length * ys.length
  | [], ks => ⟨fun q => ⟨.inl, fun z => z.elim id fun ⟨y, h, _⟩ => by cases h⟩, by show ks.length ≤ _; omega⟩
  | x :: xs, ks => by
    obtain ⟨j1, j2⟩ := addR_inner (x := x) ys ks
    obtain ⟨i1, i2⟩ := allK_spec ys xs (ys.foldl (addR x) ks)
    have : allK ys (x :: xs) ks = allK ys xs (ys.foldl (addR x) ks) := rfl
    rw [this]
    refine ⟨fun q => ?_, by rw [List.length_cons, Nat.succ_mul]; omega⟩
    rw [i1, j1]
    constructor
    · rintro ((h | h) | ⟨z, hz, h⟩)
      · exact .inl h
      · exact .inr ⟨x, List.mem_cons_self, h⟩
      · exact .inr ⟨z, List.mem_cons_of_mem _ hz, h⟩
    · rintro (h | ⟨z, hz, h⟩)
      · exact .inl (.inl h)
      · rcases List.mem_cons.mp hz with w | w
        · subst w; exact .inl (.inr h)
        · exact .inr ⟨z, w, h⟩
end K04

set_option maxHeartbeats 2000000
namespace K04
open PySem PySem.Spec PyProof.Rows L2 DL K04R
def rwD (x : Wq) : D := .tup [qd x.1, .int x.2]
def spotB : DS1 := (gIf (eAnd (eCall 2 F_u_law_below (aCons (eV 3) (aCons (eV 5) aNil))) (DL.e2 gGt (eVB 6) (eVB 4))) (gSeq (gSet 7 (eCall 2 F_u_law_less (aCons (eV 5) (aCons (eV 3) aNil))))
  (gSeq (gSet 8 (eCall 2 F_u_law_product (aCons (eTup (aCons (DL.e2 gSubI (eVB 6) (eVB 4)) (aCons (eC (.int 1)) aNil))) (aCons (eTup (aCons (DL.e2 gIxA (eVB 7) (eC (.int 1))) (aCons (DL.e2 gIxA (eVB 7) (eC (.int 0))) aNil))) aNil))))
  (gIf (eNot (eCall 2 F_u_law_below (aCons (eTup (aCons (eC (.int 1)) (aCons (eC (.int 1)) aNil))) (aCons (eV 8) aNil)))) (gSetA 1 (eV 8) (eC (.bl true))) gNx))) gNx)
def tl6 : DEnv := [none, none, none, none, none, none]
theorem gSetA_ent {ρ : DEnv} {ks : List Qp} {q : Qp} (h1 : ρ[1]? = some (some (true, .dic (ks.map ent)))) (h8 : ρ[8]? = some (some (false, qd q))) (l : ks.length < 1000) : gSetA 1 (eV 8) (eC (.bl true)) ρ = .nx (ρ.set 1 (some (true, .dic ((addK ks q).map ent)))) := by
  have e8 : eV 8 ρ = some (qd q) := by rw [ap_V, h8]
  have n : ¬ (ρ[1]?.map isLst = some true) := by rw [h1]; intro z; have z : some false = some true := z; cases z
  unfold gSetA
  rw [if_neg n]
  unfold gSetD
  rw [e8, h1, ap_C]
  simp only [keyD_qd]
  rw [if_pos ⟨ok_ent ks q, by rw [List.length_map]; exact l⟩, put_ent]
section
variable {ws : List Int} {wk : List (Int × List Int)} (V : Valid ws wk)
include V
theorem spot_step {x y : Wq} (hx : WOk x) (hy : WOk y) (ks : List Qp) (l : ks.length < 1000) (R s7 s8 : Slot) :
    ∃ s7' s8', spotB ([some (false, packD ws wk), some (true, .dic (ks.map ent)), R, some (false, qd x.1), some (false, .int x.2), some (false, qd y.1), some (false, .int y.2), s7, s8] ++ tl6)
      = .nx ([some (false, packD ws wk), some (true, .dic ((addR x ks y).map ent)), R, some (false, qd x.1), some (false, .int x.2), some (false, qd y.1), some (false, .int y.2), s7', s8'] ++ tl6) := by
  have e1 := F_below_eq hx.ok hy.ok (by omega)
  rw [qlt_R hx.ok hy.ok] at e1
  have lx : decide (toR x.1 < toR y.1) = decide ((lnR x).1 < (lnR y).1) := rfl
  rw [lx] at e1
  unfold tl6
  simp only [List.cons_append, List.nil_append]
  by_cases c1 : (lnR x).1 < (lnR y).1
  · by_cases c2 : x.2 < y.2
    · have ec : eAnd (eCall 2 F_u_law_below (aCons (eV 3) (aCons (eV 5) aNil))) (DL.e2 gGt (eVB 6) (eVB 4)) [some (false, packD ws wk), some (true, .dic (ks.map ent)), R, some (false, qd x.1), some (false, .int x.2), some (false, qd y.1), some (false, .int y.2), s7, s8, none, none, none, none, none, none] = some (.bl true) := by
        simp only [ap_And, mkF, startD, ap_Seq, back_ret, ap_Set, ap_SetF, ap_Call, ap_CB, ap_Cons, ap_Nil, ap_2, ap_C, ap_V, ap_VB, ap_Tup, ap_Lst, ap_If, ap_Not, ap_Nx, ap_Exp, ap_Par, ap_ParF, ap_Wh, ap_For, ap_IfS, ap_bN, ap_bT, ap_bC, ap_b0, ix0, ix1, gAdd_eq, gAddA_eq, gEqA_int, gEqA_int', ixA0, ixA1, gSub_eq, List.map_cons, List.map_nil, List.length_cons, List.length_nil, List.cons_append, List.nil_append, List.replicate, List.getElem?_cons_zero, List.getElem?_cons_succ, List.set_cons_zero, List.set_cons_succ, bind_s, Option.map_some, if_true, Nat.reduceAdd, Nat.reduceSub, Nat.reduceLeDiff, reduceIte, e1, decide_eq_true c1, gGt_eq, decide_eq_true c2]
      have ol := more_ok hx hy
      have mp := (more_pos hx hy).mpr c1
      have e2 := F_lless_eq hy.ok hx.ok (by omega)
      have e2 : F_u_law_less [qd y.1, qd x.1] = some (qd (moreQ x y)) := e2
      have k7 : gSet 7 (eCall 2 F_u_law_less (aCons (eV 5) (aCons (eV 3) aNil))) [some (false, packD ws wk), some (true, .dic (ks.map ent)), R, some (false, qd x.1), some (false, .int x.2), some (false, qd y.1), some (false, .int y.2), s7, s8, none, none, none, none, none, none]
          = .nx [some (false, packD ws wk), some (true, .dic (ks.map ent)), R, some (false, qd x.1), some (false, .int x.2), some (false, qd y.1), some (false, .int y.2), some (false, qd (moreQ x y)), s8, none, none, none, none, none, none] := by
        rw [ap_Set, call2 rfl e2]
        rfl
      have od : Ok 10 ((y.2 - x.2, 1) : Qp) := one1_ok (by omega) (by have := hy.e1; have := hx.e0; omega)
      have eq1 : ((y.2 - x.2, 1) : Qp) = qsub (one1 y.2) (one1 x.2) := toR_inj od (qsub_ok (one_ok hy) (one_ok hx)) (by
        rw [toR_sub (one_ok hy) (one_ok hx), toR_one1, toR_one1, toR_int, Rat.intCast_sub])
      have e3 := F_lproduct_eq od (flip_ok ol mp) (by omega)
      have e3 : F_u_law_product [.tup [.int (y.2 - x.2), .int 1], .tup [.int (moreQ x y).2, .int (moreQ x y).1]] = some (qd (crQ x y)) := by
        refine e3.trans ?_
        rw [eq1]; rfl
      have k8 : gSet 8 (eCall 2 F_u_law_product (aCons (eTup (aCons (DL.e2 gSubI (eVB 6) (eVB 4)) (aCons (eC (.int 1)) aNil))) (aCons (eTup (aCons (DL.e2 gIxA (eVB 7) (eC (.int 1))) (aCons (DL.e2 gIxA (eVB 7) (eC (.int 0))) aNil))) aNil))) [some (false, packD ws wk), some (true, .dic (ks.map ent)), R, some (false, qd x.1), some (false, .int x.2), some (false, qd y.1), some (false, .int y.2), some (false, qd (moreQ x y)), s8, none, none, none, none, none, none]
          = .nx [some (false, packD ws wk), some (true, .dic (ks.map ent)), R, some (false, qd x.1), some (false, .int x.2), some (false, qd y.1), some (false, .int y.2), some (false, qd (moreQ x y)), some (false, qd (crQ x y)), none, none, none, none, none, none] := by
        rw [ap_Set, call2 (a := .tup [.int (y.2 - x.2), .int 1]) (b := .tup [.int (moreQ x y).2, .int (moreQ x y).1]) rfl e3]
        rfl
      have oc := cr_ok hx hy c1
      have e4 := F_below_eq ok1 oc (by omega)
      rw [qlt_R ok1 oc, R1, cr_R hx hy c1] at e4
      have kc : eNot (eCall 2 F_u_law_below (aCons (eTup (aCons (eC (.int 1)) (aCons (eC (.int 1)) aNil))) (aCons (eV 8) aNil))) [some (false, packD ws wk), some (true, .dic (ks.map ent)), R, some (false, qd x.1), some (false, .int x.2), some (false, qd y.1), some (false, .int y.2), some (false, qd (moreQ x y)), some (false, qd (crQ x y)), none, none, none, none, none, none] = some (.bl (!decide (1 < cross (lnR x) (lnR y)))) := by
        rw [ap_Not, call2 (a := qd (1, 1)) (b := qd (crQ x y)) rfl e4]
      refine ⟨some (false, qd (moreQ x y)), some (false, qd (crQ x y)), ?_⟩
      unfold spotB
      rw [ap_IfS, ec]
      show gSeq _ _ _ = _
      rw [seq_nx k7, seq_nx k8, ap_IfS, kc]
      by_cases c3 : 1 < cross (lnR x) (lnR y)
      · have : addR x ks y = ks := if_neg (fun z => z.2.2 c3)
        rw [this, decide_eq_true c3]
        rfl
      · have : addR x ks y = addK ks (crQ x y) := if_pos ⟨c1, c2, c3⟩
        rw [this, decide_eq_false c3]
        exact gSetA_ent rfl rfl l
    · have ec : eAnd (eCall 2 F_u_law_below (aCons (eV 3) (aCons (eV 5) aNil))) (DL.e2 gGt (eVB 6) (eVB 4)) [some (false, packD ws wk), some (true, .dic (ks.map ent)), R, some (false, qd x.1), some (false, .int x.2), some (false, qd y.1), some (false, .int y.2), s7, s8, none, none, none, none, none, none] = some (.bl false) := by
        simp only [ap_And, mkF, startD, ap_Seq, back_ret, ap_Set, ap_SetF, ap_Call, ap_CB, ap_Cons, ap_Nil, ap_2, ap_C, ap_V, ap_VB, ap_Tup, ap_Lst, ap_If, ap_Not, ap_Nx, ap_Exp, ap_Par, ap_ParF, ap_Wh, ap_For, ap_IfS, ap_bN, ap_bT, ap_bC, ap_b0, ix0, ix1, gAdd_eq, gAddA_eq, gEqA_int, gEqA_int', ixA0, ixA1, gSub_eq, List.map_cons, List.map_nil, List.length_cons, List.length_nil, List.cons_append, List.nil_append, List.replicate, List.getElem?_cons_zero, List.getElem?_cons_succ, List.set_cons_zero, List.set_cons_succ, bind_s, Option.map_some, if_true, Nat.reduceAdd, Nat.reduceSub, Nat.reduceLeDiff, reduceIte, e1, decide_eq_true c1, gGt_eq, decide_eq_false c2]
      have : addR x ks y = ks := if_neg (fun z => c2 z.2.1)
      refine ⟨s7, s8, ?_⟩
      unfold spotB
      rw [ap_IfS, ec, this]
      rfl
  · have ec : eAnd (eCall 2 F_u_law_below (aCons (eV 3) (aCons (eV 5) aNil))) (DL.e2 gGt (eVB 6) (eVB 4)) [some (false, packD ws wk), some (true, .dic (ks.map ent)), R, some (false, qd x.1), some (false, .int x.2), some (false, qd y.1), some (false, .int y.2), s7, s8, none, none, none, none, none, none] = some (.bl false) := by
      simp only [ap_And, mkF, startD, ap_Seq, back_ret, ap_Set, ap_SetF, ap_Call, ap_CB, ap_Cons, ap_Nil, ap_2, ap_C, ap_V, ap_VB, ap_Tup, ap_Lst, ap_If, ap_Not, ap_Nx, ap_Exp, ap_Par, ap_ParF, ap_Wh, ap_For, ap_IfS, ap_bN, ap_bT, ap_bC, ap_b0, ix0, ix1, gAdd_eq, gAddA_eq, gEqA_int, gEqA_int', ixA0, ixA1, gSub_eq, List.map_cons, List.map_nil, List.length_cons, List.length_nil, List.cons_append, List.nil_append, List.replicate, List.getElem?_cons_zero, List.getElem?_cons_succ, List.set_cons_zero, List.set_cons_succ, bind_s, Option.map_some, if_true, Nat.reduceAdd, Nat.reduceSub, Nat.reduceLeDiff, reduceIte, e1, decide_eq_false c1]
    have : addR x ks y = ks := if_neg (fun z => c1 z.1)
    refine ⟨s7, s8, ?_⟩
    unfold spotB
    rw [ap_IfS, ec, this]
    rfl
theorem spot_inner {x : Wq} (hx : WOk x) (R : Slot) : ∀ (ys : List Wq) (ks : List Qp) (s5 s6 s7 s8 : Slot), (∀ y ∈ ys, WOk y) → ks.length + ys.length < 1000 →
    ∃ s5' s6' s7' s8', forL (bT (bCons (bN 5) (bCons (bN 6) bNil))) spotB (ys.map rwD) ([some (false, packD ws wk), some (true, .dic (ks.map ent)), R, some (false, qd x.1), some (false, .int x.2), s5, s6, s7, s8] ++ tl6)
      = .nx ([some (false, packD ws wk), some (true, .dic ((ys.foldl (addR x) ks).map ent)), R, some (false, qd x.1), some (false, .int x.2), s5', s6', s7', s8'] ++ tl6)
  | [], ks, s5, s6, s7, s8, _, _ => ⟨s5, s6, s7, s8, rfl⟩
  | y :: ys, ks, s5, s6, s7, s8, H, l => by
    obtain ⟨t7, t8, e⟩ := spot_step V hx (H y List.mem_cons_self) ks (by omega) R s7 s8
    have hl := (addR_inner (x := x) [y] ks).2
    have hl : (addR x ks y).length ≤ ks.length + 1 := hl
    obtain ⟨u5, u6, u7, u8, e'⟩ := spot_inner hx R ys (addR x ks y) (some (false, qd y.1)) (some (false, .int y.2)) t7 t8 (fun z hz => H z (List.mem_cons_of_mem _ hz)) (by rw [List.length_cons] at l; omega)
    refine ⟨u5, u6, u7, u8, ?_⟩
    rw [List.map_cons]
    unfold forL
    have eb : bT (bCons (bN 5) (bCons (bN 6) bNil)) (rwD y) ([some (false, packD ws wk), some (true, .dic (ks.map ent)), R, some (false, qd x.1), some (false, .int x.2), s5, s6, s7, s8] ++ tl6) = some ([some (false, packD ws wk), some (true, .dic (ks.map ent)), R, some (false, qd x.1), some (false, .int x.2), some (false, qd y.1), some (false, .int y.2), s7, s8] ++ tl6) := rfl
    rw [eb]
    simp only [e]
    exact e'
theorem spot_outer (ys : List Wq) (hys : ∀ y ∈ ys, WOk y) : ∀ (xs : List Wq) (ks : List Qp) (s3 s4 s5 s6 s7 s8 : Slot), (∀ x ∈ xs, WOk x) → ks.length + (xs.length + 1) * ys.length < 1000 →
    ∃ s3' s4' s5' s6' s7' s8', forL (bT (bCons (bN 3) (bCons (bN 4) bNil))) (gFor (iA (eV 2)) (bT (bCons (bN 5) (bCons (bN 6) bNil))) spotB) (xs.map rwD) ([some (false, packD ws wk), some (true, .dic (ks.map ent)), some (false, .lst (ys.map rwD)), s3, s4, s5, s6, s7, s8] ++ tl6)
      = .nx ([some (false, packD ws wk), some (true, .dic ((allK ys xs ks).map ent)), some (false, .lst (ys.map rwD)), s3', s4', s5', s6', s7', s8'] ++ tl6)
  | [], ks, s3, s4, s5, s6, s7, s8, _, _ => ⟨s3, s4, s5, s6, s7, s8, rfl⟩
  | x :: xs, ks, s3, s4, s5, s6, s7, s8, H, l => by
    rw [List.length_cons, Nat.succ_mul, Nat.succ_mul] at l
    obtain ⟨t5, t6, t7, t8, e⟩ := spot_inner V (H x List.mem_cons_self) (some (false, .lst (ys.map rwD))) ys ks s5 s6 s7 s8 hys (by omega)
    have hl := (addR_inner (x := x) ys ks).2
    obtain ⟨u3, u4, u5, u6, u7, u8, e'⟩ := spot_outer ys hys xs (ys.foldl (addR x) ks) (some (false, qd x.1)) (some (false, .int x.2)) t5 t6 t7 t8 (fun z hz => H z (List.mem_cons_of_mem _ hz)) (by rw [Nat.succ_mul]; omega)
    refine ⟨u3, u4, u5, u6, u7, u8, ?_⟩
    rw [List.map_cons]
    unfold forL
    have eb : bT (bCons (bN 3) (bCons (bN 4) bNil)) (rwD x) ([some (false, packD ws wk), some (true, .dic (ks.map ent)), some (false, .lst (ys.map rwD)), s3, s4, s5, s6, s7, s8] ++ tl6) = some ([some (false, packD ws wk), some (true, .dic (ks.map ent)), some (false, .lst (ys.map rwD)), some (false, qd x.1), some (false, .int x.2), s5, s6, s7, s8] ++ tl6) := rfl
    rw [eb]
    have ef : gFor (iA (eV 2)) (bT (bCons (bN 5) (bCons (bN 6) bNil))) spotB ([some (false, packD ws wk), some (true, .dic (ks.map ent)), some (false, .lst (ys.map rwD)), some (false, qd x.1), some (false, .int x.2), s5, s6, s7, s8] ++ tl6) = .nx ([some (false, packD ws wk), some (true, .dic ((ys.foldl (addR x) ks).map ent)), some (false, .lst (ys.map rwD)), some (false, qd x.1), some (false, .int x.2), t5, t6, t7, t8] ++ tl6) := by
      rw [ap_For]
      have : iA (eV 2) ([some (false, packD ws wk), some (true, .dic (ks.map ent)), some (false, .lst (ys.map rwD)), some (false, qd x.1), some (false, .int x.2), s5, s6, s7, s8] ++ tl6) = some (ys.map rwD) := rfl
      rw [this]
      exact e
    simp only [ef]
    exact e'
end
end K04

set_option maxHeartbeats 2000000
namespace K04
open PySem PySem.Spec PyProof.Rows L2 DL K04R
def sortB : DS1 := (gIf (eCall 2 F_u_law_below (aCons (DL.e2 gIxA (eVB 9) (DL.e2 gAddA (eVB 11) (eC (.int 1)))) (aCons (DL.e2 gIxA (eVB 9) (eVB 11)) aNil))) (gSeq (gPar 12 5 (aCons (DL.e2 gIxA (eVB 9) (eVB 11)) (aCons (DL.e2 gIxA (eVB 9) (DL.e2 gAddA (eVB 11) (eC (.int 1)))) aNil)))
  (gSwap 9 (eV 11) (DL.e2 gAddA (eVB 11) (eC (.int 1))) (eV 5) (eV 12))) gNx)
structure Q14 where
  (s0 s1 s2 s3 s4 s6 s7 s8 : Slot)
def eS (q : Q14) (l : List Qp) (s5 s10 s11 s12 : Slot) : DEnv := [q.s0, q.s1, q.s2, q.s3, q.s4, s5, q.s6, q.s7, q.s8, some (true, .lst (l.map qd)), s10, s11, s12, none, none]
theorem set2 : ∀ (u : List Qp) (a b : Qp) (r : List Qp), (((u ++ a :: b :: r).map qd).set u.length (qd b)).set (u.length + 1) (qd a) = (u ++ b :: a :: r).map qd
  | [], a, b, r => rfl
  | x :: u, a, b, r => by
    have := set2 u a b r
    simp only [List.cons_append, List.map_cons, List.length_cons, List.set_cons_succ, this]
theorem at_u (u : List Qp) (a : Qp) (r : List Qp) : (u ++ a :: r)[u.length]? = some a := by simp
theorem at_u1 (u : List Qp) (a b : Qp) (r : List Qp) : (u ++ a :: b :: r)[u.length + 1]? = some b := by
  have := at_u (u ++ [a]) b r
  simpa using this
theorem ixN_lt {n i : Nat} (h : i < n) : ixN n (i : Int) = some i := by
  unfold ixN
  rw [if_pos (by omega), if_pos (by omega)]
  rfl
theorem sort_step (q : Q14) (u : List Qp) (a b : Qp) (r : List Qp) (ha : Ok 200 a) (hb : Ok 200 b) (s5 s10 s12 : Slot) :
    ∃ s5' s12', sortB (eS q (u ++ a :: b :: r) s5 s10 (some (false, .int u.length)) s12) = .nx (eS q (if toR b < toR a then u ++ b :: a :: r else u ++ a :: b :: r) s5' s10 (some (false, .int u.length)) s12') := by
  have e1 := F_below_eq hb ha (by omega)
  rw [qlt_R hb ha] at e1
  have i0 : ∀ s5 s12, DL.e2 gIxA (eVB 9) (eVB 11) (eS q (u ++ a :: b :: r) s5 s10 (some (false, .int u.length)) s12) = some (qd a) := fun s5 s12 => ixA_lst_map (f := qd) (at_u u a (b :: r))
  have i1 : ∀ s5 s12, DL.e2 gIxA (eVB 9) (DL.e2 gAddA (eVB 11) (eC (.int 1))) (eS q (u ++ a :: b :: r) s5 s10 (some (false, .int u.length)) s12) = some (qd b) := fun s5 s12 => ixA_lst_map (f := qd) (at_u1 u a b r)
  have ec : eCall 2 F_u_law_below (aCons (DL.e2 gIxA (eVB 9) (DL.e2 gAddA (eVB 11) (eC (.int 1)))) (aCons (DL.e2 gIxA (eVB 9) (eVB 11)) aNil)) (eS q (u ++ a :: b :: r) s5 s10 (some (false, .int u.length)) s12) = some (.bl (decide (toR b < toR a))) := by
    refine call2 ?_ e1
    rw [ap_Cons, i1, bind_s, ap_Cons, i0]
    rfl
  unfold sortB
  rw [ap_IfS, ec]
  by_cases c : toR b < toR a
  · rw [if_pos c, decide_eq_true c]
    refine ⟨some (false, qd b), some (false, qd a), ?_⟩
    show gSeq _ _ _ = _
    have k1 : gPar 12 5 (aCons (DL.e2 gIxA (eVB 9) (eVB 11)) (aCons (DL.e2 gIxA (eVB 9) (DL.e2 gAddA (eVB 11) (eC (.int 1)))) aNil)) (eS q (u ++ a :: b :: r) s5 s10 (some (false, .int u.length)) s12) = .nx (eS q (u ++ a :: b :: r) (some (false, qd b)) s10 (some (false, .int u.length)) (some (false, qd a))) := by
      have : aCons (DL.e2 gIxA (eVB 9) (eVB 11)) (aCons (DL.e2 gIxA (eVB 9) (DL.e2 gAddA (eVB 11) (eC (.int 1)))) aNil) (eS q (u ++ a :: b :: r) s5 s10 (some (false, .int u.length)) s12) = some [qd a, qd b] := by
        rw [ap_Cons, i0, bind_s, ap_Cons, i1]
        rfl
      rw [ap_Par, this]
      rfl
    rw [seq_nx k1]
    have L1 : ((u ++ a :: b :: r).map qd).length = u.length + (r.length + 2) := by rw [List.length_map, List.length_append]; rfl
    have x1 : ixN ((u ++ a :: b :: r).map qd).length (u.length : Int) = some u.length := ixN_lt (by rw [L1]; omega)
    have x2 : ixN ((u ++ a :: b :: r).map qd).length ((u.length + 1 : Nat) : Int) = some (u.length + 1) := ixN_lt (by rw [L1]; omega)
    have f1 : eV 5 (eS q (u ++ a :: b :: r) (some (false, qd b)) s10 (some (false, .int u.length)) (some (false, qd a))) = some (qd b) := rfl
    have f2 : eV 12 (eS q (u ++ a :: b :: r) (some (false, qd b)) s10 (some (false, .int u.length)) (some (false, qd a))) = some (qd a) := rfl
    have f3 : (eS q (u ++ a :: b :: r) (some (false, qd b)) s10 (some (false, .int u.length)) (some (false, qd a)))[9]? = some (some (true, .lst ((u ++ a :: b :: r).map qd))) := rfl
    have f4 : eV 11 (eS q (u ++ a :: b :: r) (some (false, qd b)) s10 (some (false, .int u.length)) (some (false, qd a))) = some (.int u.length) := rfl
    have f5 : DL.e2 gAddA (eVB 11) (eC (.int 1)) ((eS q (u ++ a :: b :: r) (some (false, qd b)) s10 (some (false, .int u.length)) (some (false, qd a))).set 9 (some (true, .lst (((u ++ a :: b :: r).map qd).set u.length (qd b))))) = some (.int ((u.length + 1 : Nat) : Int)) := rfl
    unfold gSwap
    rw [f1, f2, f3]
    simp only
    rw [f4]
    simp only
    rw [x1]
    simp only
    rw [f5]
    simp only
    rw [x2]
    simp only
    rw [set2]
    rfl
  · rw [if_neg c, decide_eq_false c]
    exact ⟨s5, s12, rfl⟩
theorem sort_inner (q : Q14) (s10 : Slot) : ∀ (r u : List Qp) (a : Qp) (i : Nat) (s5 s11 s12 : Slot), i = u.length → Ok 200 a → (∀ x ∈ r, Ok 200 x) →
    ∃ s5' s11' s12', forL (bN 11) sortB ((List.range' i r.length).map fun k => D.int (k : Nat)) (eS q (u ++ a :: r) s5 s10 s11 s12) = .nx (eS q (u ++ pas toR a r) s5' s10 s11' s12')
  | [], u, a, i, s5, s11, s12, _, _, _ => ⟨s5, s11, s12, rfl⟩
  | b :: r, u, a, i, s5, s11, s12, hi, ha, H => by
    subst hi
    have hb := H b List.mem_cons_self
    obtain ⟨t5, t12, e⟩ := sort_step q u a b r ha hb s5 s10 s12
    rw [List.length_cons, List.range'_succ, List.map_cons]
    unfold forL pas
    have eb : bN 11 (D.int (u.length : Nat)) (eS q (u ++ a :: b :: r) s5 s10 s11 s12) = some (eS q (u ++ a :: b :: r) s5 s10 (some (false, .int u.length)) s12) := rfl
    rw [eb]
    simp only [e]
    by_cases c : toR b < toR a
    · rw [if_pos c, if_pos c]
      have := sort_inner q s10 r (u ++ [b]) a (u.length + 1) t5 (some (false, .int u.length)) t12 (by simp) ha (fun x hx => H x (List.mem_cons_of_mem _ hx))
      simpa only [List.append_assoc, List.cons_append, List.nil_append] using this
    · rw [if_neg c, if_neg c]
      have := sort_inner q s10 r (u ++ [a]) b (u.length + 1) t5 (some (false, .int u.length)) t12 (by simp) hb (fun x hx => H x (List.mem_cons_of_mem _ hx))
      simpa only [List.append_assoc, List.cons_append, List.nil_append] using this
theorem len9 {q : Q14} {l : List Qp} {s5 s10 s11 s12 : Slot} : eCB gLenA (aCons (eVB 9) aNil) (eS q l s5 s10 s11 s12) = some (.int l.length) := by
  have : eCB gLenA (aCons (eVB 9) aNil) (eS q l s5 s10 s11 s12) = some (.int (l.map qd).length) := rfl
  rw [this, List.length_map]
theorem sort_outer (q : Q14) : ∀ (n : Nat) (l : List Qp) (i : Nat) (s5 s10 s11 s12 : Slot), (∀ x ∈ l, Ok 200 x) → 1 ≤ l.length → l.length < 1000 →
    ∃ s5' s10' s11' s12', forL (bN 10) (gFor (iR1 (DL.e2 gSubI (eCB gLenA (aCons (eVB 9) aNil)) (eC (.int 1)))) (bN 11) sortB) ((List.range' i n).map fun k => D.int (k : Nat)) (eS q l s5 s10 s11 s12) = .nx (eS q (passes toR n l) s5' s10' s11' s12')
  | 0, l, i, s5, s10, s11, s12, _, _, _ => ⟨s5, s10, s11, s12, rfl⟩
  | n + 1, [], i, s5, s10, s11, s12, _, h, _ => absurd h (by decide)
  | n + 1, a :: r, i, s5, s10, s11, s12, H, _, h1 => by
    obtain ⟨t5, t11, t12, e⟩ := sort_inner q (some (false, .int (i : Nat))) r [] a 0 s5 s11 s12 rfl (H a List.mem_cons_self) (fun x hx => H x (List.mem_cons_of_mem _ hx))
    obtain ⟨u5, u10, u11, u12, e'⟩ := sort_outer q n (pas toR a r) (i + 1) t5 (some (false, .int (i : Nat))) t11 t12 (fun x hx => H x (List.mem_cons.mpr ((pas_mem toR r a x).mp hx))) (by rw [pas_len]; omega) (by rw [pas_len]; exact h1)
    refine ⟨u5, u10, u11, u12, ?_⟩
    rw [List.range'_succ, List.map_cons]
    unfold forL
    have eb : bN 10 (D.int (i : Nat)) (eS q (a :: r) s5 s10 s11 s12) = some (eS q (a :: r) s5 (some (false, .int (i : Nat))) s11 s12) := rfl
    rw [eb]
    have ir : iR1 (DL.e2 gSubI (eCB gLenA (aCons (eVB 9) aNil)) (eC (.int 1))) (eS q (a :: r) s5 (some (false, .int (i : Nat))) s11 s12) = some ((List.range' 0 r.length).map fun k => D.int (k : Nat)) := by
      rw [← List.range_eq_range']
      refine iR1_nat ?_ (by rw [List.length_cons] at h1; omega)
      rw [ap_2, len9, bind_s, ap_C, bind_s]
      show some (D.int ((r.length + 1 : Nat) - 1 : Int)) = _
      congr 2
      omega
    have ef : gFor (iR1 (DL.e2 gSubI (eCB gLenA (aCons (eVB 9) aNil)) (eC (.int 1)))) (bN 11) sortB (eS q (a :: r) s5 (some (false, .int (i : Nat))) s11 s12) = .nx (eS q (pas toR a r) t5 (some (false, .int (i : Nat))) t11 t12) := by
      rw [ap_For, ir]
      exact e
    simp only [ef]
    exact e'
end K04

set_option maxHeartbeats 2000000
namespace K04
open PySem PySem.Spec PyProof.Rows L2 DL K04R
def spotsQ (ws : List Int) (wk : List (Int × List Int)) : List Qp := passes toR (allK (Lq0 ws wk) (Lq0 ws wk) [(0, 1), (1, 1)]).length (allK (Lq0 ws wk) (Lq0 ws wk) [(0, 1), (1, 1)])
def rowT : D → DEnv → Option DEnv := bT (bCons (bN 13) (bCons (bT (bCons (bN 4) (bCons (bN 14) bNil))) bNil))
def rowF : DE1 := eTup (aCons (eCall 2 F_u_law_worth (aCons (eV 0) (aCons (eV 13) aNil))) (aCons (eV 4) aNil))
section
variable {ws : List Int} {wk : List (Int × List Int)} (V : Valid ws wk)
include V
theorem rows_comp (s1 : Slot) : ∀ (r : List (Int × List Int)) (i : Nat), wk.drop i = r →
    compL rowT (eC (.bl true)) rowF [some (false, packD ws wk), s1, none, none, none, none, none, none, none, none, none, none, none, none, none] (enD i (r.map wkD)) = some ((r.map (wqOf ws)).map rwD)
  | [], i, _ => rfl
  | p :: r, i, hd => by
    have hi : wk[i]? = some p := by
      have := congrArg (·[0]?) hd
      simpa using this
    have hd' : wk.drop (i + 1) = r := by
      have := congrArg (List.drop 1) hd
      simpa [List.drop_drop, Nat.add_comm] using this
    have ih := rows_comp s1 r (i + 1) hd'
    rw [List.map_cons, List.map_cons, List.map_cons]
    unfold enD compL
    have eb : rowT (.tup [.int i, wkD p]) [some (false, packD ws wk), s1, none, none, none, none, none, none, none, none, none, none, none, none, none] = some [some (false, packD ws wk), s1, none, none, some (false, .int p.1), none, none, none, none, none, none, none, none, some (false, .int i), some (false, .tup (p.2.map .int))] := rfl
    have ew : eCall 2 F_u_law_worth (aCons (eV 0) (aCons (eV 13) aNil)) [some (false, packD ws wk), s1, none, none, some (false, .int p.1), none, none, none, none, none, none, none, none, some (false, .int i), some (false, .tup (p.2.map .int))] = some (qd (wqOf ws p).1) := call2 rfl (F_lworth V hi)
    have ef : rowF [some (false, packD ws wk), s1, none, none, some (false, .int p.1), none, none, none, none, none, none, none, none, some (false, .int i), some (false, .tup (p.2.map .int))] = some (rwD (wqOf ws p)) := by
      unfold rowF
      rw [ap_Tup, ap_Cons, ew]
      rfl
    rw [eb]
    simp only [eC, ef, ih, Option.map_some]
theorem lens0 : (Lq0 ws wk).length ≤ 5 := by
  have := V.k2
  unfold Lq0 Lq
  rw [List.length_cons, List.length_map]
  omega
theorem K_spec : (∀ q, q ∈ allK (Lq0 ws wk) (Lq0 ws wk) [(0, 1), (1, 1)] ↔ q ∈ [((0, 1) : Qp), (1, 1)] ∨ ∃ x ∈ Lq0 ws wk, ∃ y ∈ Lq0 ws wk, cndR x y ∧ q = crQ x y) ∧ (allK (Lq0 ws wk) (Lq0 ws wk) [(0, 1), (1, 1)]).length ≤ 27 := by
  obtain ⟨h1, h2⟩ := allK_spec (Lq0 ws wk) (Lq0 ws wk) [(0, 1), (1, 1)]
  refine ⟨h1, Nat.le_trans h2 ?_⟩
  have := lens0 V
  have := Nat.mul_le_mul this this
  show 2 + _ ≤ 27
  omega
theorem shr1 : Shr 200 ((1, 1) : Qp) := ⟨ok1.mono (by decide), by decide, by rw [R1]; exact Rat.le_refl⟩
theorem K_shr : ∀ q ∈ allK (Lq0 ws wk) (Lq0 ws wk) [(0, 1), (1, 1)], Shr 200 q := fun q hq => by
  rcases ((K_spec V).1 q).mp hq with h | ⟨x, hx, y, hy, c, rfl⟩
  · rcases List.mem_cons.mp h with h | h
    · subst h; exact shr0 V
    · rw [List.mem_singleton] at h
      subst h; exact shr1 V
  · exact cnd_shr (Lq0_ok V x hx) (Lq0_ok V y hy) c
theorem S_mem (q : Qp) : q ∈ spotsQ ws wk ↔ q ∈ allK (Lq0 ws wk) (Lq0 ws wk) [(0, 1), (1, 1)] := passes_mem toR _ _ q
theorem S_sorted : (spotsQ ws wk).Pairwise (fun p q => toR p ≤ toR q) := passes_sorted toR _
theorem F_spots_eq : F_u_law_spots [packD ws wk] = some (.lst ((spotsQ ws wk).map qd)) := by
  have hK := K_spec V
  have hl := lens0 V
  have hw := Lq0_ok V
  have ks := K_shr V
  obtain ⟨t3, t4, t5, t6, t7, t8, e3⟩ := spot_outer V (Lq0 ws wk) hw (Lq0 ws wk) [(0, 1), (1, 1)] none none none none none none hw (by
    have := Nat.mul_le_mul (Nat.succ_le_succ hl) hl
    show 2 + _ < 1000
    have : ((Lq0 ws wk).length + 1) * (Lq0 ws wk).length ≤ 30 := this
    omega)
  have hin : ((1, 1) : Qp) ∈ allK (Lq0 ws wk) (Lq0 ws wk) [(0, 1), (1, 1)] := (hK.1 _).mpr (.inl (List.mem_cons_of_mem _ List.mem_cons_self))
  unfold spotsQ
  generalize hKK : allK (Lq0 ws wk) (Lq0 ws wk) [(0, 1), (1, 1)] = K at *
  have n1 : 1 ≤ K.length := by
    cases K with
    | nil => cases hin
    | cons a r => exact Nat.succ_le_succ (Nat.zero_le _)
  have n2 := hK.2
  obtain ⟨u5, u10, u11, u12, e5⟩ := sort_outer ⟨some (false, packD ws wk), some (true, .dic (K.map ent)), some (false, .lst ((Lq0 ws wk).map rwD)), t3, t4, t6, t7, t8⟩ K.length K 0 t5 none none none (fun x hx => (ks x hx).ok) n1 (by omega)
  have c1 : gSetF 1 (eDisp (pCons (eTup (aCons (eC (.int 0)) (aCons (eC (.int 1)) aNil))) (eC (.bl true)) (pCons (eTup (aCons (eC (.int 1)) (aCons (eC (.int 1)) aNil))) (eC (.bl true)) pNil))) (startD 15 [packD ws wk])
      = .nx [some (false, packD ws wk), some (true, .dic ([((0, 1) : Qp), (1, 1)].map ent)), none, none, none, none, none, none, none, none, none, none, none, none, none] := rfl
  have rc := rows_comp V (some (true, .dic ([((0, 1) : Qp), (1, 1)].map ent))) wk 0 rfl
  have ec : eLc (iEnA (DL.e2 gIxA (eVB 0) (eC (.int 1)))) ([(Str.ofString "work", 13), (Str.ofString "effort", 4), (Str.ofString "parts", 14)].map (·.2)) rowT (eC (.bl true)) rowF [some (false, packD ws wk), some (true, .dic ([((0, 1) : Qp), (1, 1)].map ent)), none, none, none, none, none, none, none, none, none, none, none, none, none]
      = some (.lst ((wk.map (wqOf ws)).map rwD)) := by
    have ei : iEnA (DL.e2 gIxA (eVB 0) (eC (.int 1))) [some (false, packD ws wk), some (true, .dic ([((0, 1) : Qp), (1, 1)].map ent)), none, none, none, none, none, none, none, none, none, none, none, none, none] = some (enD 0 (wk.map wkD)) := rfl
    unfold eLc
    rw [ei]
    simp only
    rw [if_pos (by letI : CT := ⟨fun _ => 0⟩; rw [enD_length, List.length_map]; have := V.k2; omega)]
    have ew : wipeD [some (false, packD ws wk), some (true, .dic ([((0, 1) : Qp), (1, 1)].map ent)), none, none, none, none, none, none, none, none, none, none, none, none, none] ([(Str.ofString "work", 13), (Str.ofString "effort", 4), (Str.ofString "parts", 14)].map (·.2)) = [some (false, packD ws wk), some (true, .dic ([((0, 1) : Qp), (1, 1)].map ent)), none, none, none, none, none, none, none, none, none, none, none, none, none] := rfl
    rw [ew, rc]
    rfl
  have c2 : gSet 2 (DL.e2 gAddA (eLst (aCons (eTup (aCons (eTup (aCons (eC (.int 0)) (aCons (eC (.int 1)) aNil))) (aCons (eC (.int 0)) aNil))) aNil)) (eLc (iEnA (DL.e2 gIxA (eVB 0) (eC (.int 1)))) ([(Str.ofString "work", 13), (Str.ofString "effort", 4), (Str.ofString "parts", 14)].map (·.2)) rowT (eC (.bl true)) rowF)) [some (false, packD ws wk), some (true, .dic ([((0, 1) : Qp), (1, 1)].map ent)), none, none, none, none, none, none, none, none, none, none, none, none, none]
      = .nx ([some (false, packD ws wk), some (true, .dic ([((0, 1) : Qp), (1, 1)].map ent)), some (false, .lst ((Lq0 ws wk).map rwD)), none, none, none, none, none, none] ++ tl6) := by
    have el : eLst (aCons (eTup (aCons (eTup (aCons (eC (.int 0)) (aCons (eC (.int 1)) aNil))) (aCons (eC (.int 0)) aNil))) aNil) [some (false, packD ws wk), some (true, .dic ([((0, 1) : Qp), (1, 1)].map ent)), none, none, none, none, none, none, none, none, none, none, none, none, none] = some (.lst [rwD ((0, 1), 0)]) := rfl
    have ea : gAddA (.lst [rwD ((0, 1), 0)]) (.lst ((wk.map (wqOf ws)).map rwD)) = some (.lst ((Lq0 ws wk).map rwD)) := by
      have : gAddA (.lst [rwD ((0, 1), 0)]) (.lst ((wk.map (wqOf ws)).map rwD)) = (if [rwD ((0, 1), 0)].length + ((wk.map (wqOf ws)).map rwD).length ≤ 1000 then some (D.lst ([rwD ((0, 1), 0)] ++ (wk.map (wqOf ws)).map rwD)) else none).or none := rfl
      rw [this, if_pos (by rw [List.length_map, List.length_map]; have := V.k2; show 1 + _ ≤ 1000; omega)]
      rfl
    rw [ap_Set, ap_2, el, bind_s, ec, bind_s, ea]
    rfl
  have c3 : gFor (iA (eV 2)) (bT (bCons (bN 3) (bCons (bN 4) bNil))) (gFor (iA (eV 2)) (bT (bCons (bN 5) (bCons (bN 6) bNil))) spotB) ([some (false, packD ws wk), some (true, .dic ([((0, 1) : Qp), (1, 1)].map ent)), some (false, .lst ((Lq0 ws wk).map rwD)), none, none, none, none, none, none] ++ tl6)
      = .nx ([some (false, packD ws wk), some (true, .dic (K.map ent)), some (false, .lst ((Lq0 ws wk).map rwD)), t3, t4, t5, t6, t7, t8] ++ tl6) := by
    rw [ap_For]
    have : iA (eV 2) ([some (false, packD ws wk), some (true, .dic ([((0, 1) : Qp), (1, 1)].map ent)), some (false, .lst ((Lq0 ws wk).map rwD)), none, none, none, none, none, none] ++ tl6) = some ((Lq0 ws wk).map rwD) := rfl
    rw [this]
    exact e3
  have c4 : gSetF 9 (eCB gListA (aCons (eVB 1) aNil)) ([some (false, packD ws wk), some (true, .dic (K.map ent)), some (false, .lst ((Lq0 ws wk).map rwD)), t3, t4, t5, t6, t7, t8] ++ tl6)
      = .nx (eS ⟨some (false, packD ws wk), some (true, .dic (K.map ent)), some (false, .lst ((Lq0 ws wk).map rwD)), t3, t4, t6, t7, t8⟩ K t5 none none none) := by
    have el : eCB gListA (aCons (eVB 1) aNil) ([some (false, packD ws wk), some (true, .dic (K.map ent)), some (false, .lst ((Lq0 ws wk).map rwD)), t3, t4, t5, t6, t7, t8] ++ tl6) = some (.lst (K.map qd)) := by
      have : eCB gListA (aCons (eVB 1) aNil) ([some (false, packD ws wk), some (true, .dic (K.map ent)), some (false, .lst ((Lq0 ws wk).map rwD)), t3, t4, t5, t6, t7, t8] ++ tl6) = if (K.map ent).length ≤ 1000 then some (.lst ((K.map ent).map (·.1))) else none := rfl
      rw [this, if_pos (by rw [List.length_map]; omega), List.map_map]
      rfl
    rw [ap_SetF, el]
    rfl
  have c5 : gFor (iR1 (eCB gLenA (aCons (eVB 9) aNil))) (bN 10) (gFor (iR1 (DL.e2 gSubI (eCB gLenA (aCons (eVB 9) aNil)) (eC (.int 1)))) (bN 11) sortB) (eS ⟨some (false, packD ws wk), some (true, .dic (K.map ent)), some (false, .lst ((Lq0 ws wk).map rwD)), t3, t4, t6, t7, t8⟩ K t5 none none none)
      = .nx (eS ⟨some (false, packD ws wk), some (true, .dic (K.map ent)), some (false, .lst ((Lq0 ws wk).map rwD)), t3, t4, t6, t7, t8⟩ (passes toR K.length K) u5 u10 u11 u12) := by
    have ir := iR1_nat (f := eCB gLenA (aCons (eVB 9) aNil)) (ρ := eS ⟨some (false, packD ws wk), some (true, .dic (K.map ent)), some (false, .lst ((Lq0 ws wk).map rwD)), t3, t4, t6, t7, t8⟩ K t5 none none none) (n := K.length) len9 (by omega)
    rw [ap_For, ir, List.range_eq_range']
    exact e5
  have c6 : (fun ρ => gRet (eV 9) (frz 9 ρ)) (eS ⟨some (false, packD ws wk), some (true, .dic (K.map ent)), some (false, .lst ((Lq0 ws wk).map rwD)), t3, t4, t6, t7, t8⟩ (passes toR K.length K) u5 u10 u11 u12) = .rt (.lst ((passes toR K.length K).map qd)) := rfl
  have d : g_u_law_spots (startD 15 [packD ws wk]) = .rt (.lst ((passes toR K.length K).map qd)) := by
    unfold g_u_law_spots
    rw [seq_nx c1]
    refine (seq_nx c2).trans ?_
    refine (seq_nx c3).trans ?_
    refine (seq_nx c4).trans ?_
    exact (seq_nx c5).trans c6
  unfold F_u_law_spots mkF
  rw [d]
  rfl
end
end K04

set_option maxHeartbeats 2000000
namespace K04
open PySem PySem.Spec PyProof.Rows L2 DL K04R
/-! ### == of turns -/
def pyW : Nat → PyData
  | 0 => .none
  | i + 1 => .int i
def pyT (p : Tq) : PyData := .tuple [.tuple [.int p.1.1, .int p.1.2], pyW p.2]
theorem toPy_w (k : Nat) : toPy (wD k) = some (pyW k) := by cases k <;> rfl
theorem toPy_t (p : Tq) : toPy (tD p) = some (pyT p) := by
  obtain ⟨q, k⟩ := p
  cases k <;> rfl
theorem toPys_t : ∀ l : List Tq, toPys (l.map tD) = some (l.map pyT)
  | [] => rfl
  | p :: l => by
    rw [List.map_cons, List.map_cons]
    unfold toPys
    rw [toPy_t, toPys_t l]
    rfl
theorem toPy_l (l : List Tq) : toPy (.lst (l.map tD)) = some (.list (l.map pyT)) := by
  unfold toPy
  rw [toPys_t]
  rfl
theorem lay_t (p : Tq) : (pyT p).canLay0 = true := by
  obtain ⟨q, k⟩ := p
  cases k <;> rfl
theorem lay_l : ∀ l : List Tq, PyData.canLayAll0 (l.map pyT) = true
  | [] => rfl
  | p :: l => by
    rw [List.map_cons]
    unfold PyData.canLayAll0
    rw [lay_t, lay_l l]
    rfl
theorem dep_t (p : Tq) : (pyT p).depth ≤ 3 := by
  obtain ⟨q, k⟩ := p
  cases k <;> exact Nat.le_of_ble_eq_true rfl
theorem dep_l : ∀ l : List Tq, PyData.depthAll (l.map pyT) ≤ 3
  | [] => Nat.zero_le _
  | p :: l => by
    rw [List.map_cons]
    unfold PyData.depthAll
    have := dep_t p
    have := dep_l l
    omega
theorem shaped_l (l : List Tq) : SeqAt.shaped (.list (l.map pyT)) = true := by
  unfold SeqAt.shaped
  rw [Bool.and_eq_true]
  refine ⟨?_, ?_⟩
  · show PyData.canLayAll0 _ = true
    exact lay_l l
  · apply decide_eq_true
    have := dep_l l
    unfold PyData.depth
    omega
theorem ne_l (l : List Tq) : gEqA true (.lst (l.map tD)) (.lst (l.map tD)) = some (.bl false) := by
  refine gOr_left ?_
  unfold eqD
  rw [toPy_l]
  simp only [Option.bind_some, shaped_l, Bool.and_self, if_true]
  rw [SeqAt.eqv_refl _ (SeqAt.canLay_of_shaped (shaped_l l))]
  rfl
theorem eq_nil (l : List Tq) : gEqA false (.lst (l.map tD)) (.lst []) = some (.bl l.isEmpty) := by
  refine gOr_left ?_
  unfold eqD
  rw [toPy_l]
  have e : toPy (.lst []) = some (.list []) := rfl
  have s : SeqAt.shaped (.list []) = true := rfl
  rw [e]
  simp only [Option.bind_some, shaped_l, s, Bool.and_self, if_true]
  cases l <;> rfl
theorem ne_w (a b : Nat) : gEqA true (wD a) (wD b) = some (.bl (decide (a ≠ b))) := by
  cases a with
  | zero => cases b <;> rfl
  | succ i =>
    cases b with
    | zero => rfl
    | succ j =>
      have : gEqA true (wD (i + 1)) (wD (j + 1)) = some (.bl (!((i : Int) == (j : Int)))) := rfl
      rw [this]
      congr 2
      by_cases c : i = j
      · subst c; simp
      · have : ¬ (i : Int) = (j : Int) := by omega
        simp [c, this]
def pyP (p : Qp × Qp) : PyData := .tuple [.tuple [.int p.1.1, .int p.1.2], .tuple [.int p.2.1, .int p.2.2]]
theorem ne_pair (p q : Qp) : gEqA true (.tup [qd p, qd q]) (.tup [qd p, qd q]) = some (.bl false) := by
  refine gOr_left ?_
  have e : toPy (.tup [qd p, qd q]) = some (pyP (p, q)) := rfl
  have s : SeqAt.shaped (pyP (p, q)) = true := rfl
  unfold eqD
  rw [e]
  simp only [Option.bind_some, s, Bool.and_self, if_true]
  rw [SeqAt.eqv_refl _ (SeqAt.canLay_of_shaped s)]
  rfl
end K04

set_option maxHeartbeats 2000000
namespace K04
open PySem PySem.Spec PyProof.Rows L2 DL K04R
/-! ### the law's walk over the shares -/
def bD : Bq → D
  | none => .non
  | some y => .tup [qd y.1, qd y.2]
def lastK (due : List Tq) : Option Nat := due.getLast?.map (·.2)
theorem lastK_app (acc : List Tq) (p : Tq) : lastK (acc ++ [p]) = some p.2 := by unfold lastK; simp
theorem last_cases (due : List Tq) : due = [] ∨ ∃ acc p, due = acc ++ [p] := by
  cases due with
  | nil => exact .inl rfl
  | cons a r => exact .inr ⟨_, _, (List.dropLast_concat_getLast (List.cons_ne_nil a r)).symm⟩
theorem ix_last (acc : List Tq) (p : Tq) : gIxA (.lst ((acc ++ [p]).map tD)) (.int (-1)) = some (tD p) := by
  refine gOr_left ?_
  show atI ((acc ++ [p]).map tD) (-1) = _
  have hl : ((acc ++ [p]).map tD).length = acc.length + 1 := by simp
  have : ixN ((acc ++ [p]).map tD).length (-1) = some acc.length := by
    rw [hl]
    unfold ixN
    rw [if_neg (by decide), if_pos (by omega)]
    congr 1
    omega
  unfold atI
  rw [this]
  show ((acc ++ [p]).map tD)[acc.length]? = _
  simp
def dueC : DE1 := (eOr (DL.e2 (gEqA false) (eVB 4) (eLst aNil)) (DL.e2 (gEqA true) (DL.e2 gIxA (DL.e2 gIxA (eVB 4) (eNeg (eC (.int 1)))) (eC (.int 1))) (eVB 7)))
theorem dueC_eq {ρ : DEnv} (due : List Tq) (k : Nat) (h4 : ρ[4]? = some (some (true, .lst (due.map tD)))) (h7 : ρ[7]? = some (some (false, wD k))) : dueC ρ = some (.bl (decide (lastK due ≠ some k))) := by
  have e4 : eVB 4 ρ = some (.lst (due.map tD)) := by rw [ap_VB, h4]
  have e7 : eVB 7 ρ = some (wD k) := by rw [ap_VB, h7]
  have el : eLst aNil ρ = some (.lst []) := rfl
  have en : eNeg (eC (.int 1)) ρ = some (.int (-1)) := rfl
  have q1 : DL.e2 (gEqA false) (eVB 4) (eLst aNil) ρ = some (.bl due.isEmpty) := by
    rw [ap_2, e4, bind_s, el, bind_s, eq_nil]
  unfold dueC
  rw [ap_Or, q1]
  rcases last_cases due with h | ⟨acc, p, h⟩
  · subst h
    rfl
  · subst h
    have : (acc ++ [p]).isEmpty = false := by cases acc <;> rfl
    have ix1 : gIxA (tD p) (.int 1) = some (wD p.2) := rfl
    rw [this, lastK_app]
    show DL.e2 _ _ _ ρ = _
    rw [ap_2, ap_2, ap_2, e4, bind_s, en, bind_s, ix_last, bind_s, ap_C, bind_s, ix1, bind_s, e7, bind_s, ne_w]
    congr 2
    rw [decide_eq_decide]
    constructor
    · exact fun z w => z (Option.some.inj w)
    · exact fun z w => z (congrArg some w)
def stepB : DS1 := (gSeq (gSet 7 (eCall 2 F_u_law_done (aCons (eV 2) (aCons (eV 6) aNil))))
  (gSeq (gIf (DL.e2 (gEqA true) (eCallV 2 F_done (aCons (eV 3) (aCons (eV 6) aNil))) (eVB 7)) (gRet (eC (.bl false))) gNx)
  (gSeq (gIf dueC (gApp 4 (eTup (aCons (eV 6) (aCons (eV 7) aNil)))) gNx)
  (gSeq (gSet 8 (eCall 2 F_u_law_product (aCons (eCall 2 F_u_law_less (aCons (eTup (aCons (eC (.int 1)) (aCons (eC (.int 1)) aNil))) (aCons (eV 6) aNil))) (aCons (eCall 2 F_u_law_worth (aCons (eV 2) (aCons (eV 7) aNil))) aNil))))
  (gIf (eOr (DL.e2 (gIsN false) (eVB 5) (eC .non)) (eCall 2 F_u_law_below (aCons (DL.e2 gIxA (eVB 5) (eC (.int 1))) (aCons (eV 8) aNil)))) (gSet 5 (eTup (aCons (eV 6) (aCons (eV 8) aNil)))) gNx)))))
def eJ (s0 s1 : Slot) (ws : List Int) (wk : List (Int × List Int)) (due : List Tq) (b : Bq) (s6 s7 s8 : Slot) : DEnv := [s0, s1, some (false, packD ws wk), some (false, jobD ws wk), some (true, .lst (due.map tD)), some (false, bD b), s6, s7, s8, none, none, none]
def dstep (due : List Tq) (q : Qp) (k : Nat) : List Tq := if lastK due = some k then due else due ++ [(q, k)]
theorem if_step {c : DE1} {g g' g2 : DS1} {ρ ρ1 : DEnv} (x : Bool) (h : c ρ = some (.bl x)) (h2 : (if x then g else g') ρ = .nx ρ1) : gSeq (gIf c g g') g2 ρ = g2 ρ1 := by
  refine seq_nx ?_
  rw [ap_IfS, h]
  cases x <;> exact h2
theorem if_no {c : DE1} {g g2 : DS1} {ρ : DEnv} (h : c ρ = some (.bl false)) : gSeq (gIf c g gNx) g2 ρ = g2 ρ := by
  refine seq_nx ?_
  rw [ap_IfS, h]
  rfl
section
variable {ws : List Int} {wk : List (Int × List Int)} (V : Valid ws wk)
include V
theorem law_step (s0 s1 : Slot) {due : List Tq} (hl : due.length < 900) {b : Bq} (hb : BOk b) {q : Qp} (hq : Shr 200 q) {k : Nat} {x : Wq} (hB : (K04R.best (toR q) (RL ws wk)).1 = k) (hk : (Lq0 ws wk)[k]? = some x) (s7 s8 : Slot) :
    stepB (eJ s0 s1 ws wk due b (some (false, qd q)) s7 s8) = .nx (eJ s0 s1 ws wk (dstep due q k) (bstep b q x) (some (false, qd q)) (some (false, wD k)) (some (false, qd (kpQ q x)))) := by
  have hx := at_ok V hk
  have d1 := F_ldone_eq V hq.ok (by omega)
  have d2 := F_done_eq V hq (by omega)
  rw [hB] at d1 d2
  have c1 : gSet 7 (eCall 2 F_u_law_done (aCons (eV 2) (aCons (eV 6) aNil))) (eJ s0 s1 ws wk due b (some (false, qd q)) s7 s8) = .nx (eJ s0 s1 ws wk due b (some (false, qd q)) (some (false, wD k)) s8) := by
    rw [ap_Set, call2 rfl d1]
    rfl
  have t1 : DL.e2 (gEqA true) (eCallV 2 F_done (aCons (eV 3) (aCons (eV 6) aNil))) (eVB 7) (eJ s0 s1 ws wk due b (some (false, qd q)) (some (false, wD k)) s8) = some (.bl false) := by
    have e7 : eVB 7 (eJ s0 s1 ws wk due b (some (false, qd q)) (some (false, wD k)) s8) = some (wD k) := rfl
    rw [ap_2, callV2 rfl d2, bind_s, e7, bind_s, ne_w]
    simp
  have t2 := dueC_eq (ρ := eJ s0 s1 ws wk due b (some (false, qd q)) (some (false, wD k)) s8) due k rfl rfl
  have k2 : (if decide (lastK due ≠ some k) then gApp 4 (eTup (aCons (eV 6) (aCons (eV 7) aNil))) else gNx) (eJ s0 s1 ws wk due b (some (false, qd q)) (some (false, wD k)) s8) = .nx (eJ s0 s1 ws wk (dstep due q k) b (some (false, qd q)) (some (false, wD k)) s8) := by
    unfold dstep
    by_cases c : lastK due = some k
    · rw [if_neg (by simp [c]), if_pos c]
      rfl
    · rw [if_pos (by simp [c]), if_neg c]
      have et : eTup (aCons (eV 6) (aCons (eV 7) aNil)) (eJ s0 s1 ws wk due b (some (false, qd q)) (some (false, wD k)) s8) = some (tD (q, k)) := rfl
      have e4 : (eJ s0 s1 ws wk due b (some (false, qd q)) (some (false, wD k)) s8)[4]? = some (some (true, .lst (due.map tD))) := rfl
      rw [ap_App, et, e4]
      simp only
      rw [if_pos (by rw [List.length_map]; omega)]
      have : (due ++ [(q, k)]).map tD = due.map tD ++ [tD (q, k)] := by rw [List.map_append]; rfl
      unfold eJ
      rw [this]
      rfl
  have m1 := F_lless_eq ok1 hq.ok (by omega)
  have os := qsub_ok ok1 hq.ok
  have m2 := F_lproduct_eq os hx.ok (by omega)
  have w1 := F_lworth_at V hk
  have ko := kp_ok hq.ok hx
  have c3 : gSet 8 (eCall 2 F_u_law_product (aCons (eCall 2 F_u_law_less (aCons (eTup (aCons (eC (.int 1)) (aCons (eC (.int 1)) aNil))) (aCons (eV 6) aNil))) (aCons (eCall 2 F_u_law_worth (aCons (eV 2) (aCons (eV 7) aNil))) aNil))) (eJ s0 s1 ws wk (dstep due q k) b (some (false, qd q)) (some (false, wD k)) s8)
      = .nx (eJ s0 s1 ws wk (dstep due q k) b (some (false, qd q)) (some (false, wD k)) (some (false, qd (kpQ q x)))) := by
    have a1 : eCall 2 F_u_law_less (aCons (eTup (aCons (eC (.int 1)) (aCons (eC (.int 1)) aNil))) (aCons (eV 6) aNil)) (eJ s0 s1 ws wk (dstep due q k) b (some (false, qd q)) (some (false, wD k)) s8) = some (qd (qsub (1, 1) q)) := call2 (a := qd (1, 1)) rfl m1
    have a2 : eCall 2 F_u_law_worth (aCons (eV 2) (aCons (eV 7) aNil)) (eJ s0 s1 ws wk (dstep due q k) b (some (false, qd q)) (some (false, wD k)) s8) = some (qd x.1) := call2 rfl w1
    rw [ap_Set, call2 (a := qd (qsub (1, 1) q)) (b := qd x.1) (by rw [ap_Cons, a1, bind_s, ap_Cons, a2]; rfl) m2]
    rfl
  unfold stepB
  rw [seq_nx c1, if_no t1, if_step _ t2 k2, seq_nx c3]
  generalize dstep due q k = due'
  cases b with
  | none =>
    have t3 : eOr (DL.e2 (gIsN false) (eVB 5) (eC .non)) (eCall 2 F_u_law_below (aCons (DL.e2 gIxA (eVB 5) (eC (.int 1))) (aCons (eV 8) aNil))) (eJ s0 s1 ws wk due' none (some (false, qd q)) (some (false, wD k)) (some (false, qd (kpQ q x)))) = some (.bl true) := rfl
    rw [ap_IfS, t3]
    have : bstep none q x = some (q, kpQ q x) := if_pos (.inl rfl)
    rw [this]
    rfl
  | some y =>
    obtain ⟨y1, y2⟩ := hb y rfl
    have l1 := F_below_eq y2 ko (by omega)
    rw [qlt_R y2 ko, kp_R hq.ok hx] at l1
    have t3 : eOr (DL.e2 (gIsN false) (eVB 5) (eC .non)) (eCall 2 F_u_law_below (aCons (DL.e2 gIxA (eVB 5) (eC (.int 1))) (aCons (eV 8) aNil))) (eJ s0 s1 ws wk due' (some y) (some (false, qd q)) (some (false, wD k)) (some (false, qd (kpQ q x)))) = some (.bl (decide (toR y.2 < kp (toR q) (lnR x)))) := by
      have n5 : DL.e2 (gIsN false) (eVB 5) (eC .non) (eJ s0 s1 ws wk due' (some y) (some (false, qd q)) (some (false, wD k)) (some (false, qd (kpQ q x)))) = some (.bl false) := rfl
      rw [ap_Or, n5]
      exact call2 (a := qd y.2) rfl l1
    rw [ap_IfS, t3]
    unfold bstep
    by_cases c : toR y.2 < kp (toR q) (lnR x)
    · rw [decide_eq_true c, if_pos (.inr ⟨y, rfl, c⟩)]
      rfl
    · rw [decide_eq_false c, if_neg (fun z => by
        rcases z with z | ⟨w, z, z2⟩
        · cases z
        · cases z; exact c z2)]
      rfl
end
end K04

set_option maxHeartbeats 2000000
namespace K04
open PySem PySem.Spec PyProof.Rows L2 DL K04R
def wAt (ws : List Int) (wk : List (Int × List Int)) (q : Qp) : Nat := (K04R.best (toR q) (RL ws wk)).1
def xAt (ws : List Int) (wk : List (Int × List Int)) (k : Nat) : Wq := ((Lq0 ws wk)[k]?).getD ((0, 1), 0)
def dueQ (ws : List Int) (wk : List (Int × List Int)) : List Tq → List Qp → List Tq
  | due, [] => due
  | due, q :: S => dueQ ws wk (dstep due q (wAt ws wk q)) S
def bstQ (ws : List Int) (wk : List (Int × List Int)) : Bq → List Qp → Bq
  | b, [] => b
  | b, q :: S => bstQ ws wk (bstep b q (xAt ws wk (wAt ws wk q))) S
def rT (p : Tq) : Rat × Nat := (toR p.1, p.2)
theorem bst_some : ∀ (l : List (Rat × Line)) (y : Rat × Rat), ∃ z, bst (some y) l = some z
  | [], y => ⟨y, rfl⟩
  | x :: l, y => by
    unfold bst
    split
    · exact bst_some l _
    · exact bst_some l _
theorem rT_inj : ∀ (l m : List Tq), (∀ p ∈ l, Shr 200 p.1) → (∀ p ∈ m, Shr 200 p.1) → l.map rT = m.map rT → l = m
  | [], [], _, _, _ => rfl
  | [], q :: m, _, _, e => by cases e
  | p :: l, [], _, _, e => by cases e
  | p :: l, q :: m, h1, h2, e => by
    rw [List.map_cons, List.map_cons] at e
    injection e with e1 e2
    have a := rT_inj l m (fun x hx => h1 x (List.mem_cons_of_mem _ hx)) (fun x hx => h2 x (List.mem_cons_of_mem _ hx)) e2
    have b1 : toR p.1 = toR q.1 := congrArg (fun z : Rat × Nat => z.1) e1
    have b2 : p.2 = q.2 := congrArg (fun z : Rat × Nat => z.2) e1
    have b1 := toR_inj (h1 p List.mem_cons_self).ok (h2 q List.mem_cons_self).ok b1
    rw [a, Prod.ext b1 b2]
theorem bR_inj {b c : Bq} (hb : BOk b) (hc : BOk c) (e : bR b = bR c) : b = c := by
  cases b with
  | none =>
    cases c with
    | none => rfl
    | some y => cases e
  | some x =>
    cases c with
    | none => cases e
    | some y =>
      have e := Option.some.inj e
      obtain ⟨x1, x2⟩ := hb x rfl
      obtain ⟨y1, y2⟩ := hc y rfl
      rw [Prod.ext (toR_inj x1 y1 (congrArg Prod.fst e)) (toR_inj x2 y2 (congrArg Prod.snd e))]
section
variable {ws : List Int} {wk : List (Int × List Int)} (V : Valid ws wk)
include V
theorem xAt_ok (q : Qp) : (Lq0 ws wk)[wAt ws wk q]? = some (xAt ws wk (wAt ws wk q)) := by
  obtain ⟨x, h, _⟩ := best_at V (toR q)
  unfold xAt wAt
  rw [h]
  rfl
theorem ln_best (t : Rat) : ln0 ws wk (K04R.best t (RL ws wk)).1 = (K04R.best t (RL ws wk)).2 := by
  obtain ⟨x, h, e⟩ := best_at V t
  unfold ln0
  rw [h, e]
  rfl
theorem law_loop (s0 s1 : Slot) : ∀ (S : List Qp) (due : List Tq) (b : Bq) (s6 s7 s8 : Slot), (∀ q ∈ S, Shr 200 q) → due.length + S.length < 900 → BOk b →
    ∃ s6' s7' s8', forL (bN 6) stepB (S.map qd) (eJ s0 s1 ws wk due b s6 s7 s8) = .nx (eJ s0 s1 ws wk (dueQ ws wk due S) (bstQ ws wk b S) s6' s7' s8')
  | [], due, b, s6, s7, s8, _, _, _ => ⟨s6, s7, s8, rfl⟩
  | q :: S, due, b, s6, s7, s8, H, l, hb => by
    have hq := H q List.mem_cons_self
    have hk := xAt_ok V q
    rw [List.length_cons] at l
    have st := law_step V s0 s1 (due := due) (by omega) hb hq rfl hk s7 s8
    have hb' : BOk (bstep b q (xAt ws wk (wAt ws wk q))) := (best_step V hb hq hk none).2
    have hl : (dstep due q (wAt ws wk q)).length ≤ due.length + 1 := by
      unfold dstep; split
      · omega
      · simp
    obtain ⟨t6, t7, t8, e⟩ := law_loop s0 s1 S (dstep due q (wAt ws wk q)) _ (some (false, qd q)) (some (false, wD (wAt ws wk q))) (some (false, qd (kpQ q (xAt ws wk (wAt ws wk q))))) (fun x hx => H x (List.mem_cons_of_mem _ hx)) (by omega) hb'
    refine ⟨t6, t7, t8, ?_⟩
    rw [List.map_cons]
    unfold forL
    have eb : bN 6 (qd q) (eJ s0 s1 ws wk due b s6 s7 s8) = some (eJ s0 s1 ws wk due b (some (false, qd q)) s7 s8) := rfl
    rw [eb]
    simp only
    rw [show stepB (eJ s0 s1 ws wk due b (some (false, qd q)) s7 s8) = _ from st]
    exact e
theorem bstQ_ok : ∀ (S : List Qp) (b : Bq), (∀ q ∈ S, Shr 200 q) → BOk b → BOk (bstQ ws wk b S)
  | [], b, _, hb => hb
  | q :: S, b, H, hb => bstQ_ok S _ (fun x hx => H x (List.mem_cons_of_mem _ hx)) (best_step V hb (H q List.mem_cons_self) (xAt_ok V q) none).2
theorem bstQ_R : ∀ (S : List Qp) (b : Bq), (∀ q ∈ S, Shr 200 q) → bR (bstQ ws wk b S) = bst (bR b) ((S.map toR).map fun t => (t, (K04R.best t (RL ws wk)).2))
  | [], b, _ => rfl
  | q :: S, b, H => by
    have hq := H q List.mem_cons_self
    have ih := bstQ_R S (bstep b q (xAt ws wk (wAt ws wk q))) (fun x hx => H x (List.mem_cons_of_mem _ hx))
    have st := bstep_R V (b := b) hq.ok (xAt_ok V q) ((S.map toR).map fun t => (t, (K04R.best t (RL ws wk)).2))
    show bR (bstQ ws wk (bstep b q (xAt ws wk (wAt ws wk q))) S) = _
    rw [ih, ← st]
    have : ln0 ws wk (wAt ws wk q) = (K04R.best (toR q) (RL ws wk)).2 := ln_best V (toR q)
    rw [this]
    rfl
theorem dueQ_chg : ∀ (S : List Qp) (due : List Tq) (k : Nat) (l : Line), lastK due = some k → (dueQ ws wk due S).map rT = due.map rT ++ (chg (RL ws wk) k l (S.map toR)).map fun x => (x.1, x.2.1)
  | [], due, k, l, _ => by
    show due.map rT = due.map rT ++ []
    rw [List.append_nil]
  | q :: S, due, k, l, h => by
    show (dueQ ws wk (dstep due q (wAt ws wk q)) S).map rT = _
    rw [List.map_cons]
    unfold chg dstep
    by_cases c : (K04R.best (toR q) (RL ws wk)).1 = k
    · have : lastK due = some (wAt ws wk q) := by rw [h]; exact congrArg some c.symm
      rw [if_pos c, if_pos this]
      exact dueQ_chg S due k l h
    · have : ¬ lastK due = some (wAt ws wk q) := by
        rw [h]
        intro z
        exact c (Option.some.inj z).symm
      rw [if_neg c, if_neg this, dueQ_chg S (due ++ [(q, wAt ws wk q)]) (wAt ws wk q) (K04R.best (toR q) (RL ws wk)).2 (lastK_app _ _)]
      rw [List.map_append, List.append_assoc]
      rfl
theorem dueQ_shr : ∀ (S : List Qp) (due : List Tq), (∀ q ∈ S, Shr 200 q) → (∀ p ∈ due, Shr 200 p.1) → ∀ p ∈ dueQ ws wk due S, Shr 200 p.1
  | [], due, _, hd => hd
  | q :: S, due, H, hd => dueQ_shr S _ (fun x hx => H x (List.mem_cons_of_mem _ hx)) (fun p hp => by
      unfold dstep at hp
      split at hp
      · exact hd p hp
      · rcases List.mem_append.mp hp with z | z
        · exact hd p z
        · rw [List.mem_singleton] at z
          subst z
          exact H q List.mem_cons_self)
theorem chg_ln : ∀ (S : List Rat) (k : Nat) (l : Line), ((chg (RL ws wk) k l S).map fun x => (x.1, ln0 ws wk x.2.1)) = (chg (RL ws wk) k l S).map fun x => (x.1, x.2.2)
  | [], k, l => rfl
  | t :: S, k, l => by
    unfold chg
    split
    · exact chg_ln S k l
    · rw [List.map_cons, List.map_cons, chg_ln S]
      rw [ln_best V t]
/-- the walk over the law's shares finds the turns and the best share -/
theorem match_all {rest : List Tq} (hr : ∀ p ∈ rest, Shr 200 p.1) (er : (rest.map fun p => (toR p.1, p.2)) = (((0 : Rat), (K04R.best 0 (RL ws wk)).1) :: (walk (RL ws wk) 50 (K04R.best 0 (RL ws wk)).2).map fun x => (x.1, x.2.1)))
    {b : Bq} (hb : BOk b) (eb : bR b = bst none (rest.map fun p => (toR p.1, ln0 ws wk p.2))) : dueQ ws wk [] (spotsQ ws wk) = rest ∧ bstQ ws wk none (spotsQ ws wk) = b ∧ ∃ y, b = some y := by
  have hS : ∀ q ∈ spotsQ ws wk, Shr 200 q := fun q hq => K_shr V q ((S_mem V q).mp hq)
  have h0 : ((0, 1) : Qp) ∈ spotsQ ws wk := (S_mem V _).mpr (((K_spec V).1 _).mpr (.inl List.mem_cons_self))
  have hs := S_sorted V
  have hcr : ∀ x ∈ Lq0 ws wk, ∀ y ∈ Lq0 ws wk, cndR x y → crQ x y ∈ spotsQ ws wk := fun x hx y hy c => (S_mem V _).mpr (((K_spec V).1 _).mpr (.inr ⟨x, hx, y, hy, c, rfl⟩))
  generalize spotsQ ws wk = S at *
  cases S with
  | nil => cases h0
  | cons q0 S =>
    have hs' := List.pairwise_cons.mp hs
    have q0s := hS q0 List.mem_cons_self
    have z0 : toR q0 = 0 := by
      have nn := K04.Ok.nnR q0s.ok q0s.nn
      rcases List.mem_cons.mp h0 with z | z
      · rw [← z, R0]
      · have := hs'.1 _ z
        rw [R0] at this
        grind
    have top := best_top 0 (RL ws wk)
    have pos := RL_pos V
    have hcn : cnt (RL ws wk) (K04R.best 0 (RL ws wk)).2 < 50 := by
      have hl : (RL ws wk).length ≤ 4 := by unfold RL Lq; rw [List.length_map, List.length_map]; exact V.k2
      unfold K04R.cnt
      have := List.length_filter_le (fun m : Line => decide ((K04R.best 0 (RL ws wk)).2.1 < m.1)) (RL ws wk)
      omega
    have rng : ∀ t ∈ S.map toR, (0 : Rat) ≤ t ∧ t ≤ 1 := fun t ht => by
      obtain ⟨q, hq, rfl⟩ := List.mem_map.mp ht
      have := hS q (List.mem_cons_of_mem _ hq)
      exact ⟨K04.Ok.nnR this.ok this.nn, this.le⟩
    have ord : (S.map toR).Pairwise (· ≤ ·) := List.pairwise_map.mpr hs'.2
    have key := chg_walk pos (S.map toR) 0 _ _ 50 top (by grind) rng ord (fun a ha m hm c1 c2 c3 => by
      rw [← RL0] at ha
      obtain ⟨x, hx, rfl⟩ := List.mem_map.mp ha
      obtain ⟨y, hy, rfl⟩ := List.mem_map.mp hm
      have hy' : y ∈ Lq0 ws wk := List.mem_cons_of_mem _ hy
      have hin := hcr x hx y hy' ⟨c1, (cross_pos c1).mp c2, by grind⟩
      have e := cr_R (Lq0_ok V x hx) (Lq0_ok V y hy') c1
      rcases List.mem_cons.mp hin with z | z
      · rw [z, z0] at e
        exact absurd c2 (by rw [← e]; grind)
      · rw [← e]
        exact List.mem_map_of_mem z) hcn
    have w0 : wAt ws wk q0 = (K04R.best 0 (RL ws wk)).1 := by unfold wAt; rw [z0]
    have d0 : dueQ ws wk [] (q0 :: S) = dueQ ws wk [(q0, wAt ws wk q0)] S := rfl
    have bk := bst_chg pos (S.map toR) 0 _ _ ((0 : Rat), kp 0 (K04R.best 0 (RL ws wk)).2) top rng ord (by show kp 0 _ ≤ kp 0 _; grind)
    have e1 : bR (bstQ ws wk none (q0 :: S)) = bst (some ((0 : Rat), kp 0 (K04R.best 0 (RL ws wk)).2)) ((S.map toR).map fun t => (t, (K04R.best t (RL ws wk)).2)) := by
      rw [bstQ_R V (q0 :: S) none hS, List.map_cons, List.map_cons, z0]
      have : bR none = none := rfl
      rw [this, bst, if_pos (.inl rfl)]
    have e2 : bst none (rest.map fun p => (toR p.1, ln0 ws wk p.2)) = bst (some ((0 : Rat), kp 0 (K04R.best 0 (RL ws wk)).2)) ((chg (RL ws wk) (K04R.best 0 (RL ws wk)).1 (K04R.best 0 (RL ws wk)).2 (S.map toR)).map fun x => (x.1, x.2.2)) := by
      have : (rest.map fun p => (toR p.1, ln0 ws wk p.2)) = (rest.map fun p => (toR p.1, p.2)).map fun z => (z.1, ln0 ws wk z.2) := by rw [List.map_map]; rfl
      rw [this, er, List.map_cons, List.map_map, ← key]
      have : (fun z : Rat × Nat => (z.1, ln0 ws wk z.2)) ∘ (fun x : Rat × Nat × Line => (x.1, x.2.1)) = fun x => (x.1, ln0 ws wk x.2.1) := rfl
      rw [this, chg_ln V, ln_best V 0, bst, if_pos (.inl rfl)]
    refine ⟨?_, ?_, ?_⟩
    · refine rT_inj _ _ (dueQ_shr V _ _ hS (fun p hp => by cases hp)) hr ?_
      rw [d0, dueQ_chg V S [(q0, wAt ws wk q0)] (wAt ws wk q0) (K04R.best 0 (RL ws wk)).2 rfl, w0, key]
      have : (rest.map rT) = rest.map fun p => (toR p.1, p.2) := rfl
      rw [this, er]
      show (toR q0, _) :: _ = _
      rw [z0]
      rfl
    · refine bR_inj (bstQ_ok V _ _ hS (fun y hy => by cases hy)) hb ?_
      rw [e1, eb, e2, bk]
    · obtain ⟨z, hz⟩ := bst_some ((chg (RL ws wk) (K04R.best 0 (RL ws wk)).1 (K04R.best 0 (RL ws wk)).2 (S.map toR)).map fun x => (x.1, x.2.2)) ((0 : Rat), kp 0 (K04R.best 0 (RL ws wk)).2)
      rw [← e2, ← eb] at hz
      cases b with
      | none => cases hz
      | some y => exact ⟨y, rfl⟩
end
end K04

set_option maxHeartbeats 2000000
namespace K04
open PySem PySem.Spec PyProof.Rows L2 DL K04R
theorem walk_at {R : List Line} : ∀ (f : Nat) (l : Line), ∀ x ∈ walk R f l, ∃ t, x.2.1 = (K04R.best t R).1
  | 0, l, x, h => by cases h
  | f + 1, l, x, h => by
    unfold walk at h
    split at h
    · cases h
    · rcases List.mem_cons.mp h with z | z
      · subst z; exact ⟨_, rfl⟩
      · exact walk_at f _ x z
theorem pick69 (n : Nat) : ∃ m : Int, (m = 6 ∨ m = 90) ∧ gIxA (.tup [.int 6, .int 90]) (.int ((n : Int) % 2)) = some (.int m) := by
  have := emod_lt' (n : Int) (show (0 : Int) < 2 by decide)
  rcases (show (n : Int) % 2 = 0 ∨ (n : Int) % 2 = 1 by omega) with e | e
  · exact ⟨6, .inl rfl, by rw [e]; rfl⟩
  · exact ⟨90, .inr rfl, by rw [e]; rfl⟩
theorem low_shr {t b : Int} (h : 0 < b) (hb : b ≤ 90) (t0 : 0 ≤ t) (t1 : t ≤ b) : Shr 200 (low t b) := by
  have o : Ok 10 (low t b) := low_ok h (by show _ < 1024; omega) (by show _ < 1024; omega)
  refine ⟨o.mono (by decide), low_nn t0, ?_⟩
  rw [toR_low h]
  have h0 : (0 : Rat) < (b : Rat) := by exact_mod_cast h
  have h1 : (t : Rat) ≤ (b : Rat) := by exact_mod_cast t1
  have e : (t : Rat) = (t : Rat) / (b : Rat) * (b : Rat) := by grind
  apply Classical.byContradiction
  intro q
  have := Rat.mul_pos (show (0 : Rat) < (t : Rat) / (b : Rat) - 1 by grind) h0
  grind
def sixB : DS1 := (gSeq (gSet 10 (DL.e2 gAddA (eC (.int 1)) (DL.e2 gModI (eCB gInt (aCons (eCall 2 F_u_law_number (aCons (eV 0) (aCons (DL.e2 gAddA (eVB 1) (eVB 9)) aNil))) aNil)) (DL.e2 gIxA (eTup (aCons (eC (.int 6)) (aCons (eC (.int 90)) aNil))) (DL.e2 gModI (eCB gInt (aCons (eVB 9) aNil)) (eC (.int 2)))))))
  (gSeq (gSet 11 (eCall 2 F_u_law_lowest (aCons (DL.e2 gModI (eCB gInt (aCons (eCall 2 F_u_law_number (aCons (eV 0) (aCons (DL.e2 gAddA (DL.e2 gAddA (eVB 1) (eC (.int 10))) (eVB 9)) aNil))) aNil)) (DL.e2 gAddA (eVB 10) (eC (.int 1)))) (aCons (eV 10) aNil))))
  (gIf (DL.e2 (gEqA true) (eCallV 2 F_done (aCons (eV 3) (aCons (eV 11) aNil))) (eCall 2 F_u_law_done (aCons (eV 2) (aCons (eV 11) aNil)))) (gRet (eC (.bl false))) gNx)))
def eX (ns : List Int) (idx : Int) (ws : List Int) (wk : List (Int × List Int)) (s4 s5 s6 s7 s8 s9 s10 s11 : Slot) : DEnv := [some (false, .scr ns), some (false, .int idx), some (false, packD ws wk), some (false, jobD ws wk), s4, s5, s6, s7, s8, s9, s10, s11]
section
variable {ws : List Int} {wk : List (Int × List Int)} (V : Valid ws wk) (ns : List Int) (h : ns.length ≤ 63) {idx : Int} (i0 : 0 ≤ idx) (i1 : idx ≤ 1000)
include V h i0 i1
theorem six_step (s4 s5 s6 s7 s8 s10 s11 : Slot) (k : Nat) (k6 : k < 6) : ∃ s10' s11', sixB (eX ns idx ws wk s4 s5 s6 s7 s8 (some (false, .int k)) s10 s11) = .nx (eX ns idx ws wk s4 s5 s6 s7 s8 (some (false, .int k)) s10' s11') := by
  obtain ⟨n1, e1⟩ := F_num ns h (i := idx + (k : Int)) (by omega) (by omega)
  obtain ⟨n2, e2⟩ := F_num ns h (i := idx + 10 + (k : Int)) (by omega) (by omega)
  obtain ⟨m, hm, em⟩ := pick69 k
  have m0 : 0 < m := by omega
  have b1 := emod_lt' n1 m0
  have b2 := emod_lt' n2 (show (0 : Int) < 1 + n1 % m + 1 by omega)
  generalize hB : 1 + n1 % m = B at *
  generalize hT : n2 % (B + 1) = T at *
  have B1 : 0 < B := by omega
  have B2 : B ≤ 90 := by omega
  have sh := low_shr B1 B2 b2.1 (by omega)
  have el := F_lowest_eq (t := T) B1 (sz_of (n := 10) (by show _ < 1024; omega) (by decide))
  have d1 := F_ldone_eq V sh.ok (by omega)
  have d2 := F_done_eq V sh (by omega)
  refine ⟨some (false, .int B), some (false, qd (low T B)), ?_⟩
  have c1 : gSet 10 (DL.e2 gAddA (eC (.int 1)) (DL.e2 gModI (eCB gInt (aCons (eCall 2 F_u_law_number (aCons (eV 0) (aCons (DL.e2 gAddA (eVB 1) (eVB 9)) aNil))) aNil)) (DL.e2 gIxA (eTup (aCons (eC (.int 6)) (aCons (eC (.int 90)) aNil))) (DL.e2 gModI (eCB gInt (aCons (eVB 9) aNil)) (eC (.int 2)))))) (eX ns idx ws wk s4 s5 s6 s7 s8 (some (false, .int k)) s10 s11)
      = .nx (eX ns idx ws wk s4 s5 s6 s7 s8 (some (false, .int k)) (some (false, .int B)) s11) := by
    unfold eX
    simp only [mkF, startD, ap_Seq, back_ret, ap_Set, ap_SetF, ap_Call, ap_CB, ap_Cons, ap_Nil, ap_2, ap_C, ap_V, ap_VB, ap_Tup, ap_Lst, ap_If, ap_Not, ap_Nx, ap_Exp, ap_Par, ap_ParF, ap_Wh, ap_For, ap_IfS, ap_bN, ap_bT, ap_bC, ap_b0, ix0, ix1, gAdd_eq, gAddA_eq, gEqA_int, gEqA_int', ixA0, ixA1, gSub_eq, List.map_cons, List.map_nil, List.length_cons, List.length_nil, List.cons_append, List.nil_append, List.replicate, List.getElem?_cons_zero, List.getElem?_cons_succ, List.set_cons_zero, List.set_cons_succ, bind_s, Option.map_some, if_true, Nat.reduceAdd, Nat.reduceSub, Nat.reduceLeDiff, reduceIte, gInt_eq, e1, mMod_eq (show (0 : Int) < 2 by decide), em, mMod_eq m0, hB]
  have c2 : gSet 11 (eCall 2 F_u_law_lowest (aCons (DL.e2 gModI (eCB gInt (aCons (eCall 2 F_u_law_number (aCons (eV 0) (aCons (DL.e2 gAddA (DL.e2 gAddA (eVB 1) (eC (.int 10))) (eVB 9)) aNil))) aNil)) (DL.e2 gAddA (eVB 10) (eC (.int 1)))) (aCons (eV 10) aNil))) (eX ns idx ws wk s4 s5 s6 s7 s8 (some (false, .int k)) (some (false, .int B)) s11)
      = .nx (eX ns idx ws wk s4 s5 s6 s7 s8 (some (false, .int k)) (some (false, .int B)) (some (false, qd (low T B)))) := by
    unfold eX
    simp only [mkF, startD, ap_Seq, back_ret, ap_Set, ap_SetF, ap_Call, ap_CB, ap_Cons, ap_Nil, ap_2, ap_C, ap_V, ap_VB, ap_Tup, ap_Lst, ap_If, ap_Not, ap_Nx, ap_Exp, ap_Par, ap_ParF, ap_Wh, ap_For, ap_IfS, ap_bN, ap_bT, ap_bC, ap_b0, ix0, ix1, gAdd_eq, gAddA_eq, gEqA_int, gEqA_int', ixA0, ixA1, gSub_eq, List.map_cons, List.map_nil, List.length_cons, List.length_nil, List.cons_append, List.nil_append, List.replicate, List.getElem?_cons_zero, List.getElem?_cons_succ, List.set_cons_zero, List.set_cons_succ, bind_s, Option.map_some, if_true, Nat.reduceAdd, Nat.reduceSub, Nat.reduceLeDiff, reduceIte, gInt_eq, e2, mMod_eq (show (0 : Int) < B + 1 by omega), hT, el]
  have t : DL.e2 (gEqA true) (eCallV 2 F_done (aCons (eV 3) (aCons (eV 11) aNil))) (eCall 2 F_u_law_done (aCons (eV 2) (aCons (eV 11) aNil))) (eX ns idx ws wk s4 s5 s6 s7 s8 (some (false, .int k)) (some (false, .int B)) (some (false, qd (low T B)))) = some (.bl false) := by
    rw [ap_2, callV2 rfl d2, bind_s, call2 rfl d1, bind_s, ne_w]
    simp
  unfold sixB
  rw [seq_nx c1, seq_nx c2, ap_IfS, t]
  rfl
theorem six_loop (s4 s5 s6 s7 s8 : Slot) : ∀ (ks : List Nat) (s9 s10 s11 : Slot), (∀ k ∈ ks, k < 6) → ∃ s9' s10' s11', forL (bN 9) sixB (ks.map fun k => D.int (k : Nat)) (eX ns idx ws wk s4 s5 s6 s7 s8 s9 s10 s11) = .nx (eX ns idx ws wk s4 s5 s6 s7 s8 s9' s10' s11')
  | [], s9, s10, s11, _ => ⟨s9, s10, s11, rfl⟩
  | k :: ks, s9, s10, s11, H => by
    obtain ⟨t10, t11, e⟩ := six_step V ns h i0 i1 s4 s5 s6 s7 s8 s10 s11 k (H k List.mem_cons_self)
    obtain ⟨u9, u10, u11, e'⟩ := six_loop s4 s5 s6 s7 s8 ks (some (false, .int (k : Nat))) t10 t11 (fun x hx => H x (List.mem_cons_of_mem _ hx))
    refine ⟨u9, u10, u11, ?_⟩
    rw [List.map_cons]
    unfold forL
    have eb : bN 9 (D.int (k : Nat)) (eX ns idx ws wk s4 s5 s6 s7 s8 s9 s10 s11) = some (eX ns idx ws wk s4 s5 s6 s7 s8 (some (false, .int (k : Nat))) s10 s11) := rfl
    rw [eb]
    simp only [e]
    exact e'
theorem F_right_eq : F_u_law_job_right [.scr ns, .int idx, packD ws wk] = some (.bl true) := by
  obtain ⟨rest, et, hr, _, er⟩ := F_turns_eq V
  have hx : ∀ p ∈ rest, Shr 200 p.1 ∧ ∃ x, (Lq0 ws wk)[p.2]? = some x := fun p hp => by
    refine ⟨hr p hp, ?_⟩
    have hm : (toR p.1, p.2) ∈ (((0 : Rat), (K04R.best 0 (RL ws wk)).1) :: (walk (RL ws wk) 50 (K04R.best 0 (RL ws wk)).2).map fun x => (x.1, x.2.1)) := by
      rw [← er]
      exact List.mem_map_of_mem hp
    have : ∃ t, p.2 = (K04R.best t (RL ws wk)).1 := by
      rcases List.mem_cons.mp hm with z | z
      · exact ⟨0, congrArg Prod.snd z⟩
      · obtain ⟨y, hy, ey⟩ := List.mem_map.mp z
        obtain ⟨t, ht⟩ := walk_at _ _ y hy
        exact ⟨t, by rw [← ht]; exact (congrArg Prod.snd ey).symm⟩
    obtain ⟨t, ht⟩ := this
    obtain ⟨x, hx, _⟩ := best_at V t
    exact ⟨x, by rw [ht]; exact hx⟩
  obtain ⟨b, ebs, hb, eb⟩ := F_best_eq V et hx
  obtain ⟨md, mb, y, rfl⟩ := match_all V hr er hb eb
  have es := F_spots_eq V
  have hS : ∀ q ∈ spotsQ ws wk, Shr 200 q := fun q hq => K_shr V q ((S_mem V q).mp hq)
  have lS : (spotsQ ws wk).length < 800 := by
    have := (K_spec V).2
    have e : (spotsQ ws wk).length = (allK (Lq0 ws wk) (Lq0 ws wk) [(0, 1), (1, 1)]).length := passes_len toR _ _
    omega
  obtain ⟨t6, t7, t8, e1⟩ := law_loop V (some (false, .scr ns)) (some (false, .int idx)) (spotsQ ws wk) [] none none none none hS (by show 0 + _ < 900; omega) (fun y hy => by cases hy)
  rw [md, mb] at e1
  obtain ⟨u9, u10, u11, e2⟩ := six_loop V ns h i0 i1 (some (true, .lst (rest.map tD))) (some (false, bD (some y))) t6 t7 t8 (List.range 6) none none none (fun k hk => List.mem_range.mp hk)
  have c1 : gParKOK 3 4 5 (eMake 0 2 F_JobD_initD (aCons (DL.e2 gIxA (eVB 2) (eC (.int 0))) (aCons (DL.e2 gIxA (eVB 2) (eC (.int 1))) aNil))) (eLst aNil) (eC .non) (startD 12 [.scr ns, .int idx, packD ws wk]) = .nx (eJ (some (false, .scr ns)) (some (false, .int idx)) ws wk [] none none none none) := by
    have em : eMake 0 2 F_JobD_initD (aCons (DL.e2 gIxA (eVB 2) (eC (.int 0))) (aCons (DL.e2 gIxA (eVB 2) (eC (.int 1))) aNil)) (startD 12 [.scr ns, .int idx, packD ws wk]) = some (jobD ws wk) := make_eq V rfl
    have el : eLst aNil (startD 12 [.scr ns, .int idx, packD ws wk]) = some (.lst []) := rfl
    have en : eC .non (startD 12 [.scr ns, .int idx, packD ws wk]) = some .non := rfl
    unfold gParKOK
    rw [em, el, en]
    rfl
  have c2 : gFor (iA (eCall 1 F_u_law_spots (aCons (eV 2) aNil))) (bN 6) stepB (eJ (some (false, .scr ns)) (some (false, .int idx)) ws wk [] none none none none) = .nx (eJ (some (false, .scr ns)) (some (false, .int idx)) ws wk rest (some y) t6 t7 t8) := by
    have : eCall 1 F_u_law_spots (aCons (eV 2) aNil) (eJ (some (false, .scr ns)) (some (false, .int idx)) ws wk [] none none none none) = some (.lst ((spotsQ ws wk).map qd)) := call1 rfl es
    have : iA (eCall 1 F_u_law_spots (aCons (eV 2) aNil)) (eJ (some (false, .scr ns)) (some (false, .int idx)) ws wk [] none none none none) = some ((spotsQ ws wk).map qd) := by rw [ap_iA, this]
    rw [ap_For, this]
    exact e1
  have t3 : eOr (DL.e2 (gEqA true) (eCall 1 F_turns (aCons (eV 3) aNil)) (eVB 4)) (DL.e2 (gEqA true) (eCall 1 F_best_share (aCons (eV 3) aNil)) (eVB 5)) (eJ (some (false, .scr ns)) (some (false, .int idx)) ws wk rest (some y) t6 t7 t8) = some (.bl false) := by
    have e4 : eVB 4 (eJ (some (false, .scr ns)) (some (false, .int idx)) ws wk rest (some y) t6 t7 t8) = some (.lst (rest.map tD)) := rfl
    have e5 : eVB 5 (eJ (some (false, .scr ns)) (some (false, .int idx)) ws wk rest (some y) t6 t7 t8) = some (.tup [qd y.1, qd y.2]) := rfl
    have q1 : DL.e2 (gEqA true) (eCall 1 F_turns (aCons (eV 3) aNil)) (eVB 4) (eJ (some (false, .scr ns)) (some (false, .int idx)) ws wk rest (some y) t6 t7 t8) = some (.bl false) := by
      rw [ap_2, call1 rfl et, bind_s, e4, bind_s, ne_l]
    have q2 : DL.e2 (gEqA true) (eCall 1 F_best_share (aCons (eV 3) aNil)) (eVB 5) (eJ (some (false, .scr ns)) (some (false, .int idx)) ws wk rest (some y) t6 t7 t8) = some (.bl false) := by
      rw [ap_2, call1 rfl ebs, bind_s, e5, bind_s]
      exact ne_pair y.1 y.2
    rw [ap_Or, q1]
    exact q2
  have c4 : gFor (iR1 (eC (.int 6))) (bN 9) sixB (eJ (some (false, .scr ns)) (some (false, .int idx)) ws wk rest (some y) t6 t7 t8) = .nx (eX ns idx ws wk (some (true, .lst (rest.map tD))) (some (false, bD (some y))) t6 t7 t8 u9 u10 u11) := by
    have ir := iR1_nat (f := eC (.int 6)) (ρ := eJ (some (false, .scr ns)) (some (false, .int idx)) ws wk rest (some y) t6 t7 t8) (n := 6) rfl (by decide)
    rw [ap_For, ir]
    exact e2
  have d : g_u_law_job_right (startD 12 [.scr ns, .int idx, packD ws wk]) = .rt (.bl true) := by
    unfold g_u_law_job_right
    rw [seq_nx c1]
    refine (seq_nx c2).trans ?_
    refine (if_no t3).trans ?_
    exact (seq_nx c4).trans rfl
  unfold F_u_law_job_right mkF
  rw [d]
  rfl
end
end K04

set_option maxHeartbeats 2000000
namespace K04
open PySem PySem.Spec PyProof.Rows L2 DL K04R
def badL : List D := [.non, .int 1, .tup [.int 1], .tup [.int 2, .int 1], .tup [.int (-1), .int 2], .tup [.int 2, .int 4], .tup [.int 0, .int 2], .tup [.int 1, .int 0], .lst [.int 1, .int 2], .tup [.int 1, .bl true], .str (Str.ofString "12"), .tup [.int 1, .int 2, .int 3], .tup [.int 3, .int 2]]
def badE : DE1 := (eTup (aCons (eC .non) (aCons (eC (.int 1)) (aCons (eTup (aCons (eC (.int 1)) aNil)) (aCons (eTup (aCons (eC (.int 2)) (aCons (eC (.int 1)) aNil))) (aCons (eTup (aCons (eNeg (eC (.int 1))) (aCons (eC (.int 2)) aNil))) (aCons (eTup (aCons (eC (.int 2)) (aCons (eC (.int 4)) aNil))) (aCons (eTup (aCons (eC (.int 0)) (aCons (eC (.int 2)) aNil))) (aCons (eTup (aCons (eC (.int 1)) (aCons (eC (.int 0)) aNil))) (aCons (eLst (aCons (eC (.int 1)) (aCons (eC (.int 2)) aNil))) (aCons (eTup (aCons (eC (.int 1)) (aCons (eC (.bl true)) aNil))) (aCons (eC (.str (Str.ofString "12"))) (aCons (eTup (aCons (eC (.int 1)) (aCons (eC (.int 2)) (aCons (eC (.int 3)) aNil)))) (aCons (eTup (aCons (eC (.int 3)) (aCons (eC (.int 2)) aNil))) aNil))))))))))))))
theorem bad_x : ∀ d ∈ badL, F_u_check_share [d] = some (.ex 1) := by
  intro d hd
  simp only [badL, List.mem_cons, List.not_mem_nil, or_false] at hd
  rcases hd with rfl | rfl | rfl | rfl | rfl | rfl | rfl | rfl | rfl | rfl | rfl | rfl | rfl <;> kernel_rfl
theorem refused {ws : List Int} {wk : List (Int × List Int)} {d : D} (h : d ∈ badL) : F_u_law_is_refused [jobD ws wk, d] = some (.bl true) := by
  have e1 := bad_x d h
  have hc := F_cjob ws wk
  have c1 : gExp (eCall 1 F_check_job (aCons (eV 0) aNil)) (startD 4 [jobD ws wk, d]) = .nx (startD 4 [jobD ws wk, d]) := by
    have : eCall 1 F_check_job (aCons (eV 0) aNil) (startD 4 [jobD ws wk, d]) = some .non := call1 rfl hc
    rw [ap_Exp, this]
  have c2 : xCall 1 F_u_check_share (aCons (eV 1) aNil) (startD 4 [jobD ws wk, d]) = .ex 1 (startD 4 [jobD ws wk, d]) := by
    have : aCons (eV 1) aNil (startD 4 [jobD ws wk, d]) = some [d] := rfl
    unfold xCall
    rw [this]
    simp only [List.length_cons, List.length_nil, Nat.zero_add, if_true, e1]
  have hd : F_done [jobD ws wk, d] = some (.ex 1) := by
    unfold F_done mkX g_done
    rw [xSeq_of c1]
    unfold xSeq
    rw [c2]
  have c3 : gTry [1] (xCall 2 F_done (aCons (eV 0) (aCons (eV 1) aNil))) (gRet (eC (.bl true))) (startD 2 [jobD ws wk, d]) = .rt (.bl true) := by
    have c4 : xCall 2 F_done (aCons (eV 0) (aCons (eV 1) aNil)) (startD 2 [jobD ws wk, d]) = .ex 1 (startD 2 [jobD ws wk, d]) := by
      have : aCons (eV 0) (aCons (eV 1) aNil) (startD 2 [jobD ws wk, d]) = some [jobD ws wk, d] := rfl
      unfold xCall
      rw [this]
      simp only [List.length_cons, List.length_nil, Nat.zero_add, Nat.reduceAdd, if_true, hd]
    unfold gTry
    rw [c4]
    rfl
  unfold F_u_law_is_refused mkF g_u_law_is_refused gSeq
  rw [c3]
  rfl
def allB : DS1 := (gSeq (gSet 2 (eCall 2 F_u_law_job (aCons (eV 0) (aCons (DL.e2 gAddA (eC (.int 10)) (DL.e2 gMulA (eC (.int 50)) (eVB 1))) aNil))))
  (gSeq (gIf (eNot (eCall 3 F_u_law_job_right (aCons (eV 0) (aCons (DL.e2 gAddA (eC (.int 200)) (DL.e2 gMulA (eC (.int 30)) (eVB 1))) (aCons (eV 2) aNil))))) (gRet (eC (.bl false))) gNx)
  (gSeq (gSet 3 badE)
  (gIf (eNot (eCB gAll (aCons (eLc (iA (eV 3)) ([(Str.ofString "one", 4)].map (·.2)) (bN 4) (eC (.bl true)) (eCall 2 F_u_law_is_refused (aCons (eMake 0 2 F_JobD_initD (aCons (DL.e2 gIxA (eVB 2) (eC (.int 0))) (aCons (DL.e2 gIxA (eVB 2) (eC (.int 1))) aNil))) (aCons (eV 4) aNil)))) aNil))) (gRet (eC (.bl false))) gNx))))
section
variable (ns : List Int) (h : ns.length ≤ 63)
include h
theorem all_step (s2 s3 s4 : Slot) (k : Nat) (k3 : k < 3) : ∃ s2' s3', allB [some (false, .scr ns), some (false, .int k), s2, s3, s4] = .nx [some (false, .scr ns), some (false, .int k), s2', s3', s4] := by
  obtain ⟨ws, wk, V, ej⟩ := F_job_ex ns h (idx := 10 + 50 * (k : Int)) (by omega) (by omega)
  have er := F_right_eq V ns h (idx := 200 + 30 * (k : Int)) (by omega) (by omega)
  refine ⟨some (false, packD ws wk), some (false, .tup badL), ?_⟩
  have i1 : DL.e2 gAddA (eC (.int 10)) (DL.e2 gMulA (eC (.int 50)) (eVB 1)) [some (false, .scr ns), some (false, .int k), s2, s3, s4] = some (.int (10 + 50 * (k : Int))) := by
    have : gMulA (.int 50) (.int (k : Int)) = some (.int (50 * (k : Int))) := mMulA_eq (sz_of (n := 10) (by decide) (by decide)) (sz_of (n := 10) (by show _ < 1024; omega) (by decide))
    simp only [mkF, startD, ap_Seq, back_ret, ap_Set, ap_SetF, ap_Call, ap_CB, ap_Cons, ap_Nil, ap_2, ap_C, ap_V, ap_VB, ap_Tup, ap_Lst, ap_If, ap_Not, ap_Nx, ap_Exp, ap_Par, ap_ParF, ap_Wh, ap_For, ap_IfS, ap_bN, ap_bT, ap_bC, ap_b0, ix0, ix1, gAdd_eq, gAddA_eq, gEqA_int, gEqA_int', ixA0, ixA1, gSub_eq, List.map_cons, List.map_nil, List.length_cons, List.length_nil, List.cons_append, List.nil_append, List.replicate, List.getElem?_cons_zero, List.getElem?_cons_succ, List.set_cons_zero, List.set_cons_succ, bind_s, Option.map_some, if_true, Nat.reduceAdd, Nat.reduceSub, Nat.reduceLeDiff, reduceIte, this]
  have c1 : gSet 2 (eCall 2 F_u_law_job (aCons (eV 0) (aCons (DL.e2 gAddA (eC (.int 10)) (DL.e2 gMulA (eC (.int 50)) (eVB 1))) aNil))) [some (false, .scr ns), some (false, .int k), s2, s3, s4] = .nx [some (false, .scr ns), some (false, .int k), some (false, packD ws wk), s3, s4] := by
    rw [ap_Set, call2 (a := .scr ns) (by rw [ap_Cons]; show Option.bind (some (D.scr ns)) _ = _; rw [bind_s, ap_Cons, i1]; rfl) ej]
    rfl
  have i2 : DL.e2 gAddA (eC (.int 200)) (DL.e2 gMulA (eC (.int 30)) (eVB 1)) [some (false, .scr ns), some (false, .int k), some (false, packD ws wk), s3, s4] = some (.int (200 + 30 * (k : Int))) := by
    have : gMulA (.int 30) (.int (k : Int)) = some (.int (30 * (k : Int))) := mMulA_eq (sz_of (n := 10) (by decide) (by decide)) (sz_of (n := 10) (by show _ < 1024; omega) (by decide))
    simp only [mkF, startD, ap_Seq, back_ret, ap_Set, ap_SetF, ap_Call, ap_CB, ap_Cons, ap_Nil, ap_2, ap_C, ap_V, ap_VB, ap_Tup, ap_Lst, ap_If, ap_Not, ap_Nx, ap_Exp, ap_Par, ap_ParF, ap_Wh, ap_For, ap_IfS, ap_bN, ap_bT, ap_bC, ap_b0, ix0, ix1, gAdd_eq, gAddA_eq, gEqA_int, gEqA_int', ixA0, ixA1, gSub_eq, List.map_cons, List.map_nil, List.length_cons, List.length_nil, List.cons_append, List.nil_append, List.replicate, List.getElem?_cons_zero, List.getElem?_cons_succ, List.set_cons_zero, List.set_cons_succ, bind_s, Option.map_some, if_true, Nat.reduceAdd, Nat.reduceSub, Nat.reduceLeDiff, reduceIte, this]
  have t2 : eNot (eCall 3 F_u_law_job_right (aCons (eV 0) (aCons (DL.e2 gAddA (eC (.int 200)) (DL.e2 gMulA (eC (.int 30)) (eVB 1))) (aCons (eV 2) aNil)))) [some (false, .scr ns), some (false, .int k), some (false, packD ws wk), s3, s4] = some (.bl false) := by
    have ea : aCons (eV 0) (aCons (DL.e2 gAddA (eC (.int 200)) (DL.e2 gMulA (eC (.int 30)) (eVB 1))) (aCons (eV 2) aNil)) [some (false, .scr ns), some (false, .int k), some (false, packD ws wk), s3, s4] = some [.scr ns, .int (200 + 30 * (k : Int)), packD ws wk] := by
      rw [ap_Cons]
      show Option.bind (some (D.scr ns)) _ = _
      rw [bind_s, ap_Cons, i2]
      rfl
    rw [ap_Not, ap_Call, ea, bind_s]
    simp only [List.length_cons, List.length_nil, Nat.zero_add, Nat.reduceAdd, if_true, er, Bool.not_true]
  have c3 : gSet 3 badE [some (false, .scr ns), some (false, .int k), some (false, packD ws wk), s3, s4] = .nx [some (false, .scr ns), some (false, .int k), some (false, packD ws wk), some (false, .tup badL), s4] := rfl
  have t4 : eNot (eCB gAll (aCons (eLc (iA (eV 3)) ([(Str.ofString "one", 4)].map (·.2)) (bN 4) (eC (.bl true)) (eCall 2 F_u_law_is_refused (aCons (eMake 0 2 F_JobD_initD (aCons (DL.e2 gIxA (eVB 2) (eC (.int 0))) (aCons (DL.e2 gIxA (eVB 2) (eC (.int 1))) aNil))) (aCons (eV 4) aNil)))) aNil)) [some (false, .scr ns), some (false, .int k), some (false, packD ws wk), some (false, .tup badL), s4] = some (.bl false) := by
    have ei : iA (eV 3) [some (false, .scr ns), some (false, .int k), some (false, packD ws wk), some (false, .tup badL), s4] = some badL := rfl
    have el := eLc_map (it := iA (eV 3)) (vs := [(Str.ofString "one", 4)].map (·.2)) (b := bN 4) (f := eCall 2 F_u_law_is_refused (aCons (eMake 0 2 F_JobD_initD (aCons (DL.e2 gIxA (eVB 2) (eC (.int 0))) (aCons (DL.e2 gIxA (eVB 2) (eC (.int 1))) aNil))) (aCons (eV 4) aNil))) (fun _ => D.bl true) ei (by decide) (fun d hd => by
      have ew : bN 4 d (wipeD [some (false, .scr ns), some (false, .int k), some (false, packD ws wk), some (false, .tup badL), s4] ([(Str.ofString "one", 4)].map (·.2))) = some [some (false, .scr ns), some (false, .int k), some (false, packD ws wk), some (false, .tup badL), some (false, d)] := rfl
      rw [ew, bind_s]
      have em : eMake 0 2 F_JobD_initD (aCons (DL.e2 gIxA (eVB 2) (eC (.int 0))) (aCons (DL.e2 gIxA (eVB 2) (eC (.int 1))) aNil)) [some (false, .scr ns), some (false, .int k), some (false, packD ws wk), some (false, .tup badL), some (false, d)] = some (jobD ws wk) := make_eq V rfl
      refine call2 (a := jobD ws wk) (b := d) ?_ (refused hd)
      rw [ap_Cons, em]
      rfl)
    rw [ap_Not, ap_CB, ap_Cons, el, bind_s, ap_Nil, Option.map_some, bind_s, gAll_true]
    rfl
  unfold allB
  rw [seq_nx c1]
  refine (if_no t2).trans ?_
  rw [seq_nx c3, ap_IfS, t4]
  rfl
theorem all_loop : ∀ (ks : List Nat) (s1 s2 s3 s4 : Slot), (∀ k ∈ ks, k < 3) → ∃ s1' s2' s3', forL (bN 1) allB (ks.map fun k => D.int (k : Nat)) [some (false, .scr ns), s1, s2, s3, s4] = .nx [some (false, .scr ns), s1', s2', s3', s4]
  | [], s1, s2, s3, s4, _ => ⟨s1, s2, s3, rfl⟩
  | k :: ks, s1, s2, s3, s4, H => by
    obtain ⟨t2, t3, e⟩ := all_step ns h s2 s3 s4 k (H k List.mem_cons_self)
    obtain ⟨u1, u2, u3, e'⟩ := all_loop ks (some (false, .int (k : Nat))) t2 t3 s4 (fun x hx => H x (List.mem_cons_of_mem _ hx))
    refine ⟨u1, u2, u3, ?_⟩
    rw [List.map_cons]
    unfold forL
    have eb : bN 1 (D.int (k : Nat)) [some (false, .scr ns), s1, s2, s3, s4] = some [some (false, .scr ns), some (false, .int (k : Nat)), s2, s3, s4] := rfl
    rw [eb]
    simp only [e]
    exact e'
theorem all_true : F_u_law_all_right [.scr ns] = some (.bl true) := by
  obtain ⟨u1, u2, u3, e⟩ := all_loop ns h (List.range 3) none none none none (fun k hk => List.mem_range.mp hk)
  have ir := iR1_nat (f := eC (.int 3)) (ρ := startD 5 [.scr ns]) (n := 3) rfl (by decide)
  have c1 : gFor (iR1 (eC (.int 3))) (bN 1) allB (startD 5 [.scr ns]) = .nx [some (false, .scr ns), u1, u2, u3, none] := by
    rw [ap_For, ir]
    exact e
  have d : g_u_law_all_right (startD 5 [.scr ns]) = .rt (.bl true) := by
    unfold g_u_law_all_right
    exact (seq_nx c1).trans rfl
  unfold F_u_law_all_right mkF
  rw [d]
  rfl
end
end K04

set_option maxHeartbeats 8000000
namespace K04
open PySem PySem.Spec PyProof.Rows L2 DL
theorem kit_self (K : PySem.W.Frag) (C : Addr) : PySem.W.kitOne K (.ref C) (.ref C) = some true := by
  unfold PySem.W.kitOne
  rw [if_pos]
  simp
theorem exm_self {K : PySem.W.Frag} {C : Addr} (b : PySem.W.subIn K (.ref C) (.type "BaseException") = some true) (i : PySem.W.isClsIn K C = true) (t : PySem.W.typeIn K (.ref C) = some (.type "type")) (s : PySem.W.subIn K (.ref C) (.ref C) = some true) : PySem.W.exmOne K (.ref C) (.ref C) = some true := by
  unfold PySem.W.exmOne
  rw [b, if_pos (by rfl)]
  unfold PySem.W.kitCls
  unfold PySem.W.isClsIn at i
  show (if ((PySem.W.clsIn K C).isSome && PySem.W.typeIn K (.ref C) == some (.type "type")) = true then PySem.W.subIn K (.ref C) (.ref C) else none) = some true
  rw [if_pos (by rw [i, t]; rfl)]
  exact s
def spLaw (K : PySem.W.Frag) : Sp := fun vs H Q _ => ∃ (a : Addr) (ns : List Int), vs = [.ref a] ∧ SqL K H a (ns.map V.int) ∧ ns.length ≤ 63 ∧ ∀ H', Q (.bl true) H'
abbrev s_law : Stmt := topS 63
theorem sc_law : FnScope ["script"] ["script"] (defScope s_law) := ⟨rfl, rfl, rfl, by decide +kernel, rfl, by decide +kernel, by decide +kernel⟩
section
variable {P : Program} {w : World} {K : PySem.W.Frag} {mg : Str → Option Value} {base : Heap}
theorem ok_law [CT] {f : Addr} {fd : FuncData} (F : Fun K "law" "law" s_law f fd) (T : Txt K mg) {CP : Addr} (gP : mg "PayError" = some (.ref CP)) (hall : ∀ ns : List Int, ns.length ≤ 63 → F_u_law_all_right [.scr ns] = some (.bl true)) : FnOk P w K mg base CX0 14 f fd ["script"] (spLaw K) := by
  refine F.ok sc_law (fun vs H Q E h => ?_) (fun cdv A outer s H vs Q E hr h => ?_)
  · obtain ⟨a, ns, rfl, _⟩ := h
    rfl
  · obtain ⟨a, ns, rfl, hS, hl, k⟩ := h
    have go : ∀ Q' : L2.VK, (∀ H', Q' (.bl true) H') → spD K 1 F_u_law_all_right [.ref a] H Q' E0 := fun Q' k' => ⟨rfl, fun _ => False, [.scr ns], fun _ z => z.elim, .cons (.scr (L2.Same.seq (fun b o q => hide_some.mpr ⟨fun z => z, q⟩) hS)) .nil, _, hall ns hl, fun v H' _ r => by cases r; exact k' H'⟩
    refine ⟨_, pss_one (ps_try_only rfl rfl ⟨rfl, by decide, .inl gP⟩ takes0 (fun W pn xe tk _ => pss_one (ps_ret (pe_call (ok_u_law_all_right T) (hr.mono (by decide)) (by rfl) T.m_u_law_all_right T.fun_u_law_all_right.kp T.b_u_law_all_right .nil pass0 (pa_cons (pv 0) pa_nil)))) (fun a oe cls d pn _ _ => pss_one (ps_ret pe_bl))), ?_⟩
    exact ⟨.ref a, rfl, go _ k⟩
end
theorem kit_not {K : PySem.W.Frag} {a b : Addr} (ne : ((Value.ref a) == (Value.ref b)) = false) (h : PySem.W.kitCls K (.ref a) (.ref b) = some false) : PySem.W.kitOne K (.ref a) (.ref b) = some false := by
  unfold PySem.W.kitOne
  rw [if_neg (by rw [ne]; exact Bool.false_ne_true)]
  exact h
@[reducible] def ctOf (c0 c1 : Addr) : CT := ⟨fun k => match k with | 0 => c0 | 1 => c1 | _ => c0⟩
theorem all_mk {l : PySem.W.OpenLaw} {w : World} {K : PySem.W.Frag} {h : Heap} {mg : Str → Option Value} {fa : Addr} (X : K.In h) (G : h.Ns mainGlobals mg) (hfa : mg "law" = some (.ref fa))
    {C_Job : Addr}
    {f0 : Addr} {od0 an0 : Option Addr} {sl0 : Array (Option Value)} {oc0 dc0 pm0 cd0 ct0 : Value} {kV0 : Value}
    {f1 : Addr} {od1 an1 : Option Addr} {sl1 : Array (Option Value)} {oc1 dc1 pm1 cd1 ct1 : Value} {kV1 : Value}
    {f2 : Addr} {od2 an2 : Option Addr} {sl2 : Array (Option Value)} {oc2 dc2 pm2 cd2 ct2 : Value} {kV2 : Value}
    {f3 : Addr} {od3 an3 : Option Addr} {sl3 : Array (Option Value)} {oc3 dc3 pm3 cd3 ct3 : Value} {kV3 : Value}
    {f4 : Addr} {od4 an4 : Option Addr} {sl4 : Array (Option Value)} {oc4 dc4 pm4 cd4 ct4 : Value} {kV4 : Value}
    {f5 : Addr} {od5 an5 : Option Addr} {sl5 : Array (Option Value)} {oc5 dc5 pm5 cd5 ct5 : Value} {kV5 : Value}
    {f6 : Addr} {od6 an6 : Option Addr} {sl6 : Array (Option Value)} {oc6 dc6 pm6 cd6 ct6 : Value} {kV6 : Value}
    {f7 : Addr} {od7 an7 : Option Addr} {sl7 : Array (Option Value)} {oc7 dc7 pm7 cd7 ct7 : Value} {kV7 : Value}
    {f8 : Addr} {od8 an8 : Option Addr} {sl8 : Array (Option Value)} {oc8 dc8 pm8 cd8 ct8 : Value} {kV8 : Value}
    {f9 : Addr} {od9 an9 : Option Addr} {sl9 : Array (Option Value)} {oc9 dc9 pm9 cd9 ct9 : Value} {kV9 : Value}
    {f10 : Addr} {od10 an10 : Option Addr} {sl10 : Array (Option Value)} {oc10 dc10 pm10 cd10 ct10 : Value} {kV10 : Value}
    {f11 : Addr} {od11 an11 : Option Addr} {sl11 : Array (Option Value)} {oc11 dc11 pm11 cd11 ct11 : Value} {kV11 : Value}
    {f12 : Addr} {od12 an12 : Option Addr} {sl12 : Array (Option Value)} {oc12 dc12 pm12 cd12 ct12 : Value} {kV12 : Value}
    {p12 : Addr} {rs12 : List Value}
    {f13 : Addr} {od13 an13 : Option Addr} {sl13 : Array (Option Value)} {oc13 dc13 pm13 cd13 ct13 : Value} {kV13 : Value}
    {f14 : Addr} {od14 an14 : Option Addr} {sl14 : Array (Option Value)} {oc14 dc14 pm14 cd14 ct14 : Value} {kV14 : Value}
    {f15 : Addr} {od15 an15 : Option Addr} {sl15 : Array (Option Value)} {oc15 dc15 pm15 cd15 ct15 : Value} {kV15 : Value}
    {p15 : Addr} {rs15 : List Value}
    {f16 : Addr} {od16 an16 : Option Addr} {sl16 : Array (Option Value)} {oc16 dc16 pm16 cd16 ct16 : Value} {kV16 : Value}
    {f17 : Addr} {od17 an17 : Option Addr} {sl17 : Array (Option Value)} {oc17 dc17 pm17 cd17 ct17 : Value} {kV17 : Value}
    {f18 : Addr} {od18 an18 : Option Addr} {sl18 : Array (Option Value)} {oc18 dc18 pm18 cd18 ct18 : Value} {kV18 : Value}
    {f19 : Addr} {od19 an19 : Option Addr} {sl19 : Array (Option Value)} {oc19 dc19 pm19 cd19 ct19 : Value} {kV19 : Value}
    {f20 : Addr} {od20 an20 : Option Addr} {sl20 : Array (Option Value)} {oc20 dc20 pm20 cd20 ct20 : Value} {kV20 : Value}
    {f21 : Addr} {od21 an21 : Option Addr} {sl21 : Array (Option Value)} {oc21 dc21 pm21 cd21 ct21 : Value} {kV21 : Value}
    {f22 : Addr} {od22 an22 : Option Addr} {sl22 : Array (Option Value)} {oc22 dc22 pm22 cd22 ct22 : Value} {kV22 : Value}
    {f23 : Addr} {od23 an23 : Option Addr} {sl23 : Array (Option Value)} {oc23 dc23 pm23 cd23 ct23 : Value} {kV23 : Value}
    {f24 : Addr} {od24 an24 : Option Addr} {sl24 : Array (Option Value)} {oc24 dc24 pm24 cd24 ct24 : Value} {kV24 : Value}
    {f25 : Addr} {od25 an25 : Option Addr} {sl25 : Array (Option Value)} {oc25 dc25 pm25 cd25 ct25 : Value} {kV25 : Value}
    {f26 : Addr} {od26 an26 : Option Addr} {sl26 : Array (Option Value)} {oc26 dc26 pm26 cd26 ct26 : Value} {kV26 : Value}
    {f27 : Addr} {od27 an27 : Option Addr} {sl27 : Array (Option Value)} {oc27 dc27 pm27 cd27 ct27 : Value} {kV27 : Value}
    {f28 : Addr} {od28 an28 : Option Addr} {sl28 : Array (Option Value)} {oc28 dc28 pm28 cd28 ct28 : Value} {kV28 : Value}
    {f29 : Addr} {od29 an29 : Option Addr} {sl29 : Array (Option Value)} {oc29 dc29 pm29 cd29 ct29 : Value} {kV29 : Value}
    {f30 : Addr} {od30 an30 : Option Addr} {sl30 : Array (Option Value)} {oc30 dc30 pm30 cd30 ct30 : Value} {kV30 : Value}
    {f31 : Addr} {od31 an31 : Option Addr} {sl31 : Array (Option Value)} {oc31 dc31 pm31 cd31 ct31 : Value} {kV31 : Value}
    {f32 : Addr} {od32 an32 : Option Addr} {sl32 : Array (Option Value)} {oc32 dc32 pm32 cd32 ct32 : Value} {kV32 : Value}
    {f33 : Addr} {od33 an33 : Option Addr} {sl33 : Array (Option Value)} {oc33 dc33 pm33 cd33 ct33 : Value} {kV33 : Value}
    {f34 : Addr} {od34 an34 : Option Addr} {sl34 : Array (Option Value)} {oc34 dc34 pm34 cd34 ct34 : Value} {kV34 : Value}
    {f35 : Addr} {od35 an35 : Option Addr} {sl35 : Array (Option Value)} {oc35 dc35 pm35 cd35 ct35 : Value} {kV35 : Value}
    {f36 : Addr} {od36 an36 : Option Addr} {sl36 : Array (Option Value)} {oc36 dc36 pm36 cd36 ct36 : Value} {kV36 : Value}
    {f37 : Addr} {od37 an37 : Option Addr} {sl37 : Array (Option Value)} {oc37 dc37 pm37 cd37 ct37 : Value} {kV37 : Value}
    {f38 : Addr} {od38 an38 : Option Addr} {sl38 : Array (Option Value)} {oc38 dc38 pm38 cd38 ct38 : Value} {kV38 : Value}
    {f39 : Addr} {od39 an39 : Option Addr} {sl39 : Array (Option Value)} {oc39 dc39 pm39 cd39 ct39 : Value} {kV39 : Value}
    {f40 : Addr} {od40 an40 : Option Addr} {sl40 : Array (Option Value)} {oc40 dc40 pm40 cd40 ct40 : Value} {kV40 : Value}
    {f41 : Addr} {od41 an41 : Option Addr} {sl41 : Array (Option Value)} {oc41 dc41 pm41 cd41 ct41 : Value} {kV41 : Value}
    {f42 : Addr} {od42 an42 : Option Addr} {sl42 : Array (Option Value)} {oc42 dc42 pm42 cd42 ct42 : Value} {kV42 : Value}
    {f43 : Addr} {od43 an43 : Option Addr} {sl43 : Array (Option Value)} {oc43 dc43 pm43 cd43 ct43 : Value} {kV43 : Value}
    {f44 : Addr} {od44 an44 : Option Addr} {sl44 : Array (Option Value)} {oc44 dc44 pm44 cd44 ct44 : Value} {kV44 : Value}
    {f45 : Addr} {od45 an45 : Option Addr} {sl45 : Array (Option Value)} {oc45 dc45 pm45 cd45 ct45 : Value} {kV45 : Value}
    {f46 : Addr} {od46 an46 : Option Addr} {sl46 : Array (Option Value)} {oc46 dc46 pm46 cd46 ct46 : Value} {kV46 : Value}
    {f47 : Addr} {od47 an47 : Option Addr} {sl47 : Array (Option Value)} {oc47 dc47 pm47 cd47 ct47 : Value} {kV47 : Value}
    {f48 : Addr} {od48 an48 : Option Addr} {sl48 : Array (Option Value)} {oc48 dc48 pm48 cd48 ct48 : Value} {kV48 : Value}
    {f49 : Addr} {od49 an49 : Option Addr} {sl49 : Array (Option Value)} {oc49 dc49 pm49 cd49 ct49 : Value} {kV49 : Value}
    {C_BadShare : Addr}
    {t_FEWEST : Tok}
    {t_MOST : Tok}
    {t_MOST_EFFORT : Tok}
    {t_MOST_PART : Tok}
    {t_MOST_WORTH : Tok}
    {a_ONE : Addr} {dd_ONE : Option Addr} {nn_ONE : Nat} {ss_ONE : Array (Option Value)} {u_ONE_0 u_ONE_1 : Tok}
    {a_ZERO : Addr} {dd_ZERO : Option Addr} {nn_ZERO : Nat} {ss_ZERO : Array (Option Value)} {u_ZERO_0 u_ZERO_1 : Tok}
    {CP : Addr}
    {fl : Addr} {odl anl : Option Addr} {sll : Array (Option Value)} {ocl kVl dcl pml cdl ctl : Value}
    (aC_Job : PySem.W.nsIn K mainGlobals "Job" = some (some (.ref C_Job)))
    (a0 : PySem.W.nsIn K mainGlobals "is_integer" = some (some (.ref f0)))
    (l0 : K.lookup f0 = some ⟨oc0, od0, .func (PySem.W.fnOf "is_integer" "is_integer" (defArgs (topS 8)) (defBody (topS 8)) (defScope (topS 8)) .none kV0 dc0 pm0 an0 cd0 ct0), sl0⟩)
    (c0 : PySem.W.codeIn K cd0 "is_integer" = true)
    (k0 : PySem.W.keepIn K (.ref f0) = true)
    (a1 : PySem.W.nsIn K mainGlobals "is_integer_within" = some (some (.ref f1)))
    (l1 : K.lookup f1 = some ⟨oc1, od1, .func (PySem.W.fnOf "is_integer_within" "is_integer_within" (defArgs (topS 9)) (defBody (topS 9)) (defScope (topS 9)) .none kV1 dc1 pm1 an1 cd1 ct1), sl1⟩)
    (c1 : PySem.W.codeIn K cd1 "is_integer_within" = true)
    (k1 : PySem.W.keepIn K (.ref f1) = true)
    (a2 : PySem.W.nsIn K mainGlobals "_are_parts" = some (some (.ref f2)))
    (l2 : K.lookup f2 = some ⟨oc2, od2, .func (PySem.W.fnOf "_are_parts" "_are_parts" (defArgs (topS 32)) (defBody (topS 32)) (defScope (topS 32)) .none kV2 dc2 pm2 an2 cd2 ct2), sl2⟩)
    (c2 : PySem.W.codeIn K cd2 "_are_parts" = true)
    (k2 : PySem.W.keepIn K (.ref f2) = true)
    (a3 : PySem.W.nsIn K mainGlobals "is_work" = some (some (.ref f3)))
    (l3 : K.lookup f3 = some ⟨oc3, od3, .func (PySem.W.fnOf "is_work" "is_work" (defArgs (topS 31)) (defBody (topS 31)) (defScope (topS 31)) .none kV3 dc3 pm3 an3 cd3 ct3), sl3⟩)
    (c3 : PySem.W.codeIn K cd3 "is_work" = true)
    (k3 : PySem.W.keepIn K (.ref f3) = true)
    (a4 : PySem.W.nsIn K mainGlobals "_are_works" = some (some (.ref f4)))
    (l4 : K.lookup f4 = some ⟨oc4, od4, .func (PySem.W.fnOf "_are_works" "_are_works" (defArgs (topS 30)) (defBody (topS 30)) (defScope (topS 30)) .none kV4 dc4 pm4 an4 cd4 ct4), sl4⟩)
    (c4 : PySem.W.codeIn K cd4 "_are_works" = true)
    (k4 : PySem.W.keepIn K (.ref f4) = true)
    (a5 : PySem.W.nsIn K mainGlobals "are_worths" = some (some (.ref f5)))
    (l5 : K.lookup f5 = some ⟨oc5, od5, .func (PySem.W.fnOf "are_worths" "are_worths" (defArgs (topS 29)) (defBody (topS 29)) (defScope (topS 29)) .none kV5 dc5 pm5 an5 cd5 ct5), sl5⟩)
    (c5 : PySem.W.codeIn K cd5 "are_worths" = true)
    (k5 : PySem.W.keepIn K (.ref f5) = true)
    (a6 : PySem.W.findIn K (.ref C_Job) "__init__" = some (some (.ref f6)))
    (i6 : PySem.W.isFn K (.ref f6) = true)
    (l6 : K.lookup f6 = some ⟨oc6, od6, .func (PySem.W.fnOf "__init__" "Job.__init__" (defArgs (inClass (topS 28) 0)) (defBody (inClass (topS 28) 0)) (defScope (inClass (topS 28) 0)) .none kV6 dc6 pm6 an6 cd6 ct6), sl6⟩)
    (c6 : PySem.W.codeIn K cd6 "Job.__init__" = true)
    (k6 : PySem.W.keepIn K (.ref f6) = true)
    (a7 : PySem.W.findIn K (.ref C_Job) "__len__" = some (some (.ref f7)))
    (i7 : PySem.W.isFn K (.ref f7) = true)
    (l7 : K.lookup f7 = some ⟨oc7, od7, .func (PySem.W.fnOf "__len__" "Job.__len__" (defArgs (inClass (topS 28) 3)) (defBody (inClass (topS 28) 3)) (defScope (inClass (topS 28) 3)) .none kV7 dc7 pm7 an7 cd7 ct7), sl7⟩)
    (c7 : PySem.W.codeIn K cd7 "Job.__len__" = true)
    (k7 : PySem.W.keepIn K (.ref f7) = true)
    (a8 : PySem.W.nsIn K mainGlobals "is_fraction" = some (some (.ref f8)))
    (l8 : K.lookup f8 = some ⟨oc8, od8, .func (PySem.W.fnOf "is_fraction" "is_fraction" (defArgs (topS 10)) (defBody (topS 10)) (defScope (topS 10)) .none kV8 dc8 pm8 an8 cd8 ct8), sl8⟩)
    (c8 : PySem.W.codeIn K cd8 "is_fraction" = true)
    (k8 : PySem.W.keepIn K (.ref f8) = true)
    (a9 : PySem.W.nsIn K mainGlobals "is_amount" = some (some (.ref f9)))
    (l9 : K.lookup f9 = some ⟨oc9, od9, .func (PySem.W.fnOf "is_amount" "is_amount" (defArgs (topS 11)) (defBody (topS 11)) (defScope (topS 11)) .none kV9 dc9 pm9 an9 cd9 ct9), sl9⟩)
    (c9 : PySem.W.codeIn K cd9 "is_amount" = true)
    (k9 : PySem.W.keepIn K (.ref f9) = true)
    (a10 : PySem.W.nsIn K mainGlobals "is_less" = some (some (.ref f10)))
    (l10 : K.lookup f10 = some ⟨oc10, od10, .func (PySem.W.fnOf "is_less" "is_less" (defArgs (topS 19)) (defBody (topS 19)) (defScope (topS 19)) .none kV10 dc10 pm10 an10 cd10 ct10), sl10⟩)
    (c10 : PySem.W.codeIn K cd10 "is_less" = true)
    (k10 : PySem.W.keepIn K (.ref f10) = true)
    (a11 : PySem.W.nsIn K mainGlobals "_check_share" = some (some (.ref f11)))
    (l11 : K.lookup f11 = some ⟨oc11, od11, .func (PySem.W.fnOf "_check_share" "_check_share" (defArgs (topS 41)) (defBody (topS 41)) (defScope (topS 41)) .none kV11 dc11 pm11 an11 cd11 ct11), sl11⟩)
    (c11 : PySem.W.codeIn K cd11 "_check_share" = true)
    (k11 : PySem.W.keepIn K (.ref f11) = true)
    (p1_12 : PySem.W.findIn K (.ref C_Job) "works" = some (some (.ref p12)))
    (p4_12 : PySem.W.recIn K p12 "property" = some (.ref f12 :: rs12))
    (p2_12 : PySem.W.specialIn K (.ref p12) "__get__" = some (some (.builtin "property.__get__")))
    (p3_12 : PySem.W.takesIn K (.ref p12) = some true)
    (l12 : K.lookup f12 = some ⟨oc12, od12, .func (PySem.W.fnOf "works" "Job.works" (defArgs (inClass (topS 28) 2)) (defBody (inClass (topS 28) 2)) (defScope (inClass (topS 28) 2)) .none kV12 dc12 pm12 an12 cd12 ct12), sl12⟩)
    (c12 : PySem.W.codeIn K cd12 "Job.works" = true)
    (k12 : PySem.W.keepIn K (.ref f12) = true)
    (a13 : PySem.W.nsIn K mainGlobals "work_efforts" = some (some (.ref f13)))
    (l13 : K.lookup f13 = some ⟨oc13, od13, .func (PySem.W.fnOf "work_efforts" "work_efforts" (defArgs (topS 34)) (defBody (topS 34)) (defScope (topS 34)) .none kV13 dc13 pm13 an13 cd13 ct13), sl13⟩)
    (c13 : PySem.W.codeIn K cd13 "work_efforts" = true)
    (k13 : PySem.W.keepIn K (.ref f13) = true)
    (a14 : PySem.W.nsIn K mainGlobals "_effort" = some (some (.ref f14)))
    (l14 : K.lookup f14 = some ⟨oc14, od14, .func (PySem.W.fnOf "_effort" "_effort" (defArgs (topS 46)) (defBody (topS 46)) (defScope (topS 46)) .none kV14 dc14 pm14 an14 cd14 ct14), sl14⟩)
    (c14 : PySem.W.codeIn K cd14 "_effort" = true)
    (k14 : PySem.W.keepIn K (.ref f14) = true)
    (p1_15 : PySem.W.findIn K (.ref C_Job) "worths" = some (some (.ref p15)))
    (p4_15 : PySem.W.recIn K p15 "property" = some (.ref f15 :: rs15))
    (p2_15 : PySem.W.specialIn K (.ref p15) "__get__" = some (some (.builtin "property.__get__")))
    (p3_15 : PySem.W.takesIn K (.ref p15) = some true)
    (l15 : K.lookup f15 = some ⟨oc15, od15, .func (PySem.W.fnOf "worths" "Job.worths" (defArgs (inClass (topS 28) 1)) (defBody (inClass (topS 28) 1)) (defScope (inClass (topS 28) 1)) .none kV15 dc15 pm15 an15 cd15 ct15), sl15⟩)
    (c15 : PySem.W.codeIn K cd15 "Job.worths" = true)
    (k15 : PySem.W.keepIn K (.ref f15) = true)
    (a16 : PySem.W.nsIn K mainGlobals "ratio" = some (some (.ref f16)))
    (l16 : K.lookup f16 = some ⟨oc16, od16, .func (PySem.W.fnOf "ratio" "ratio" (defArgs (topS 12)) (defBody (topS 12)) (defScope (topS 12)) .none kV16 dc16 pm16 an16 cd16 ct16), sl16⟩)
    (c16 : PySem.W.codeIn K cd16 "ratio" = true)
    (k16 : PySem.W.keepIn K (.ref f16) = true)
    (a17 : PySem.W.nsIn K mainGlobals "times" = some (some (.ref f17)))
    (l17 : K.lookup f17 = some ⟨oc17, od17, .func (PySem.W.fnOf "times" "times" (defArgs (topS 16)) (defBody (topS 16)) (defScope (topS 16)) .none kV17 dc17 pm17 an17 cd17 ct17), sl17⟩)
    (c17 : PySem.W.codeIn K cd17 "times" = true)
    (k17 : PySem.W.keepIn K (.ref f17) = true)
    (a18 : PySem.W.nsIn K mainGlobals "plus" = some (some (.ref f18)))
    (l18 : K.lookup f18 = some ⟨oc18, od18, .func (PySem.W.fnOf "plus" "plus" (defArgs (topS 13)) (defBody (topS 13)) (defScope (topS 13)) .none kV18 dc18 pm18 an18 cd18 ct18), sl18⟩)
    (c18 : PySem.W.codeIn K cd18 "plus" = true)
    (k18 : PySem.W.keepIn K (.ref f18) = true)
    (a19 : PySem.W.nsIn K mainGlobals "total" = some (some (.ref f19)))
    (l19 : K.lookup f19 = some ⟨oc19, od19, .func (PySem.W.fnOf "total" "total" (defArgs (topS 20)) (defBody (topS 20)) (defScope (topS 20)) .none kV19 dc19 pm19 an19 cd19 ct19), sl19⟩)
    (c19 : PySem.W.codeIn K cd19 "total" = true)
    (k19 : PySem.W.keepIn K (.ref f19) = true)
    (a20 : PySem.W.nsIn K mainGlobals "weighted" = some (some (.ref f20)))
    (l20 : K.lookup f20 = some ⟨oc20, od20, .func (PySem.W.fnOf "weighted" "weighted" (defArgs (topS 21)) (defBody (topS 21)) (defScope (topS 21)) .none kV20 dc20 pm20 an20 cd20 ct20), sl20⟩)
    (c20 : PySem.W.codeIn K cd20 "weighted" = true)
    (k20 : PySem.W.keepIn K (.ref f20) = true)
    (a21 : PySem.W.nsIn K mainGlobals "work_chances" = some (some (.ref f21)))
    (l21 : K.lookup f21 = some ⟨oc21, od21, .func (PySem.W.fnOf "work_chances" "work_chances" (defArgs (topS 35)) (defBody (topS 35)) (defScope (topS 35)) .none kV21 dc21 pm21 an21 cd21 ct21), sl21⟩)
    (c21 : PySem.W.codeIn K cd21 "work_chances" = true)
    (k21 : PySem.W.keepIn K (.ref f21) = true)
    (a22 : PySem.W.nsIn K mainGlobals "average_worth" = some (some (.ref f22)))
    (l22 : K.lookup f22 = some ⟨oc22, od22, .func (PySem.W.fnOf "average_worth" "average_worth" (defArgs (topS 36)) (defBody (topS 36)) (defScope (topS 36)) .none kV22 dc22 pm22 an22 cd22 ct22), sl22⟩)
    (c22 : PySem.W.codeIn K cd22 "average_worth" = true)
    (k22 : PySem.W.keepIn K (.ref f22) = true)
    (a23 : PySem.W.nsIn K mainGlobals "_worth" = some (some (.ref f23)))
    (l23 : K.lookup f23 = some ⟨oc23, od23, .func (PySem.W.fnOf "_worth" "_worth" (defArgs (topS 45)) (defBody (topS 45)) (defScope (topS 45)) .none kV23 dc23 pm23 an23 cd23 ct23), sl23⟩)
    (c23 : PySem.W.codeIn K cd23 "_worth" = true)
    (k23 : PySem.W.keepIn K (.ref f23) = true)
    (a24 : PySem.W.nsIn K mainGlobals "negative" = some (some (.ref f24)))
    (l24 : K.lookup f24 = some ⟨oc24, od24, .func (PySem.W.fnOf "negative" "negative" (defArgs (topS 14)) (defBody (topS 14)) (defScope (topS 14)) .none kV24 dc24 pm24 an24 cd24 ct24), sl24⟩)
    (c24 : PySem.W.codeIn K cd24 "negative" = true)
    (k24 : PySem.W.keepIn K (.ref f24) = true)
    (a25 : PySem.W.nsIn K mainGlobals "minus" = some (some (.ref f25)))
    (l25 : K.lookup f25 = some ⟨oc25, od25, .func (PySem.W.fnOf "minus" "minus" (defArgs (topS 15)) (defBody (topS 15)) (defScope (topS 15)) .none kV25 dc25 pm25 an25 cd25 ct25), sl25⟩)
    (c25 : PySem.W.codeIn K cd25 "minus" = true)
    (k25 : PySem.W.keepIn K (.ref f25) = true)
    (a26 : PySem.W.nsIn K mainGlobals "_gain" = some (some (.ref f26)))
    (l26 : K.lookup f26 = some ⟨oc26, od26, .func (PySem.W.fnOf "_gain" "_gain" (defArgs (topS 44)) (defBody (topS 44)) (defScope (topS 44)) .none kV26 dc26 pm26 an26 cd26 ct26), sl26⟩)
    (c26 : PySem.W.codeIn K cd26 "_gain" = true)
    (k26 : PySem.W.keepIn K (.ref f26) = true)
    (a27 : PySem.W.nsIn K mainGlobals "_is_preferred" = some (some (.ref f27)))
    (l27 : K.lookup f27 = some ⟨oc27, od27, .func (PySem.W.fnOf "_is_preferred" "_is_preferred" (defArgs (topS 42)) (defBody (topS 42)) (defScope (topS 42)) .none kV27 dc27 pm27 an27 cd27 ct27), sl27⟩)
    (c27 : PySem.W.codeIn K cd27 "_is_preferred" = true)
    (k27 : PySem.W.keepIn K (.ref f27) = true)
    (a28 : PySem.W.nsIn K mainGlobals "check_job" = some (some (.ref f28)))
    (l28 : K.lookup f28 = some ⟨oc28, od28, .func (PySem.W.fnOf "check_job" "check_job" (defArgs (topS 33)) (defBody (topS 33)) (defScope (topS 33)) .none kV28 dc28 pm28 an28 cd28 ct28), sl28⟩)
    (c28 : PySem.W.codeIn K cd28 "check_job" = true)
    (k28 : PySem.W.keepIn K (.ref f28) = true)
    (a29 : PySem.W.nsIn K mainGlobals "done" = some (some (.ref f29)))
    (l29 : K.lookup f29 = some ⟨oc29, od29, .func (PySem.W.fnOf "done" "done" (defArgs (topS 39)) (defBody (topS 39)) (defScope (topS 39)) .none kV29 dc29 pm29 an29 cd29 ct29), sl29⟩)
    (c29 : PySem.W.codeIn K cd29 "done" = true)
    (k29 : PySem.W.keepIn K (.ref f29) = true)
    (a30 : PySem.W.nsIn K mainGlobals "_law_is_refused" = some (some (.ref f30)))
    (l30 : K.lookup f30 = some ⟨oc30, od30, .func (PySem.W.fnOf "_law_is_refused" "_law_is_refused" (defArgs (topS 61)) (defBody (topS 61)) (defScope (topS 61)) .none kV30 dc30 pm30 an30 cd30 ct30), sl30⟩)
    (c30 : PySem.W.codeIn K cd30 "_law_is_refused" = true)
    (k30 : PySem.W.keepIn K (.ref f30) = true)
    (a31 : PySem.W.nsIn K mainGlobals "_law_number" = some (some (.ref f31)))
    (l31 : K.lookup f31 = some ⟨oc31, od31, .func (PySem.W.fnOf "_law_number" "_law_number" (defArgs (topS 48)) (defBody (topS 48)) (defScope (topS 48)) .none kV31 dc31 pm31 an31 cd31 ct31), sl31⟩)
    (c31 : PySem.W.codeIn K cd31 "_law_number" = true)
    (k31 : PySem.W.keepIn K (.ref f31) = true)
    (a32 : PySem.W.nsIn K mainGlobals "_law_job" = some (some (.ref f32)))
    (l32 : K.lookup f32 = some ⟨oc32, od32, .func (PySem.W.fnOf "_law_job" "_law_job" (defArgs (topS 55)) (defBody (topS 55)) (defScope (topS 55)) .none kV32 dc32 pm32 an32 cd32 ct32), sl32⟩)
    (c32 : PySem.W.codeIn K cd32 "_law_job" = true)
    (k32 : PySem.W.keepIn K (.ref f32) = true)
    (a33 : PySem.W.nsIn K mainGlobals "_law_below" = some (some (.ref f33)))
    (l33 : K.lookup f33 = some ⟨oc33, od33, .func (PySem.W.fnOf "_law_below" "_law_below" (defArgs (topS 53)) (defBody (topS 53)) (defScope (topS 53)) .none kV33 dc33 pm33 an33 cd33 ct33), sl33⟩)
    (c33 : PySem.W.codeIn K cd33 "_law_below" = true)
    (k33 : PySem.W.keepIn K (.ref f33) = true)
    (a34 : PySem.W.nsIn K mainGlobals "_law_lowest" = some (some (.ref f34)))
    (l34 : K.lookup f34 = some ⟨oc34, od34, .func (PySem.W.fnOf "_law_lowest" "_law_lowest" (defArgs (topS 49)) (defBody (topS 49)) (defScope (topS 49)) .none kV34 dc34 pm34 an34 cd34 ct34), sl34⟩)
    (c34 : PySem.W.codeIn K cd34 "_law_lowest" = true)
    (k34 : PySem.W.keepIn K (.ref f34) = true)
    (a35 : PySem.W.nsIn K mainGlobals "_law_less" = some (some (.ref f35)))
    (l35 : K.lookup f35 = some ⟨oc35, od35, .func (PySem.W.fnOf "_law_less" "_law_less" (defArgs (topS 51)) (defBody (topS 51)) (defScope (topS 51)) .none kV35 dc35 pm35 an35 cd35 ct35), sl35⟩)
    (c35 : PySem.W.codeIn K cd35 "_law_less" = true)
    (k35 : PySem.W.keepIn K (.ref f35) = true)
    (a36 : PySem.W.nsIn K mainGlobals "_law_product" = some (some (.ref f36)))
    (l36 : K.lookup f36 = some ⟨oc36, od36, .func (PySem.W.fnOf "_law_product" "_law_product" (defArgs (topS 52)) (defBody (topS 52)) (defScope (topS 52)) .none kV36 dc36 pm36 an36 cd36 ct36), sl36⟩)
    (c36 : PySem.W.codeIn K cd36 "_law_product" = true)
    (k36 : PySem.W.keepIn K (.ref f36) = true)
    (a37 : PySem.W.nsIn K mainGlobals "_law_chances" = some (some (.ref f37)))
    (l37 : K.lookup f37 = some ⟨oc37, od37, .func (PySem.W.fnOf "_law_chances" "_law_chances" (defArgs (topS 56)) (defBody (topS 56)) (defScope (topS 56)) .none kV37 dc37 pm37 an37 cd37 ct37), sl37⟩)
    (c37 : PySem.W.codeIn K cd37 "_law_chances" = true)
    (k37 : PySem.W.keepIn K (.ref f37) = true)
    (a38 : PySem.W.nsIn K mainGlobals "_law_sum" = some (some (.ref f38)))
    (l38 : K.lookup f38 = some ⟨oc38, od38, .func (PySem.W.fnOf "_law_sum" "_law_sum" (defArgs (topS 50)) (defBody (topS 50)) (defScope (topS 50)) .none kV38 dc38 pm38 an38 cd38 ct38), sl38⟩)
    (c38 : PySem.W.codeIn K cd38 "_law_sum" = true)
    (k38 : PySem.W.keepIn K (.ref f38) = true)
    (a39 : PySem.W.nsIn K mainGlobals "_law_dot" = some (some (.ref f39)))
    (l39 : K.lookup f39 = some ⟨oc39, od39, .func (PySem.W.fnOf "_law_dot" "_law_dot" (defArgs (topS 54)) (defBody (topS 54)) (defScope (topS 54)) .none kV39 dc39 pm39 an39 cd39 ct39), sl39⟩)
    (c39 : PySem.W.codeIn K cd39 "_law_dot" = true)
    (k39 : PySem.W.keepIn K (.ref f39) = true)
    (a40 : PySem.W.nsIn K mainGlobals "_law_worth" = some (some (.ref f40)))
    (l40 : K.lookup f40 = some ⟨oc40, od40, .func (PySem.W.fnOf "_law_worth" "_law_worth" (defArgs (topS 57)) (defBody (topS 57)) (defScope (topS 57)) .none kV40 dc40 pm40 an40 cd40 ct40), sl40⟩)
    (c40 : PySem.W.codeIn K cd40 "_law_worth" = true)
    (k40 : PySem.W.keepIn K (.ref f40) = true)
    (a41 : PySem.W.nsIn K mainGlobals "_law_done" = some (some (.ref f41)))
    (l41 : K.lookup f41 = some ⟨oc41, od41, .func (PySem.W.fnOf "_law_done" "_law_done" (defArgs (topS 58)) (defBody (topS 58)) (defScope (topS 58)) .none kV41 dc41 pm41 an41 cd41 ct41), sl41⟩)
    (c41 : PySem.W.codeIn K cd41 "_law_done" = true)
    (k41 : PySem.W.keepIn K (.ref f41) = true)
    (a42 : PySem.W.nsIn K mainGlobals "_law_spots" = some (some (.ref f42)))
    (l42 : K.lookup f42 = some ⟨oc42, od42, .func (PySem.W.fnOf "_law_spots" "_law_spots" (defArgs (topS 59)) (defBody (topS 59)) (defScope (topS 59)) .none kV42 dc42 pm42 an42 cd42 ct42), sl42⟩)
    (c42 : PySem.W.codeIn K cd42 "_law_spots" = true)
    (k42 : PySem.W.keepIn K (.ref f42) = true)
    (a43 : PySem.W.nsIn K mainGlobals "inverse" = some (some (.ref f43)))
    (l43 : K.lookup f43 = some ⟨oc43, od43, .func (PySem.W.fnOf "inverse" "inverse" (defArgs (topS 17)) (defBody (topS 17)) (defScope (topS 17)) .none kV43 dc43 pm43 an43 cd43 ct43), sl43⟩)
    (c43 : PySem.W.codeIn K cd43 "inverse" = true)
    (k43 : PySem.W.keepIn K (.ref f43) = true)
    (a44 : PySem.W.nsIn K mainGlobals "over" = some (some (.ref f44)))
    (l44 : K.lookup f44 = some ⟨oc44, od44, .func (PySem.W.fnOf "over" "over" (defArgs (topS 18)) (defBody (topS 18)) (defScope (topS 18)) .none kV44 dc44 pm44 an44 cd44 ct44), sl44⟩)
    (c44 : PySem.W.codeIn K cd44 "over" = true)
    (k44 : PySem.W.keepIn K (.ref f44) = true)
    (a45 : PySem.W.nsIn K mainGlobals "_next_share" = some (some (.ref f45)))
    (l45 : K.lookup f45 = some ⟨oc45, od45, .func (PySem.W.fnOf "_next_share" "_next_share" (defArgs (topS 43)) (defBody (topS 43)) (defScope (topS 43)) .none kV45 dc45 pm45 an45 cd45 ct45), sl45⟩)
    (c45 : PySem.W.codeIn K cd45 "_next_share" = true)
    (k45 : PySem.W.keepIn K (.ref f45) = true)
    (a46 : PySem.W.nsIn K mainGlobals "turns" = some (some (.ref f46)))
    (l46 : K.lookup f46 = some ⟨oc46, od46, .func (PySem.W.fnOf "turns" "turns" (defArgs (topS 38)) (defBody (topS 38)) (defScope (topS 38)) .none kV46 dc46 pm46 an46 cd46 ct46), sl46⟩)
    (c46 : PySem.W.codeIn K cd46 "turns" = true)
    (k46 : PySem.W.keepIn K (.ref f46) = true)
    (a47 : PySem.W.nsIn K mainGlobals "best_share" = some (some (.ref f47)))
    (l47 : K.lookup f47 = some ⟨oc47, od47, .func (PySem.W.fnOf "best_share" "best_share" (defArgs (topS 40)) (defBody (topS 40)) (defScope (topS 40)) .none kV47 dc47 pm47 an47 cd47 ct47), sl47⟩)
    (c47 : PySem.W.codeIn K cd47 "best_share" = true)
    (k47 : PySem.W.keepIn K (.ref f47) = true)
    (a48 : PySem.W.nsIn K mainGlobals "_law_job_right" = some (some (.ref f48)))
    (l48 : K.lookup f48 = some ⟨oc48, od48, .func (PySem.W.fnOf "_law_job_right" "_law_job_right" (defArgs (topS 60)) (defBody (topS 60)) (defScope (topS 60)) .none kV48 dc48 pm48 an48 cd48 ct48), sl48⟩)
    (c48 : PySem.W.codeIn K cd48 "_law_job_right" = true)
    (k48 : PySem.W.keepIn K (.ref f48) = true)
    (a49 : PySem.W.nsIn K mainGlobals "_law_all_right" = some (some (.ref f49)))
    (l49 : K.lookup f49 = some ⟨oc49, od49, .func (PySem.W.fnOf "_law_all_right" "_law_all_right" (defArgs (topS 62)) (defBody (topS 62)) (defScope (topS 62)) .none kV49 dc49 pm49 an49 cd49 ct49), sl49⟩)
    (c49 : PySem.W.codeIn K cd49 "_law_all_right" = true)
    (k49 : PySem.W.keepIn K (.ref f49) = true)
    (pg_Job : PySem.W.plainGet K C_Job Str.empty = true)
    (hd_Job : PySem.W.hasDictIn K C_Job = true)
    (po_Job : PySem.W.plainOver K C_Job = true)
    (sa_Job : PySem.W.findIn K (.ref C_Job) "__setattr__" = some (some (.builtin "object.__setattr__")))
    (k1_Job : PySem.W.findIn K (.ref C_Job) "__class__" = some (some (.builtin "object.__class__")))
    (k4_Job : PySem.W.mroIn K C_Job (.type "object") = some true)
    (mk_Job : PySem.W.makesIn K C_Job = true)
    (kc_Job : PySem.W.keepIn K (.ref C_Job) = true)
    (na_Job_worths : PySem.W.findIn K (.ref C_Job) "_worths" = some none)
    (na_Job_works : PySem.W.findIn K (.ref C_Job) "_works" = some none)
    (ax_BadShare : PySem.W.nsIn K mainGlobals "BadShare" = some (some (.ref C_BadShare)))
    (xe_BadShare : PySem.W.excIn K C_BadShare [.type "ValueError", .type "Exception", .type "BaseException", .type "object"] "ValueError.__new__" = true)
    (ke_BadShare : PySem.W.keepIn K (.ref C_BadShare) = true)
    (be_BadShare : PySem.W.subIn K (.ref C_BadShare) (.type "BaseException") = some true)
    (te_BadShare : PySem.W.typeIn K (.ref C_BadShare) = some (.type "type"))
    (xi_BadShare : PySem.W.isClsIn K C_BadShare = true)
    (xs_BadShare : PySem.W.subIn K (.ref C_BadShare) (.ref C_BadShare) = some true)
    (z_abs : PySem.W.nsIn K mainGlobals "abs" = some none)
    (z_all : PySem.W.nsIn K mainGlobals "all" = some none)
    (z_bool : PySem.W.nsIn K mainGlobals "bool" = some none)
    (z_enumerate : PySem.W.nsIn K mainGlobals "enumerate" = some none)
    (z_int : PySem.W.nsIn K mainGlobals "int" = some none)
    (z_isinstance : PySem.W.nsIn K mainGlobals "isinstance" = some none)
    (z_len : PySem.W.nsIn K mainGlobals "len" = some none)
    (z_list : PySem.W.nsIn K mainGlobals "list" = some none)
    (z_range : PySem.W.nsIn K mainGlobals "range" = some none)
    (z_sum : PySem.W.nsIn K mainGlobals "sum" = some none)
    (z_tuple : PySem.W.nsIn K mainGlobals "tuple" = some none)
    (z_zip : PySem.W.nsIn K mainGlobals "zip" = some none)
    (m_FEWEST : PySem.W.nsIn K mainGlobals "FEWEST" = some (some (.int 2 t_FEWEST)))
    (m_MOST : PySem.W.nsIn K mainGlobals "MOST" = some (some (.int 4 t_MOST)))
    (m_MOST_EFFORT : PySem.W.nsIn K mainGlobals "MOST_EFFORT" = some (some (.int 9 t_MOST_EFFORT)))
    (m_MOST_PART : PySem.W.nsIn K mainGlobals "MOST_PART" = some (some (.int 6 t_MOST_PART)))
    (m_MOST_WORTH : PySem.W.nsIn K mainGlobals "MOST_WORTH" = some (some (.int 20 t_MOST_WORTH)))
    (m_ONE : PySem.W.nsIn K mainGlobals "ONE" = some (some (.ref a_ONE)))
    (l_ONE : K.lookup a_ONE = some ⟨.type "tuple", dd_ONE, .seq #[.int 1 u_ONE_0, .int 1 u_ONE_1] nn_ONE, ss_ONE⟩)
    (m_ZERO : PySem.W.nsIn K mainGlobals "ZERO" = some (some (.ref a_ZERO)))
    (l_ZERO : K.lookup a_ZERO = some ⟨.type "tuple", dd_ZERO, .seq #[.int 0 u_ZERO_0, .int 1 u_ZERO_1] nn_ZERO, ss_ZERO⟩)
    (m_gcd : PySem.W.nsIn K mainGlobals "gcd" = some (some (.builtin "math.gcd")))
    (kk2 : PySem.W.specialIn K (.builtin "object.__class__") "__get__" = some (some (.builtin "getset_descriptor.__get__")))
    (kk3 : PySem.W.takesIn K (.builtin "object.__class__") = some true)
    (aP : PySem.W.nsIn K mainGlobals "PayError" = some (some (.ref CP)))
    (al : PySem.W.nsIn K mainGlobals "law" = some (some (.ref fl)))
    (ll : K.lookup fl = some ⟨ocl, odl, .func (PySem.W.fnOf "law" "law" (defArgs s_law) (defBody s_law) (defScope s_law) .none kVl dcl pml anl cdl ctl), sll⟩)
    (cl : PySem.W.codeIn K cdl "law" = true)
    (kl : PySem.W.keepIn K (.ref fl) = true) :
    ∃ fd : FuncData, (∀ (s : Shared) (v : Value), BindsTo s fd ⟨[v], []⟩ [("script", v)]) ∧ ∀ base : Heap, K.In base → base.Ns mainGlobals mg → FnOk l.prog w K mg base CX0 14 fa fd ["script"] (spLaw K) := by
  have e := hfa.symm.trans (PySem.W.mg_of X G al)
  cases e
  have F0 := fun_mk (st := topS 8) l0 c0 k0
  have F1 := fun_mk (st := topS 9) l1 c1 k1
  have F2 := fun_mk (st := topS 32) l2 c2 k2
  have F3 := fun_mk (st := topS 31) l3 c3 k3
  have F4 := fun_mk (st := topS 30) l4 c4 k4
  have F5 := fun_mk (st := topS 29) l5 c5 k5
  have F6 := fun_mk (st := inClass (topS 28) 0) l6 c6 k6
  have F7 := fun_mk (st := inClass (topS 28) 3) l7 c7 k7
  have F8 := fun_mk (st := topS 10) l8 c8 k8
  have F9 := fun_mk (st := topS 11) l9 c9 k9
  have F10 := fun_mk (st := topS 19) l10 c10 k10
  have F11 := fun_mk (st := topS 41) l11 c11 k11
  have F12 := fun_mk (st := inClass (topS 28) 2) l12 c12 k12
  have F13 := fun_mk (st := topS 34) l13 c13 k13
  have F14 := fun_mk (st := topS 46) l14 c14 k14
  have F15 := fun_mk (st := inClass (topS 28) 1) l15 c15 k15
  have F16 := fun_mk (st := topS 12) l16 c16 k16
  have F17 := fun_mk (st := topS 16) l17 c17 k17
  have F18 := fun_mk (st := topS 13) l18 c18 k18
  have F19 := fun_mk (st := topS 20) l19 c19 k19
  have F20 := fun_mk (st := topS 21) l20 c20 k20
  have F21 := fun_mk (st := topS 35) l21 c21 k21
  have F22 := fun_mk (st := topS 36) l22 c22 k22
  have F23 := fun_mk (st := topS 45) l23 c23 k23
  have F24 := fun_mk (st := topS 14) l24 c24 k24
  have F25 := fun_mk (st := topS 15) l25 c25 k25
  have F26 := fun_mk (st := topS 44) l26 c26 k26
  have F27 := fun_mk (st := topS 42) l27 c27 k27
  have F28 := fun_mk (st := topS 33) l28 c28 k28
  have F29 := fun_mk (st := topS 39) l29 c29 k29
  have F30 := fun_mk (st := topS 61) l30 c30 k30
  have F31 := fun_mk (st := topS 48) l31 c31 k31
  have F32 := fun_mk (st := topS 55) l32 c32 k32
  have F33 := fun_mk (st := topS 53) l33 c33 k33
  have F34 := fun_mk (st := topS 49) l34 c34 k34
  have F35 := fun_mk (st := topS 51) l35 c35 k35
  have F36 := fun_mk (st := topS 52) l36 c36 k36
  have F37 := fun_mk (st := topS 56) l37 c37 k37
  have F38 := fun_mk (st := topS 50) l38 c38 k38
  have F39 := fun_mk (st := topS 54) l39 c39 k39
  have F40 := fun_mk (st := topS 57) l40 c40 k40
  have F41 := fun_mk (st := topS 58) l41 c41 k41
  have F42 := fun_mk (st := topS 59) l42 c42 k42
  have F43 := fun_mk (st := topS 17) l43 c43 k43
  have F44 := fun_mk (st := topS 18) l44 c44 k44
  have F45 := fun_mk (st := topS 43) l45 c45 k45
  have F46 := fun_mk (st := topS 38) l46 c46 k46
  have F47 := fun_mk (st := topS 40) l47 c47 k47
  have F48 := fun_mk (st := topS 60) l48 c48 k48
  have F49 := fun_mk (st := topS 62) l49 c49 k49
  have Fl := fun_mk (st := s_law) ll cl kl
  letI : CT := ctOf C_Job C_BadShare
  have T : Txt K mg := {
    cl_Job := ⟨pg_Job, hd_Job, po_Job, sa_Job⟩,
    mc_Job := PySem.W.mg_of X G aC_Job,
    na_Job_worths := na_Job_worths,
    na_Job_works := na_Job_works,
    f_is_integer := f0,
    d_is_integer := _,
    fun_is_integer := F0,
    b_is_integer := F0.binds (ps := ["thing"]) fun _ _ _ _ _ _ us hl => match us, hl with | [_], _ => rfl,
    m_is_integer := PySem.W.mg_of X G a0,
    f_is_integer_within := f1,
    d_is_integer_within := _,
    fun_is_integer_within := F1,
    b_is_integer_within := F1.binds (ps := ["thing", "least", "most"]) fun _ _ _ _ _ _ us hl => match us, hl with | [_, _, _], _ => rfl,
    m_is_integer_within := PySem.W.mg_of X G a1,
    f_u_are_parts := f2,
    d_u_are_parts := _,
    fun_u_are_parts := F2,
    b_u_are_parts := F2.binds (ps := ["parts", "outcomes"]) fun _ _ _ _ _ _ us hl => match us, hl with | [_, _], _ => rfl,
    m_u_are_parts := PySem.W.mg_of X G a2,
    f_u_is_work := f3,
    d_u_is_work := _,
    fun_u_is_work := F3,
    b_u_is_work := F3.binds (ps := ["work", "outcomes"]) fun _ _ _ _ _ _ us hl => match us, hl with | [_, _], _ => rfl,
    m_u_is_work := PySem.W.mg_of X G a3,
    f_u_are_works := f4,
    d_u_are_works := _,
    fun_u_are_works := F4,
    b_u_are_works := F4.binds (ps := ["works", "outcomes"]) fun _ _ _ _ _ _ us hl => match us, hl with | [_, _], _ => rfl,
    m_u_are_works := PySem.W.mg_of X G a4,
    f_u_are_worths := f5,
    d_u_are_worths := _,
    fun_u_are_worths := F5,
    b_u_are_worths := F5.binds (ps := ["worths"]) fun _ _ _ _ _ _ us hl => match us, hl with | [_], _ => rfl,
    m_u_are_worths := PySem.W.mg_of X G a5,
    f_JobD_initD := f6,
    d_JobD_initD := _,
    fun_JobD_initD := F6,
    b_JobD_initD := F6.binds (ps := ["self", "worths", "works"]) fun _ _ _ _ _ _ us hl => match us, hl with | [_, _, _], _ => rfl,
    f_JobD_lenD := f7,
    d_JobD_lenD := _,
    fun_JobD_lenD := F7,
    b_JobD_lenD := F7.binds (ps := ["self"]) fun _ _ _ _ _ _ us hl => match us, hl with | [_], _ => rfl,
    me_JobD_lenD := ⟨a7, i7, k7⟩,
    f_is_fraction := f8,
    d_is_fraction := _,
    fun_is_fraction := F8,
    b_is_fraction := F8.binds (ps := ["thing"]) fun _ _ _ _ _ _ us hl => match us, hl with | [_], _ => rfl,
    m_is_fraction := PySem.W.mg_of X G a8,
    f_is_amount := f9,
    d_is_amount := _,
    fun_is_amount := F9,
    b_is_amount := F9.binds (ps := ["thing"]) fun _ _ _ _ _ _ us hl => match us, hl with | [_], _ => rfl,
    m_is_amount := PySem.W.mg_of X G a9,
    f_is_less := f10,
    d_is_less := _,
    fun_is_less := F10,
    b_is_less := F10.binds (ps := ["one", "other"]) fun _ _ _ _ _ _ us hl => match us, hl with | [_, _], _ => rfl,
    m_is_less := PySem.W.mg_of X G a10,
    f_u_check_share := f11,
    d_u_check_share := _,
    fun_u_check_share := F11,
    b_u_check_share := F11.binds (ps := ["share"]) fun _ _ _ _ _ _ us hl => match us, hl with | [_], _ => rfl,
    m_u_check_share := PySem.W.mg_of X G a11,
    f_Job_works := f12,
    d_Job_works := _,
    fun_Job_works := F12,
    b_Job_works := F12.binds (ps := ["self"]) fun _ _ _ _ _ _ us hl => match us, hl with | [_], _ => rfl,
    p_Job_works := p12,
    pr_Job_works := ⟨p1_12, p2_12, p3_12, rs12, p4_12⟩,
    f_work_efforts := f13,
    d_work_efforts := _,
    fun_work_efforts := F13,
    b_work_efforts := F13.binds (ps := ["job"]) fun _ _ _ _ _ _ us hl => match us, hl with | [_], _ => rfl,
    m_work_efforts := PySem.W.mg_of X G a13,
    f_u_effort := f14,
    d_u_effort := _,
    fun_u_effort := F14,
    b_u_effort := F14.binds (ps := ["job", "work"]) fun _ _ _ _ _ _ us hl => match us, hl with | [_, _], _ => rfl,
    m_u_effort := PySem.W.mg_of X G a14,
    f_Job_worths := f15,
    d_Job_worths := _,
    fun_Job_worths := F15,
    b_Job_worths := F15.binds (ps := ["self"]) fun _ _ _ _ _ _ us hl => match us, hl with | [_], _ => rfl,
    p_Job_worths := p15,
    pr_Job_worths := ⟨p1_15, p2_15, p3_15, rs15, p4_15⟩,
    f_ratio := f16,
    d_ratio := _,
    fun_ratio := F16,
    b_ratio := F16.binds (ps := ["top", "bottom"]) fun _ _ _ _ _ _ us hl => match us, hl with | [_, _], _ => rfl,
    m_ratio := PySem.W.mg_of X G a16,
    f_times := f17,
    d_times := _,
    fun_times := F17,
    b_times := F17.binds (ps := ["one", "other"]) fun _ _ _ _ _ _ us hl => match us, hl with | [_, _], _ => rfl,
    m_times := PySem.W.mg_of X G a17,
    f_plus := f18,
    d_plus := _,
    fun_plus := F18,
    b_plus := F18.binds (ps := ["one", "other"]) fun _ _ _ _ _ _ us hl => match us, hl with | [_, _], _ => rfl,
    m_plus := PySem.W.mg_of X G a18,
    f_total := f19,
    d_total := _,
    fun_total := F19,
    b_total := F19.binds (ps := ["amounts"]) fun _ _ _ _ _ _ us hl => match us, hl with | [_], _ => rfl,
    m_total := PySem.W.mg_of X G a19,
    f_weighted := f20,
    d_weighted := _,
    fun_weighted := F20,
    b_weighted := F20.binds (ps := ["weights", "amounts"]) fun _ _ _ _ _ _ us hl => match us, hl with | [_, _], _ => rfl,
    m_weighted := PySem.W.mg_of X G a20,
    f_work_chances := f21,
    d_work_chances := _,
    fun_work_chances := F21,
    b_work_chances := F21.binds (ps := ["job", "work"]) fun _ _ _ _ _ _ us hl => match us, hl with | [_, _], _ => rfl,
    m_work_chances := PySem.W.mg_of X G a21,
    f_average_worth := f22,
    d_average_worth := _,
    fun_average_worth := F22,
    b_average_worth := F22.binds (ps := ["job", "work"]) fun _ _ _ _ _ _ us hl => match us, hl with | [_, _], _ => rfl,
    m_average_worth := PySem.W.mg_of X G a22,
    f_u_worth := f23,
    d_u_worth := _,
    fun_u_worth := F23,
    b_u_worth := F23.binds (ps := ["job", "work"]) fun _ _ _ _ _ _ us hl => match us, hl with | [_, _], _ => rfl,
    m_u_worth := PySem.W.mg_of X G a23,
    f_negative := f24,
    d_negative := _,
    fun_negative := F24,
    b_negative := F24.binds (ps := ["one"]) fun _ _ _ _ _ _ us hl => match us, hl with | [_], _ => rfl,
    m_negative := PySem.W.mg_of X G a24,
    f_minus := f25,
    d_minus := _,
    fun_minus := F25,
    b_minus := F25.binds (ps := ["one", "other"]) fun _ _ _ _ _ _ us hl => match us, hl with | [_, _], _ => rfl,
    m_minus := PySem.W.mg_of X G a25,
    f_u_gain := f26,
    d_u_gain := _,
    fun_u_gain := F26,
    b_u_gain := F26.binds (ps := ["job", "share", "work"]) fun _ _ _ _ _ _ us hl => match us, hl with | [_, _, _], _ => rfl,
    m_u_gain := PySem.W.mg_of X G a26,
    f_u_is_preferred := f27,
    d_u_is_preferred := _,
    fun_u_is_preferred := F27,
    b_u_is_preferred := F27.binds (ps := ["job", "share", "work", "other"]) fun _ _ _ _ _ _ us hl => match us, hl with | [_, _, _, _], _ => rfl,
    m_u_is_preferred := PySem.W.mg_of X G a27,
    f_check_job := f28,
    d_check_job := _,
    fun_check_job := F28,
    b_check_job := F28.binds (ps := ["job"]) fun _ _ _ _ _ _ us hl => match us, hl with | [_], _ => rfl,
    m_check_job := PySem.W.mg_of X G a28,
    f_done := f29,
    d_done := _,
    fun_done := F29,
    b_done := F29.binds (ps := ["job", "share"]) fun _ _ _ _ _ _ us hl => match us, hl with | [_, _], _ => rfl,
    m_done := PySem.W.mg_of X G a29,
    f_u_law_is_refused := f30,
    d_u_law_is_refused := _,
    fun_u_law_is_refused := F30,
    b_u_law_is_refused := F30.binds (ps := ["job", "share"]) fun _ _ _ _ _ _ us hl => match us, hl with | [_, _], _ => rfl,
    m_u_law_is_refused := PySem.W.mg_of X G a30,
    f_u_law_number := f31,
    d_u_law_number := _,
    fun_u_law_number := F31,
    b_u_law_number := F31.binds (ps := ["script", "index"]) fun _ _ _ _ _ _ us hl => match us, hl with | [_, _], _ => rfl,
    m_u_law_number := PySem.W.mg_of X G a31,
    f_u_law_job := f32,
    d_u_law_job := _,
    fun_u_law_job := F32,
    b_u_law_job := F32.binds (ps := ["script", "index"]) fun _ _ _ _ _ _ us hl => match us, hl with | [_, _], _ => rfl,
    m_u_law_job := PySem.W.mg_of X G a32,
    f_u_law_below := f33,
    d_u_law_below := _,
    fun_u_law_below := F33,
    b_u_law_below := F33.binds (ps := ["one", "other"]) fun _ _ _ _ _ _ us hl => match us, hl with | [_, _], _ => rfl,
    m_u_law_below := PySem.W.mg_of X G a33,
    f_u_law_lowest := f34,
    d_u_law_lowest := _,
    fun_u_law_lowest := F34,
    b_u_law_lowest := F34.binds (ps := ["top", "bottom"]) fun _ _ _ _ _ _ us hl => match us, hl with | [_, _], _ => rfl,
    m_u_law_lowest := PySem.W.mg_of X G a34,
    f_u_law_less := f35,
    d_u_law_less := _,
    fun_u_law_less := F35,
    b_u_law_less := F35.binds (ps := ["one", "other"]) fun _ _ _ _ _ _ us hl => match us, hl with | [_, _], _ => rfl,
    m_u_law_less := PySem.W.mg_of X G a35,
    f_u_law_product := f36,
    d_u_law_product := _,
    fun_u_law_product := F36,
    b_u_law_product := F36.binds (ps := ["one", "other"]) fun _ _ _ _ _ _ us hl => match us, hl with | [_, _], _ => rfl,
    m_u_law_product := PySem.W.mg_of X G a36,
    f_u_law_chances := f37,
    d_u_law_chances := _,
    fun_u_law_chances := F37,
    b_u_law_chances := F37.binds (ps := ["pack", "work"]) fun _ _ _ _ _ _ us hl => match us, hl with | [_, _], _ => rfl,
    m_u_law_chances := PySem.W.mg_of X G a37,
    f_u_law_sum := f38,
    d_u_law_sum := _,
    fun_u_law_sum := F38,
    b_u_law_sum := F38.binds (ps := ["one", "other"]) fun _ _ _ _ _ _ us hl => match us, hl with | [_, _], _ => rfl,
    m_u_law_sum := PySem.W.mg_of X G a38,
    f_u_law_dot := f39,
    d_u_law_dot := _,
    fun_u_law_dot := F39,
    b_u_law_dot := F39.binds (ps := ["row", "other"]) fun _ _ _ _ _ _ us hl => match us, hl with | [_, _], _ => rfl,
    m_u_law_dot := PySem.W.mg_of X G a39,
    f_u_law_worth := f40,
    d_u_law_worth := _,
    fun_u_law_worth := F40,
    b_u_law_worth := F40.binds (ps := ["pack", "work"]) fun _ _ _ _ _ _ us hl => match us, hl with | [_, _], _ => rfl,
    m_u_law_worth := PySem.W.mg_of X G a40,
    f_u_law_done := f41,
    d_u_law_done := _,
    fun_u_law_done := F41,
    b_u_law_done := F41.binds (ps := ["pack", "share"]) fun _ _ _ _ _ _ us hl => match us, hl with | [_, _], _ => rfl,
    m_u_law_done := PySem.W.mg_of X G a41,
    f_u_law_spots := f42,
    d_u_law_spots := _,
    fun_u_law_spots := F42,
    b_u_law_spots := F42.binds (ps := ["pack"]) fun _ _ _ _ _ _ us hl => match us, hl with | [_], _ => rfl,
    m_u_law_spots := PySem.W.mg_of X G a42,
    f_inverse := f43,
    d_inverse := _,
    fun_inverse := F43,
    b_inverse := F43.binds (ps := ["one"]) fun _ _ _ _ _ _ us hl => match us, hl with | [_], _ => rfl,
    m_inverse := PySem.W.mg_of X G a43,
    f_over := f44,
    d_over := _,
    fun_over := F44,
    b_over := F44.binds (ps := ["one", "other"]) fun _ _ _ _ _ _ us hl => match us, hl with | [_, _], _ => rfl,
    m_over := PySem.W.mg_of X G a44,
    f_u_next_share := f45,
    d_u_next_share := _,
    fun_u_next_share := F45,
    b_u_next_share := F45.binds (ps := ["job", "work"]) fun _ _ _ _ _ _ us hl => match us, hl with | [_, _], _ => rfl,
    m_u_next_share := PySem.W.mg_of X G a45,
    f_turns := f46,
    d_turns := _,
    fun_turns := F46,
    b_turns := F46.binds (ps := ["job"]) fun _ _ _ _ _ _ us hl => match us, hl with | [_], _ => rfl,
    m_turns := PySem.W.mg_of X G a46,
    f_best_share := f47,
    d_best_share := _,
    fun_best_share := F47,
    b_best_share := F47.binds (ps := ["job"]) fun _ _ _ _ _ _ us hl => match us, hl with | [_], _ => rfl,
    m_best_share := PySem.W.mg_of X G a47,
    f_u_law_job_right := f48,
    d_u_law_job_right := _,
    fun_u_law_job_right := F48,
    b_u_law_job_right := F48.binds (ps := ["script", "index", "pack"]) fun _ _ _ _ _ _ us hl => match us, hl with | [_, _, _], _ => rfl,
    m_u_law_job_right := PySem.W.mg_of X G a48,
    f_u_law_all_right := f49,
    d_u_law_all_right := _,
    fun_u_law_all_right := F49,
    b_u_law_all_right := F49.binds (ps := ["script"]) fun _ _ _ _ _ _ us hl => match us, hl with | [_], _ => rfl,
    m_u_law_all_right := PySem.W.mg_of X G a49,
    mk_Job := ⟨mk_Job, a6, i6, kc_Job⟩,
    at_works := fun k hk => match k, hk with | 0, _ => ⟨⟨pg_Job, hd_Job, po_Job, sa_Job⟩, na_Job_works⟩ | k + 1, h => by simp [List.contains_cons] at h,
    at_worths := fun k hk => match k, hk with | 0, _ => ⟨⟨pg_Job, hd_Job, po_Job, sa_Job⟩, na_Job_worths⟩ | k + 1, h => by simp [List.contains_cons] at h,
    isa_Job := ⟨fun k hk => match k, hk with | 0, _ => ⟨⟨pg_Job, hd_Job, po_Job, sa_Job⟩, k1_Job, k4_Job, kit_self _ _⟩ | k + 1, h => by simp [List.contains_cons] at h, kk2, kk3⟩,
    ge_BadShare := PySem.W.mg_of X G ax_BadShare,
    xe_BadShare := xe_BadShare,
    ke_BadShare := ke_BadShare,
    be_BadShare := be_BadShare,
    te_BadShare := te_BadShare,
    xm_BadShare := fun k hk => match k, hk with | 0, h => nomatch h | 1, _ => exm_self be_BadShare xi_BadShare te_BadShare xs_BadShare | k + 2, h => by simp [List.contains_cons] at h,
    n_abs := PySem.W.mg_none_of X G z_abs,
    n_all := PySem.W.mg_none_of X G z_all,
    n_bool := PySem.W.mg_none_of X G z_bool,
    n_enumerate := PySem.W.mg_none_of X G z_enumerate,
    n_int := PySem.W.mg_none_of X G z_int,
    n_isinstance := PySem.W.mg_none_of X G z_isinstance,
    n_len := PySem.W.mg_none_of X G z_len,
    n_list := PySem.W.mg_none_of X G z_list,
    n_range := PySem.W.mg_none_of X G z_range,
    n_sum := PySem.W.mg_none_of X G z_sum,
    n_tuple := PySem.W.mg_none_of X G z_tuple,
    n_zip := PySem.W.mg_none_of X G z_zip,
    t_FEWEST := t_FEWEST,
    m_FEWEST := PySem.W.mg_of X G m_FEWEST,
    t_MOST := t_MOST,
    m_MOST := PySem.W.mg_of X G m_MOST,
    t_MOST_EFFORT := t_MOST_EFFORT,
    m_MOST_EFFORT := PySem.W.mg_of X G m_MOST_EFFORT,
    t_MOST_PART := t_MOST_PART,
    m_MOST_PART := PySem.W.mg_of X G m_MOST_PART,
    t_MOST_WORTH := t_MOST_WORTH,
    m_MOST_WORTH := PySem.W.mg_of X G m_MOST_WORTH,
    a_ONE := a_ONE,
    m_ONE := PySem.W.mg_of X G m_ONE,
    r_ONE := fun H => .tup (vs := [V.int 1, V.int 1]) (.inr ⟨_, _, _, l_ONE, rfl, rfl, (by show 2 ≤ sizeLine; decide), (.cons ⟨_, rfl⟩ (.cons ⟨_, rfl⟩ .nil))⟩) (.cons (.int 1) (.cons (.int 1) .nil)),
    a_ZERO := a_ZERO,
    m_ZERO := PySem.W.mg_of X G m_ZERO,
    r_ZERO := fun H => .tup (vs := [V.int 0, V.int 1]) (.inr ⟨_, _, _, l_ZERO, rfl, rfl, (by show 2 ≤ sizeLine; decide), (.cons ⟨_, rfl⟩ (.cons ⟨_, rfl⟩ .nil))⟩) (.cons (.int 0) (.cons (.int 1) .nil)),
    m_gcd := PySem.W.mg_of X G m_gcd }
  exact ⟨_, fun s v => .of_eq rfl, fun base _ _ => ok_law Fl T (PySem.W.mg_of X G aP) all_true⟩
theorem walk {l : PySem.W.OpenLaw} {q : Program} {loose : List Str} {XP : (Str → Option Value) → Heap → Prop} {YP : World → Heap → Prop} {d : DefRec} {K : Params → PySem.W.Frag} (hn : l.most = some 63) (hdf : d.params.defaults = [])
    (hY : ∀ (w : World) (h : Heap), YP w h → (K w.params).In h) (F : ∀ (w : World) (mg : Str → Option Value) (fa : Addr) (h : Heap), (K w.params).In h → h.Ns mainGlobals mg → mg d.name = some (.ref fa) →
      ∃ fd : FuncData, (∀ (s : Shared) (u : Value), BindsTo s fd ⟨[u], []⟩ [("script", u)]) ∧ ∀ base : Heap, (K w.params).In base → base.Ns mainGlobals mg → FnOk l.prog w (K w.params) mg base CX0 14 fa fd ["script"] (spLaw (K w.params))) :
    PySem.W.WalkO q loose XP YP l.row.toRowW d [] (fun f vs => PySem.call f vs) :=
  L2.walk_of (n := 63) (k := 14) (x := "script") (CX := fun _ => CX0) (sp := fun w => spLaw (K w.params)) hn (by decide) hdf ⟨rfl, by decide, by decide⟩ hY F (fun _ _ a ns hl _ hS => ⟨a, ns, rfl, hS, hl, fun _ => rfl⟩) fun _ _ _ _ _ z => z
end K04
open PySem PySem.W PyProof.Rows
set_option maxRecDepth 100000 in
set_option maxHeartbeats 0 in
theorem PySem.Challenge.cw_outcomepay_k04_whole_shares_holds : PySem.Challenge.rw_outcomepay_k04_whole_shares.Holds := by
  w_on; o_law; k_head; (case hw => w_witness2)
  k_fill
  refine K04.walk (l := PySem.Challenge.rw_outcomepay_k04_whole_shares) rfl rfl (fun w h Y => PySem.W.kIn_of Y) ?F
  case F =>
    intro w mg fa h KX G hmg
    refine' K04.all_mk KX G hmg ?aC_Job ?a0 ?l0 ?c0 ?k0 ?a1 ?l1 ?c1 ?k1 ?a2 ?l2 ?c2 ?k2 ?a3 ?l3 ?c3 ?k3 ?a4 ?l4 ?c4 ?k4 ?a5 ?l5 ?c5 ?k5 ?a6 ?i6 ?l6 ?c6 ?k6 ?a7 ?i7 ?l7 ?c7 ?k7 ?a8 ?l8 ?c8 ?k8 ?a9 ?l9 ?c9 ?k9 ?a10 ?l10 ?c10 ?k10 ?a11 ?l11 ?c11 ?k11 ?p1_12 ?p4_12 ?p2_12 ?p3_12 ?l12 ?c12 ?k12 ?a13 ?l13 ?c13 ?k13 ?a14 ?l14 ?c14 ?k14 ?p1_15 ?p4_15 ?p2_15 ?p3_15 ?l15 ?c15 ?k15 ?a16 ?l16 ?c16 ?k16 ?a17 ?l17 ?c17 ?k17 ?a18 ?l18 ?c18 ?k18 ?a19 ?l19 ?c19 ?k19 ?a20 ?l20 ?c20 ?k20 ?a21 ?l21 ?c21 ?k21 ?a22 ?l22 ?c22 ?k22 ?a23 ?l23 ?c23 ?k23 ?a24 ?l24 ?c24 ?k24 ?a25 ?l25 ?c25 ?k25 ?a26 ?l26 ?c26 ?k26 ?a27 ?l27 ?c27 ?k27 ?a28 ?l28 ?c28 ?k28 ?a29 ?l29 ?c29 ?k29 ?a30 ?l30 ?c30 ?k30 ?a31 ?l31 ?c31 ?k31 ?a32 ?l32 ?c32 ?k32 ?a33 ?l33 ?c33 ?k33 ?a34 ?l34 ?c34 ?k34 ?a35 ?l35 ?c35 ?k35 ?a36 ?l36 ?c36 ?k36 ?a37 ?l37 ?c37 ?k37 ?a38 ?l38 ?c38 ?k38 ?a39 ?l39 ?c39 ?k39 ?a40 ?l40 ?c40 ?k40 ?a41 ?l41 ?c41 ?k41 ?a42 ?l42 ?c42 ?k42 ?a43 ?l43 ?c43 ?k43 ?a44 ?l44 ?c44 ?k44 ?a45 ?l45 ?c45 ?k45 ?a46 ?l46 ?c46 ?k46 ?a47 ?l47 ?c47 ?k47 ?a48 ?l48 ?c48 ?k48 ?a49 ?l49 ?c49 ?k49 ?pg_Job ?hd_Job ?po_Job ?sa_Job ?k1_Job ?k4_Job ?mk_Job ?kc_Job ?na_Job_worths ?na_Job_works ?ax_BadShare ?xe_BadShare ?ke_BadShare ?be_BadShare ?te_BadShare ?xi_BadShare ?xs_BadShare ?z_abs ?z_all ?z_bool ?z_enumerate ?z_int ?z_isinstance ?z_len ?z_list ?z_range ?z_sum ?z_tuple ?z_zip ?m_FEWEST ?m_MOST ?m_MOST_EFFORT ?m_MOST_PART ?m_MOST_WORTH ?m_ONE ?l_ONE ?m_ZERO ?l_ZERO ?m_gcd ?kk2 ?kk3 ?aP ?al ?ll ?cl ?kl
    (case aC_Job => k_is)
    (case a0 => k_is)
    (case l0 => k_is)
    (case c0 => k_is)
    (case k0 => k_is)
    (case a1 => k_is)
    (case l1 => k_is)
    (case c1 => k_is)
    (case k1 => k_is)
    (case a2 => k_is)
    (case l2 => k_is)
    (case c2 => k_is)
    (case k2 => k_is)
    (case a3 => k_is)
    (case l3 => k_is)
    (case c3 => k_is)
    (case k3 => k_is)
    (case a4 => k_is)
    (case l4 => k_is)
    (case c4 => k_is)
    (case k4 => k_is)
    (case a5 => k_is)
    (case l5 => k_is)
    (case c5 => k_is)
    (case k5 => k_is)
    (case a6 => k_is)
    (case i6 => k_is)
    (case l6 => k_is)
    (case c6 => k_is)
    (case k6 => k_is)
    (case a7 => k_is)
    (case i7 => k_is)
    (case l7 => k_is)
    (case c7 => k_is)
    (case k7 => k_is)
    (case a8 => k_is)
    (case l8 => k_is)
    (case c8 => k_is)
    (case k8 => k_is)
    (case a9 => k_is)
    (case l9 => k_is)
    (case c9 => k_is)
    (case k9 => k_is)
    (case a10 => k_is)
    (case l10 => k_is)
    (case c10 => k_is)
    (case k10 => k_is)
    (case a11 => k_is)
    (case l11 => k_is)
    (case c11 => k_is)
    (case k11 => k_is)
    (case p1_12 => k_is)
    (case p4_12 => k_is)
    (case p2_12 => k_is)
    (case p3_12 => k_is)
    (case l12 => k_is)
    (case c12 => k_is)
    (case k12 => k_is)
    (case a13 => k_is)
    (case l13 => k_is)
    (case c13 => k_is)
    (case k13 => k_is)
    (case a14 => k_is)
    (case l14 => k_is)
    (case c14 => k_is)
    (case k14 => k_is)
    (case p1_15 => k_is)
    (case p4_15 => k_is)
    (case p2_15 => k_is)
    (case p3_15 => k_is)
    (case l15 => k_is)
    (case c15 => k_is)
    (case k15 => k_is)
    (case a16 => k_is)
    (case l16 => k_is)
    (case c16 => k_is)
    (case k16 => k_is)
    (case a17 => k_is)
    (case l17 => k_is)
    (case c17 => k_is)
    (case k17 => k_is)
    (case a18 => k_is)
    (case l18 => k_is)
    (case c18 => k_is)
    (case k18 => k_is)
    (case a19 => k_is)
    (case l19 => k_is)
    (case c19 => k_is)
    (case k19 => k_is)
    (case a20 => k_is)
    (case l20 => k_is)
    (case c20 => k_is)
    (case k20 => k_is)
    (case a21 => k_is)
    (case l21 => k_is)
    (case c21 => k_is)
    (case k21 => k_is)
    (case a22 => k_is)
    (case l22 => k_is)
    (case c22 => k_is)
    (case k22 => k_is)
    (case a23 => k_is)
    (case l23 => k_is)
    (case c23 => k_is)
    (case k23 => k_is)
    (case a24 => k_is)
    (case l24 => k_is)
    (case c24 => k_is)
    (case k24 => k_is)
    (case a25 => k_is)
    (case l25 => k_is)
    (case c25 => k_is)
    (case k25 => k_is)
    (case a26 => k_is)
    (case l26 => k_is)
    (case c26 => k_is)
    (case k26 => k_is)
    (case a27 => k_is)
    (case l27 => k_is)
    (case c27 => k_is)
    (case k27 => k_is)
    (case a28 => k_is)
    (case l28 => k_is)
    (case c28 => k_is)
    (case k28 => k_is)
    (case a29 => k_is)
    (case l29 => k_is)
    (case c29 => k_is)
    (case k29 => k_is)
    (case a30 => k_is)
    (case l30 => k_is)
    (case c30 => k_is)
    (case k30 => k_is)
    (case a31 => k_is)
    (case l31 => k_is)
    (case c31 => k_is)
    (case k31 => k_is)
    (case a32 => k_is)
    (case l32 => k_is)
    (case c32 => k_is)
    (case k32 => k_is)
    (case a33 => k_is)
    (case l33 => k_is)
    (case c33 => k_is)
    (case k33 => k_is)
    (case a34 => k_is)
    (case l34 => k_is)
    (case c34 => k_is)
    (case k34 => k_is)
    (case a35 => k_is)
    (case l35 => k_is)
    (case c35 => k_is)
    (case k35 => k_is)
    (case a36 => k_is)
    (case l36 => k_is)
    (case c36 => k_is)
    (case k36 => k_is)
    (case a37 => k_is)
    (case l37 => k_is)
    (case c37 => k_is)
    (case k37 => k_is)
    (case a38 => k_is)
    (case l38 => k_is)
    (case c38 => k_is)
    (case k38 => k_is)
    (case a39 => k_is)
    (case l39 => k_is)
    (case c39 => k_is)
    (case k39 => k_is)
    (case a40 => k_is)
    (case l40 => k_is)
    (case c40 => k_is)
    (case k40 => k_is)
    (case a41 => k_is)
    (case l41 => k_is)
    (case c41 => k_is)
    (case k41 => k_is)
    (case a42 => k_is)
    (case l42 => k_is)
    (case c42 => k_is)
    (case k42 => k_is)
    (case a43 => k_is)
    (case l43 => k_is)
    (case c43 => k_is)
    (case k43 => k_is)
    (case a44 => k_is)
    (case l44 => k_is)
    (case c44 => k_is)
    (case k44 => k_is)
    (case a45 => k_is)
    (case l45 => k_is)
    (case c45 => k_is)
    (case k45 => k_is)
    (case a46 => k_is)
    (case l46 => k_is)
    (case c46 => k_is)
    (case k46 => k_is)
    (case a47 => k_is)
    (case l47 => k_is)
    (case c47 => k_is)
    (case k47 => k_is)
    (case a48 => k_is)
    (case l48 => k_is)
    (case c48 => k_is)
    (case k48 => k_is)
    (case a49 => k_is)
    (case l49 => k_is)
    (case c49 => k_is)
    (case k49 => k_is)
    (case pg_Job => k_is)
    (case hd_Job => k_is)
    (case po_Job => k_is)
    (case sa_Job => k_is)
    (case k1_Job => k_is)
    (case k4_Job => k_is)
    (case mk_Job => k_is)
    (case kc_Job => k_is)
    (case na_Job_worths => k_is)
    (case na_Job_works => k_is)
    (case ax_BadShare => k_is)
    (case xe_BadShare => k_exc)
    (case ke_BadShare => k_is)
    (case be_BadShare => k_is)
    (case te_BadShare => k_is)
    (case xi_BadShare => k_is)
    (case xs_BadShare => k_is)
    (case z_abs => k_is)
    (case z_all => k_is)
    (case z_bool => k_is)
    (case z_enumerate => k_is)
    (case z_int => k_is)
    (case z_isinstance => k_is)
    (case z_len => k_is)
    (case z_list => k_is)
    (case z_range => k_is)
    (case z_sum => k_is)
    (case z_tuple => k_is)
    (case z_zip => k_is)
    (case m_FEWEST => k_is)
    (case m_MOST => k_is)
    (case m_MOST_EFFORT => k_is)
    (case m_MOST_PART => k_is)
    (case m_MOST_WORTH => k_is)
    (case m_ONE => k_is)
    (case l_ONE => k_is)
    (case m_ZERO => k_is)
    (case l_ZERO => k_is)
    (case m_gcd => k_is)
    (case kk2 => k_is)
    (case kk3 => k_is)
    (case aP => k_is)
    (case al => k_is)
    (case ll => k_is)
    (case cl => k_is)
    (case kl => k_is)

