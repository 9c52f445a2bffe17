import PyProof.Rows.All
import Wide.All
import OpenK.AllK
import Wide.FinOn
import HandS.Zip
import HandS.ForMost
import HandS.NoneIn
import KE.KeyNested
import HandS.Conv
import HandS.Wide
import HandS.IsInst
import HandS.Property
import HandS.Gcd
import HandS.TupMul
import KE.KTupSum
import HandS.Iter
import HandS.Defaults
import KE.KDictWalk
import KE.KDictDisplayH
import HandS.TupLen
import HandS.DictComp
import HandS.Style
import HandS.Deep
import HandS.DictSubView
import KE.KDictCopyH
import KE.KEqDict
import HandS.TryOnly
import HandS.WordsExc
import KE.GoesEnum
import PySem.Challenge.RW_outcomepay_k06_known
set_option Elab.async false
set_option linter.all false
set_option maxRecDepth 100000
set_option maxHeartbeats 4000000
/-! zip of two things, each of them a list or a tuple: b tells which -/
namespace DZ
open PySem PySem.Spec PyProof.Rows L2
section
variable {prog : Program} {w : World} {A : Around} {E : Value → Shared → Prop} {s : Shared}
/-- the iterator it over l, k items on; l holds xs -/
def SrcAt (b : Bool) (h : Heap) (it l : Addr) (k : Nat) (xs : Array Value) : Prop := match b with
  | true => h.IsTupleIter it l k ∧ h.IsTuple l xs
  | false => h.IsListIter it l k ∧ h.IsList l xs
theorem SrcAt.ext {b : Bool} {h h' : Heap} {it l c : Addr} {k : Nat} {xs : Array Value} (S : SrcAt b h it l k xs) (x : Heap.ExtBut c h h') (n1 : it ≠ c) (n2 : l ≠ c) : SrcAt b h' it l k xs := by
  cases b with
  | true => exact ⟨S.1.extBut x n1, S.2.extBut x n2⟩
  | false => exact ⟨S.1.extBut x n1, S.2.extBut x n2⟩
theorem SrcAt.obj {b : Bool} {h : Heap} {it l : Addr} {k : Nat} {xs : Array Value} (S : SrcAt b h it l k xs) : ∃ o v, h.get? it = some o ∧ o.data = .fields v := by
  cases b with
  | true => obtain ⟨⟨o, e, _, d⟩, _⟩ := S; exact ⟨o, _, e, d⟩
  | false => obtain ⟨⟨o, e, _, d⟩, _⟩ := S; exact ⟨o, _, e, d⟩
/-- the iterator alone -/
def ItAt (b : Bool) (h : Heap) (it l : Addr) (k : Nat) : Prop := match b with
  | true => h.IsTupleIter it l k
  | false => h.IsListIter it l k
theorem SrcAt.it {b : Bool} {h : Heap} {it l : Addr} {k : Nat} {xs : Array Value} (S : SrcAt b h it l k xs) : ItAt b h it l k := by
  cases b with
  | true => exact S.1
  | false => exact S.1
theorem ItAt.on {b : Bool} {h h' : Heap} {it l : Addr} {k : Nat} (S : ItAt b h it l k) (f : ∀ o, h.get? it = some o → h'.get? it = some o) : ItAt b h' it l k := by
  cases b with
  | true => exact Heap.IsTupleIter.at S f
  | false => exact Heap.IsListIter.at S f
theorem ItAt.obj {b : Bool} {h : Heap} {it l : Addr} {k : Nat} (S : ItAt b h it l k) : ∃ o v, h.get? it = some o ∧ o.data = .fields v := by
  cases b with
  | true => obtain ⟨o, e, _, d⟩ := S; exact ⟨o, _, e, d⟩
  | false => obtain ⟨o, e, _, d⟩ := S; exact ⟨o, _, e, d⟩
theorem next_item {b : Bool} {it l : Addr} {k : Nat} {xs : Array Value} {x : Value} {Q : Value → Shared → Prop} (S : SrcAt b s.heap it l k xs) (hx : xs[k]? = some x) (nl : l ≠ it)
    (h : ∀ h', SrcAt b h' it l (k + 1) xs → Heap.SameBut it s.heap h' → Q x { s with heap := h' }) : wpAny (model prog w) A (Builtin.SmallTypes.nextOf (.ref it)) Q E s := by
  cases b with
  | true => exact RZ.nextOf_tuple_item S.1 S.2 hx fun h' a c => h h' ⟨a, S.2.extBut c.extBut nl⟩ c
  | false => exact wpAny_nextOf_list_item S.1 S.2 hx fun h' a c => h h' ⟨a, S.2.extBut c.extBut nl⟩ c
theorem next_end {b : Bool} {it l : Addr} {k : Nat} {xs : Array Value} {Q : Value → Shared → Prop} (hh : A.handled = none) (S : SrcAt b s.heap it l k xs) (hx : xs[k]? = none)
    (h : ∀ h' e, Heap.ExtBut it s.heap h' → (∃ o, h'.get? e = some o ∧ o.cls = .type "StopIteration") → E (.ref e) { s with heap := h' }) : wpAny (model prog w) A (Builtin.SmallTypes.nextOf (.ref it)) Q E s := by
  cases b with
  | true => exact RZ.nextOf_tuple_end hh S.1 S.2 hx h
  | false => exact wpAny_nextOf_list_end hh S.1 S.2 hx h

theorem zip_item {b1 b2 : Bool} {z TI TO i1 i2 l1 l2 : Addr} {k1 k2 : Nat} {xs ys : Array Value} {x y a b : Value} {Q : Value → Shared → Prop} (D : ZipApart z TI TO i1 i2 l1 l2) (hz : IsZip s.heap z TI TO .none) (hTI : IsPair s.heap TI (.ref i1) (.ref i2))
    (hTO : IsPair s.heap TO a b) (S1 : SrcAt b1 s.heap i1 l1 k1 xs) (S2 : SrcAt b2 s.heap i2 l2 k2 ys) (hx : xs[k1]? = some x) (hy : ys[k2]? = some y)
    (hQ : ∀ h', IsZip h' z TI TO (rawInt s.heap.objs.size) → IsPair h' TO x y → ItAt b1 h' i1 l1 (k1 + 1) → ItAt b2 h' i2 l2 (k2 + 1) → IsPair h' s.heap.objs.size x y → h'.objs.size = s.heap.objs.size + 1 →
      (∀ c o, c ≠ z → c ≠ TO → c ≠ i1 → c ≠ i2 → s.heap.get? c = some o → h'.get? c = some o) → Q (.ref s.heap.objs.size) { s with heap := h' }) :
    wpAny (model prog w) A (Builtin.«zip.__next__» ⟨[.ref z], []⟩) (fun fin s' => ∃ v, fin = .done (.ret v) ∧ Q v s') E s := by
  show wpAny _ _ (field (.ref z) 2 >>= _) _ _ _; refine wpAny_bind (wpAny_field hz rfl (x := .bool false) rfl ?_)
  show wpAny _ _ (field (.ref z) 3 >>= _) _ _ _; refine wpAny_bind (wpAny_field hz rfl (x := .ref TI) rfl ?_); refine wpAny_bind (wpAny_seqItems hTI rfl ?_)
  show wpAny _ _ (Builtin.SmallTypes.ownedTupleIsFree (.ref z) >>= _) _ _ _; refine wpAny_bind ?_; unfold Builtin.SmallTypes.ownedTupleIsFree
  refine wpAny_bind (wpAny_field hz rfl (x := .none) rfl (wpAny_pure ?_)); simp only [if_true]; refine wpAny_bind (wpAny_rule ?_)
  refine wpAny_bind (wpAny_field hz rfl (x := .ref TO) rfl ?_); refine wpAny_bind (wpAny_setField_rec hz (by simp) fun g1 z1 m1 => ?_)
  replace z1 : IsZip g1 z TI TO .ellipsis := z1
  refine wpAny_bind ?_; simp only [List.zipIdx_cons, List.zipIdx_nil, List.forIn_cons, List.forIn_nil]; refine wpAny_bind (wpAny_bind (wpAny_onRaise ?_))
  show wpAny _ _ (Builtin.SmallTypes.nextOf (.ref i1) >>= _) _ _ _
  refine wpAny_bind (next_item (S1.ext m1.extBut D.i1z D.l1z) hx D.l1i1 fun g2 T1 m2 => wpAny_pure ?_)
  have p2 : IsPair g2 TO a b := m2.extBut _ _ D.TOi1 (m1.extBut _ _ D.TOz hTO)
  refine wpAny_bind (wpAny_seqItems p2 rfl ?_); refine wpAny_bind (wpAny_updateSeq_pair p2 fun g3 p3 m3 => ?_)
  replace p3 : IsPair g3 TO x b := p3
  refine wpAny_bind (wpAny_letGo (wpAny_pure ?_)); refine wpAny_bind (wpAny_bind (wpAny_onRaise ?_))
  show wpAny _ _ (Builtin.SmallTypes.nextOf (.ref i2) >>= _) _ _ _
  refine wpAny_bind (next_item (((S2.ext m1.extBut D.i2z D.l2z).ext m2.extBut D.i12.symm D.l2i1).ext m3.extBut D.TOi2.symm D.l2TO) hy D.l2i2 fun g4 T2 m4 => wpAny_pure ?_)
  have p4 : IsPair g4 TO x b := m4.extBut _ _ D.TOi2 p3
  refine wpAny_bind (wpAny_seqItems p4 rfl ?_); refine wpAny_bind (wpAny_updateSeq_pair p4 fun g5 p5 m5 => ?_)
  replace p5 : IsPair g5 TO x y := p5
  refine wpAny_bind (wpAny_letGo (wpAny_pure (wpAny_pure ?_))); refine wpAny_bind (wpAny_seqItems p5 rfl ?_); refine wpAny_bind (wpAny_newTuple ?_)
  have sz5 : g5.objs.size = s.heap.objs.size := by rw [m5.1, m4.1, m3.1, m2.1, m1.1]
  have z5 : IsZip g5 z TI TO .ellipsis := m5.extBut _ _ D.TOz.symm (m4.extBut _ _ D.i2z.symm (m3.extBut _ _ D.TOz.symm (m2.extBut _ _ D.i1z.symm z1)))
  have up5 : ∀ c o, c ≠ z → c ≠ TO → c ≠ i1 → c ≠ i2 → s.heap.get? c = some o → g5.get? c = some o := fun c o c1 c2 c3 c4 e => m5.extBut _ _ c2 (m4.extBut _ _ c4 (m3.extBut _ _ c2 (m2.extBut _ _ c3 (m1.extBut _ _ c1 e))))
  have U1 : SrcAt b1 g5 i1 l1 (k1 + 1) xs := ((T1.ext m3.extBut D.TOi1.symm D.l1TO).ext m4.extBut D.i12 D.l1i2).ext m5.extBut D.TOi1.symm D.l1TO
  have U2 : SrcAt b2 g5 i2 l2 (k2 + 1) ys := T2.ext m5.extBut D.TOi2.symm D.l2TO
  have zlt : z < g5.objs.size := Heap.lt_size z5
  show wpAny _ _ (Builtin.SmallTypes.ownedTupleHandOut (.ref z) (.ref g5.objs.size) >>= _) _ _ _; refine wpAny_bind ?_; unfold Builtin.SmallTypes.ownedTupleHandOut
  have z6 : IsZip (g5.push { cls := .type "tuple", data := .seq #[x, y] }) z TI TO .ellipsis := Heap.get?_push_of_some _ z5
  refine wpAny_bind (wpAny_setField_rec z6 (by simp) fun g7 z7 m7 => ?_)
  replace z7 : IsZip g7 z TI TO (rawInt g5.objs.size) := z7
  refine wpAny_setField_rec z7 (by simp) fun g8 z8 m8 => ?_
  replace z8 : IsZip g8 z TI TO (rawInt g5.objs.size) := z8
  have up : ∀ c o, c ≠ z → g5.get? c = some o → g8.get? c = some o := fun c o c1 e => m8.extBut _ _ c1 (m7.extBut _ _ c1 (Heap.get?_push_of_some _ e))
  have p8 : IsPair g8 g5.objs.size x y := m8.extBut _ _ (Nat.ne_of_gt zlt) (m7.extBut _ _ (Nat.ne_of_gt zlt) (Heap.get?_push_size _ rfl))
  have n8 : g8.objs.size = g5.objs.size + 1 := by rw [m8.1, m7.1, Heap.size_push]
  rw [sz5] at z8 p8 n8
  refine wpAny_pure ⟨_, rfl, ?_⟩; show Q (.ref g5.objs.size) _; rw [sz5]
  exact hQ g8 z8 (up _ _ D.TOz p5) (U1.it.on fun o e => up _ o D.i1z e) (U2.it.on fun o e => up _ o D.i2z e) p8 n8 fun c o c1 c2 c3 c4 e => up c o c1 (up5 c o c1 c2 c3 c4 e)

theorem zip_end {b1 b2 : Bool} {z TI TO i1 i2 l1 l2 : Addr} {k1 k2 : Nat} {xs ys : Array Value} {a b : Value} {Q : Fin → Shared → Prop} (hh : A.handled = none) (D : ZipApart z TI TO i1 i2 l1 l2) (hz : IsZip s.heap z TI TO .none) (hTI : IsPair s.heap TI (.ref i1) (.ref i2))
    (hTO : IsPair s.heap TO a b) (S1 : SrcAt b1 s.heap i1 l1 k1 xs) (S2 : SrcAt b2 s.heap i2 l2 k2 ys) (hend : xs[k1]? = none ∨ ys[k2]? = none)
    (hE : ∀ h' e, (∀ c o, c ≠ z → c ≠ TO → c ≠ i1 → c ≠ i2 → s.heap.get? c = some o → h'.get? c = some o) → (∃ o, h'.get? e = some o ∧ o.cls = .type "StopIteration") → E (.ref e) { s with heap := h' }) :
    wpAny (model prog w) A (Builtin.«zip.__next__» ⟨[.ref z], []⟩) Q E s := by
  show wpAny _ _ (field (.ref z) 2 >>= _) _ _ _; refine wpAny_bind (wpAny_field hz rfl (x := .bool false) rfl ?_)
  show wpAny _ _ (field (.ref z) 3 >>= _) _ _ _; refine wpAny_bind (wpAny_field hz rfl (x := .ref TI) rfl ?_); refine wpAny_bind (wpAny_seqItems hTI rfl ?_)
  show wpAny _ _ (Builtin.SmallTypes.ownedTupleIsFree (.ref z) >>= _) _ _ _; refine wpAny_bind ?_; unfold Builtin.SmallTypes.ownedTupleIsFree
  refine wpAny_bind (wpAny_field hz rfl (x := .none) rfl (wpAny_pure ?_)); simp only [if_true]; refine wpAny_bind (wpAny_rule ?_)
  refine wpAny_bind (wpAny_field hz rfl (x := .ref TO) rfl ?_); refine wpAny_bind (wpAny_setField_rec hz (by simp) fun g1 z1 m1 => ?_)
  replace z1 : IsZip g1 z TI TO .ellipsis := z1
  refine wpAny_bind ?_; simp only [List.zipIdx_cons, List.zipIdx_nil, List.forIn_cons, List.forIn_nil]; refine wpAny_bind (wpAny_bind (wpAny_onRaise ?_))
  show wpAny _ _ (Builtin.SmallTypes.nextOf (.ref i1) >>= _) _ _ _
  have S1' := S1.ext m1.extBut D.i1z D.l1z
  cases hx : xs[k1]? with
  | none =>
    refine wpAny_bind (next_end hh S1' hx fun g2 e m2 he => ?_)
    obtain ⟨oe, hoe, hce⟩ := he
    have z2 : IsZip g2 z TI TO .ellipsis := m2 _ _ D.i1z.symm z1
    have ez : e ≠ z := fun x => by subst x; rw [z2] at hoe; cases hoe; simp at hce
    exact wpAny_setField_rec z2 (by simp) fun g3 _ m3 => hE g3 e (fun c o c1 _ c3 _ x => m3.extBut _ _ c1 (m2 _ _ c3 (m1.extBut _ _ c1 x))) ⟨oe, m3.extBut _ _ ez hoe, hce⟩
  | some x =>
    have hy : ys[k2]? = none := hend.resolve_left fun q => by rw [hx] at q; cases q
    refine wpAny_bind (next_item S1' hx D.l1i1 fun g2 T1 m2 => wpAny_pure ?_)
    have p2 : IsPair g2 TO a b := m2.extBut _ _ D.TOi1 (m1.extBut _ _ D.TOz hTO)
    refine wpAny_bind (wpAny_seqItems p2 rfl ?_); refine wpAny_bind (wpAny_updateSeq_pair p2 fun g3 p3 m3 => ?_)
    refine wpAny_bind (wpAny_letGo (wpAny_pure ?_)); refine wpAny_bind (wpAny_bind (wpAny_onRaise ?_))
    show wpAny _ _ (Builtin.SmallTypes.nextOf (.ref i2) >>= _) _ _ _
    refine wpAny_bind (next_end hh (((S2.ext m1.extBut D.i2z D.l2z).ext m2.extBut D.i12.symm D.l2i1).ext m3.extBut D.TOi2.symm D.l2TO) hy fun g4 e m4 he => ?_)
    obtain ⟨oe, hoe, hce⟩ := he
    have z4 : IsZip g4 z TI TO .ellipsis := m4 _ _ D.i2z.symm (m3.extBut _ _ D.TOz.symm (m2.extBut _ _ D.i1z.symm z1))
    have ez : e ≠ z := fun x => by subst x; rw [z4] at hoe; cases hoe; simp at hce
    exact wpAny_setField_rec z4 (by simp) fun g5 _ m5 => hE g5 e (fun c o c1 c2 c3 c4 x => m5.extBut _ _ c1 (m4 _ _ c4 (m3.extBut _ _ c2 (m2.extBut _ _ c3 (m1.extBut _ _ c1 x))))) ⟨oe, m5.extBut _ _ ez hoe, hce⟩

theorem py_item {b1 b2 : Bool} {z TI TO i1 i2 l1 l2 : Addr} {k1 k2 : Nat} {xs ys : Array Value} {x y a b : Value} {Q : Option Value → Shared → Prop} (D : ZipApart z TI TO i1 i2 l1 l2) (hz : IsZip s.heap z TI TO .none) (hTI : IsPair s.heap TI (.ref i1) (.ref i2))
    (hTO : IsPair s.heap TO a b) (S1 : SrcAt b1 s.heap i1 l1 k1 xs) (S2 : SrcAt b2 s.heap i2 l2 k2 ys) (hx : xs[k1]? = some x) (hy : ys[k2]? = some y)
    (hQ : ∀ h', IsZip h' z TI TO (rawInt s.heap.objs.size) → IsPair h' TO x y → ItAt b1 h' i1 l1 (k1 + 1) → ItAt b2 h' i2 l2 (k2 + 1) → IsPair h' s.heap.objs.size x y → h'.objs.size = s.heap.objs.size + 1 →
      (∀ c o, c ≠ z → c ≠ TO → c ≠ i1 → c ≠ i2 → s.heap.get? c = some o → h'.get? c = some o) → Q (some (.ref s.heap.objs.size)) { s with heap := h' }) : wpAny (model prog w) A (pyNext (.ref z)) Q E s := by
  have hT : s.TypeIs (.ref z) "zip" := ⟨_, hz, rfl⟩
  unfold pyNext
  exact wpAny_bind (wpAny_attempt (wpAny_callSpecial?_slot (name := Str.ofString "__next__") hT F.slot_zip_next (wpAny_call_entry F.slot_zip_next hT F.entry_zip_next (zip_item D hz hTI hTO S1 S2 hx hy fun h' a1 a2 a3 a4 a5 a6 a7 => wpAny_pure (hQ h' a1 a2 a3 a4 a5 a6 a7)) (F.args_zip_next_1 _))))
theorem py_end {b1 b2 : Bool} {z TI TO i1 i2 l1 l2 : Addr} {k1 k2 : Nat} {xs ys : Array Value} {a b : Value} {Q : Option Value → Shared → Prop} (hh : A.handled = none) (D : ZipApart z TI TO i1 i2 l1 l2) (hz : IsZip s.heap z TI TO .none) (hTI : IsPair s.heap TI (.ref i1) (.ref i2))
    (hTO : IsPair s.heap TO a b) (S1 : SrcAt b1 s.heap i1 l1 k1 xs) (S2 : SrcAt b2 s.heap i2 l2 k2 ys) (hend : xs[k1]? = none ∨ ys[k2]? = none)
    (hQ : ∀ h', (∀ c o, c ≠ z → c ≠ TO → c ≠ i1 → c ≠ i2 → s.heap.get? c = some o → h'.get? c = some o) → Q none { s with heap := h' }) : wpAny (model prog w) A (pyNext (.ref z)) Q E s := by
  have hT : s.TypeIs (.ref z) "zip" := ⟨_, hz, rfl⟩
  unfold pyNext
  refine wpAny_bind (wpAny_attempt (wpAny_callSpecial?_slot (name := Str.ofString "__next__") hT F.slot_zip_next (wpAny_call_entry F.slot_zip_next hT F.entry_zip_next (zip_end hh D hz hTI hTO S1 S2 hend fun h' e hk he => ?_) (F.args_zip_next_1 _))))
  obtain ⟨o, ho, hc⟩ := he
  exact wpAny_bind (wpAny_isInstance (T := "StopIteration") (b := true) ⟨o, ho, hc⟩ isSubtype_stop (wpAny_pure (hQ _ hk)))
end
/-- the iterator's object of a list or a tuple, new -/
def itObj (b : Bool) (l : Addr) : Obj := if b then { cls := .type "tuple_iterator", data := .fields #[.ref l, .int 0 0] } else { cls := .type "list_iterator", data := .fields #[.ref l, .int 0 0] }
abbrev g1 (h : Heap) (b1 : Bool) (l1 : Addr) : Heap := h.push (itObj b1 l1)
abbrev g2 (h : Heap) (b1 b2 : Bool) (l1 l2 : Addr) : Heap := (g1 h b1 l1).push (itObj b2 l2)
abbrev g3 (h : Heap) (b1 b2 : Bool) (l1 l2 : Addr) : Heap := (g2 h b1 b2 l1 l2).push { cls := .type "tuple", data := .seq #[.ref h.objs.size, .ref (g1 h b1 l1).objs.size] }
abbrev g4 (h : Heap) (b1 b2 : Bool) (l1 l2 : Addr) : Heap := (g3 h b1 b2 l1 l2).push { cls := .type "tuple", data := .seq #[.none, .none] }
abbrev g5 (h : Heap) (b1 b2 : Bool) (l1 l2 : Addr) : Heap := (g4 h b1 b2 l1 l2).push { cls := .type "zip", data := .fields #[.none, .bool false, .bool false, .ref (g2 h b1 b2 l1 l2).objs.size, .ref (g3 h b1 b2 l1 l2).objs.size] }
theorem new_LT (l1 l2 : Addr) (xs ys : Array Value) : Meets (Builtin.«zip.__new__» ⟨[.type "zip", .ref l1, .ref l2], []⟩) (fun _ R s => (s.heap.IsList l1 xs ∧ s.heap.IsTuple l2 ys) ∧ R (.ok (.ret (.ref (g4 s.heap false true l1 l2).objs.size))) { s with heap := g5 s.heap false true l1 l2 }) := .of_wp fun prog w A R s h => by
  obtain ⟨hp, g, d, tk, os⟩ := s
  obtain ⟨⟨a1, a2⟩, h⟩ := h
  have hsub := sub_zip
  have q1 : Heap.IsList (Shared.heap ⟨hp, g, d, tk, os⟩) l1 xs := a1
  have q2 : Heap.IsTuple (Shared.heap ⟨hp.push { cls := .type "list_iterator", data := .fields #[.ref l1, .int 0 0] }, g, d, tk, os⟩) l2 ys := Heap.IsTuple.push a2 _
  wp_walk using wpAny_pyIter_list q1, wpAny_pyIter_tuple q2
  exact ⟨_, rfl, h⟩
theorem new_TL (l1 l2 : Addr) (xs ys : Array Value) : Meets (Builtin.«zip.__new__» ⟨[.type "zip", .ref l1, .ref l2], []⟩) (fun _ R s => (s.heap.IsTuple l1 xs ∧ s.heap.IsList l2 ys) ∧ R (.ok (.ret (.ref (g4 s.heap true false l1 l2).objs.size))) { s with heap := g5 s.heap true false l1 l2 }) := .of_wp fun prog w A R s h => by
  obtain ⟨hp, g, d, tk, os⟩ := s
  obtain ⟨⟨a1, a2⟩, h⟩ := h
  have hsub := sub_zip
  have q1 : Heap.IsTuple (Shared.heap ⟨hp, g, d, tk, os⟩) l1 xs := a1
  have q2 : Heap.IsList (Shared.heap ⟨hp.push { cls := .type "tuple_iterator", data := .fields #[.ref l1, .int 0 0] }, g, d, tk, os⟩) l2 ys := Heap.IsList.push a2 _
  wp_walk using wpAny_pyIter_tuple q1, wpAny_pyIter_list q2
  exact ⟨_, rfl, h⟩
def SrcL (b : Bool) (h : Heap) (l : Addr) (xs : Array Value) : Prop := if b then h.IsTuple l xs else h.IsList l xs
section
variable {prog : Program} {w : World} {A : Around} {E : Value → Shared → Prop} {s : Shared}
/-- what is laid for zip(l1, l2) -/
theorem laid {b1 b2 : Bool} {l1 l2 : Addr} {Q : Value → Shared → Prop}
    (h : ∀ h', IsZip h' (s.heap.objs.size + 4) (s.heap.objs.size + 2) (s.heap.objs.size + 3) .none → IsPair h' (s.heap.objs.size + 2) (.ref s.heap.objs.size) (.ref (s.heap.objs.size + 1)) →
      IsPair h' (s.heap.objs.size + 3) .none .none → ItAt b1 h' s.heap.objs.size l1 0 → ItAt b2 h' (s.heap.objs.size + 1) l2 0 → (∀ c o, s.heap.get? c = some o → h'.get? c = some o) → Q (.ref (s.heap.objs.size + 4)) { s with heap := h' }) :
    Q (.ref (g4 s.heap b1 b2 l1 l2).objs.size) { s with heap := g5 s.heap b1 b2 l1 l2 } := by
  have y1 : (g1 s.heap b1 l1).objs.size = s.heap.objs.size + 1 := Heap.size_push ..
  have y2 : (g2 s.heap b1 b2 l1 l2).objs.size = s.heap.objs.size + 2 := by rw [Heap.size_push, y1]
  have y3 : (g3 s.heap b1 b2 l1 l2).objs.size = s.heap.objs.size + 3 := by rw [Heap.size_push, y2]
  have y4 : (g4 s.heap b1 b2 l1 l2).objs.size = s.heap.objs.size + 4 := by rw [Heap.size_push, y3]
  have e5 : (g5 s.heap b1 b2 l1 l2).get? (g4 s.heap b1 b2 l1 l2).objs.size = some _ := Heap.get?_push_size _ rfl
  have e4 : (g5 s.heap b1 b2 l1 l2).get? (g3 s.heap b1 b2 l1 l2).objs.size = some _ := Heap.get?_push_of_some _ (Heap.get?_push_size _ rfl)
  have e3 : (g5 s.heap b1 b2 l1 l2).get? (g2 s.heap b1 b2 l1 l2).objs.size = some _ := Heap.get?_push_of_some _ (Heap.get?_push_of_some _ (Heap.get?_push_size _ rfl))
  have f2 : (itObj b2 l2).isFreed = false := by cases b2 <;> rfl
  have f1 : (itObj b1 l1).isFreed = false := by cases b1 <;> rfl
  have e2 : (g5 s.heap b1 b2 l1 l2).get? (g1 s.heap b1 l1).objs.size = some (itObj b2 l2) := Heap.get?_push_of_some _ (Heap.get?_push_of_some _ (Heap.get?_push_of_some _ (Heap.get?_push_size _ f2)))
  have e1 : (g5 s.heap b1 b2 l1 l2).get? s.heap.objs.size = some (itObj b1 l1) := Heap.get?_push_of_some _ (Heap.get?_push_of_some _ (Heap.get?_push_of_some _ (Heap.get?_push_of_some _ (Heap.get?_push_size _ f1))))
  rw [y2, y3, y4] at e5
  rw [y1, y2] at e3
  rw [y3] at e4
  rw [y1] at e2
  rw [y4]
  refine h _ e5 e3 e4 ?_ ?_ fun c o x => Heap.get?_push_of_some _ (Heap.get?_push_of_some _ (Heap.get?_push_of_some _ (Heap.get?_push_of_some _ (Heap.get?_push_of_some _ x))))
  · cases b1 <;> exact ⟨_, e1, rfl, rfl⟩
  · cases b2 <;> exact ⟨_, e2, rfl, rfl⟩
theorem call_LT {l1 l2 : Addr} {xs ys : Array Value} {Q : Value → Shared → Prop} (a1 : s.heap.IsList l1 xs) (a2 : s.heap.IsTuple l2 ys)
    (h : ∀ h', IsZip h' (s.heap.objs.size + 4) (s.heap.objs.size + 2) (s.heap.objs.size + 3) .none → IsPair h' (s.heap.objs.size + 2) (.ref s.heap.objs.size) (.ref (s.heap.objs.size + 1)) →
      IsPair h' (s.heap.objs.size + 3) .none .none → ItAt false h' s.heap.objs.size l1 0 → ItAt true h' (s.heap.objs.size + 1) l2 0 → (∀ c o, s.heap.get? c = some o → h'.get? c = some o) → Q (.ref (s.heap.objs.size + 4)) { s with heap := h' }) :
    wpAny (model prog w) A (call (.type "zip") [.ref l1, .ref l2]) Q E s :=
  callType_new F.called_zip (by decide) (F.typeCall_zip_2 _ _) (F.newCall_zip_2 _ _) (fun obj => F.args_object_init_3 obj _ _) F.entry_zip_new (new_LT l1 l2 xs ys) ⟨⟨a1, a2⟩, ⟨_, Heap.get?_push_size _ rfl, rfl⟩, laid h⟩
theorem call_TL {l1 l2 : Addr} {xs ys : Array Value} {Q : Value → Shared → Prop} (a1 : s.heap.IsTuple l1 xs) (a2 : s.heap.IsList l2 ys)
    (h : ∀ h', IsZip h' (s.heap.objs.size + 4) (s.heap.objs.size + 2) (s.heap.objs.size + 3) .none → IsPair h' (s.heap.objs.size + 2) (.ref s.heap.objs.size) (.ref (s.heap.objs.size + 1)) →
      IsPair h' (s.heap.objs.size + 3) .none .none → ItAt true h' s.heap.objs.size l1 0 → ItAt false h' (s.heap.objs.size + 1) l2 0 → (∀ c o, s.heap.get? c = some o → h'.get? c = some o) → Q (.ref (s.heap.objs.size + 4)) { s with heap := h' }) :
    wpAny (model prog w) A (call (.type "zip") [.ref l1, .ref l2]) Q E s :=
  callType_new F.called_zip (by decide) (F.typeCall_zip_2 _ _) (F.newCall_zip_2 _ _) (fun obj => F.args_object_init_3 obj _ _) F.entry_zip_new (new_TL l1 l2 xs ys) ⟨⟨a1, a2⟩, ⟨_, Heap.get?_push_size _ rfl, rfl⟩, laid h⟩
end
end DZ

set_option maxHeartbeats 4000000
/-! dicts of any keys: None, ints, and tuples of such; told entry by entry -/
namespace DK
open PySem PySem.Spec PyProof.Rows L2

mutual
def hN : NestedKey → Int
  | .none => reduceHash 0xFCA86420
  | .num i => hashInt i
  | .text _ => 0
  | .tup ks => reduceHash (Builtin.Tuple.tupleHashOf (hNs ks))
def hNs : List NestedKey → List Int
  | [] => []
  | k :: ks => hN k :: hNs ks
end
mutual
def plain : NestedKey → Bool
  | .none => true
  | .num _ => true
  | .text _ => false
  | .tup ks => plains ks
def plains : List NestedKey → Bool
  | [] => true
  | k :: ks => plain k && plains ks
end
mutual
theorem hash_plain (w : World) : ∀ k : NestedKey, plain k = true → k.hash w = hN k
  | .none, _ => by rw [NestedKey.hash, hN]
  | .num i, _ => by rw [NestedKey.hash, hN]
  | .text _, h => by simp [plain] at h
  | .tup ks, h => by rw [NestedKey.hash, hN, hashes_plain w ks (by simpa [plain] using h)]
theorem hashes_plain (w : World) : ∀ ks : List NestedKey, plains ks = true → NestedKey.hashes w ks = hNs ks
  | [], _ => by rw [NestedKey.hashes, hNs]
  | k :: ks, h => by
    simp only [plains, Bool.and_eq_true] at h
    rw [NestedKey.hashes, hNs, hash_plain w k h.1, hashes_plain w ks h.2]
end

abbrev Ent := NestedKey × V × V
def EntOk (e : Ent) (d : DictEntry) : Prop := d.hash = hN e.1 ∧ RelV e.2.1 d.key ∧ RelV e.2.2 d.val
/-- the table at a holds the entries es -/
def TabP (a : Addr) (o : Obj) (es : List Ent) : Heap → Prop := fun h => es.length ≤ sizeLine ∧ (a == sysModules) = false ∧ ∃ ds ep, h.get? a = some o ∧ o.ExactDict ∧ o.data = .dict ds ep ∧ Paired EntOk es ds.toList
abbrev tab (a : Addr) (o : Obj) (es : List Ent) : HO := .ext (TabP a o es)
theorem tab_obj {P : Program} {w : World} {H : Hp} {h : Heap} {a : Addr} {o : Obj} {es : List Ent} (t : TabP a o es h) : ObjOk P w H h a (tab a o es) := by
  refine ⟨t, ?_, fun h1 h2 t1 k => ?_⟩
  · obtain ⟨_, _, _, _, e, _⟩ := t; exact ⟨o, e⟩
  · obtain ⟨z, y, ds, ep, e, r⟩ := t1
    exact ⟨z, y, ds, ep, k o e, r⟩

/-! keys that are carried by value -/
def keyO : NestedKey → Option Key
  | .num i => some (.inl i)
  | _ => none
def flat : NestedKey → Bool
  | .none => true
  | .num _ => true
  | _ => false
def vK : NestedKey → V
  | .num i => .int i
  | _ => .non
theorem keyO_inj : ∀ {a b : NestedKey}, flat a = true → flat b = true → keyO a = keyO b → a = b
  | .none, .none, _, _, _ => rfl
  | .num i, .num j, _, _, e => by simp [keyO] at e; rw [e]
  | .none, .num _, _, _, e => by simp [keyO] at e
  | .num _, .none, _, _, e => by simp [keyO] at e
  | .text _, _, h, _, _ => by simp [flat] at h
  | .tup _, _, h, _, _ => by simp [flat] at h
  | .none, .text _, _, h, _ => by simp [flat] at h
  | .none, .tup _, _, h, _ => by simp [flat] at h
  | .num _, .text _, _, h, _ => by simp [flat] at h
  | .num _, .tup _, _, h, _ => by simp [flat] at h
section
variable {P : Program} {w : World}
theorem flat_is : ∀ {k : NestedKey} {u : Value}, flat k = true → RelV (vK k) u → (noneKind P w).is (keyO k) u = true
  | .none, u, _, r => by cases (show u = Value.none from r); rfl
  | .num i, u, _, r => by obtain ⟨t, e⟩ := (show ∃ t, u = Value.int i t from r); subst e; exact mixKind_int P w i t
  | .text _, _, h, _ => by simp [flat] at h
  | .tup _, _, h, _ => by simp [flat] at h
theorem is_flat : ∀ {k : NestedKey} {u : Value}, flat k = true → (noneKind P w).is (keyO k) u = true → RelV (vK k) u
  | .none, u, _, r => nk_none r
  | .num i, u, _, r => by
    rcases keyIs_shape (k := .inl i) (v := u) r with ⟨j, t, e, e2⟩ | ⟨_, _, e, _⟩
    · cases e; exact ⟨t, e2⟩
    · cases e
  | .text _, _, h, _ => by simp [flat] at h
  | .tup _, _, h, _ => by simp [flat] at h
theorem hash_flat : ∀ {k : NestedKey}, flat k = true → (noneKind P w).hash (keyO k) = hN k
  | .none, _ => by rw [hN]; rfl
  | .num i, _ => by rw [hN]; rfl
  | .text _, h => by simp [flat] at h
  | .tup _, h => by simp [flat] at h
/-- all keys by value, each written as it is -/
def Flat (es : List Ent) : Prop := ∀ e ∈ es, flat e.1 = true ∧ e.2.1 = vK e.1
def okv (es : List Ent) : List (Option Key × V) := es.map fun e => (keyO e.1, e.2.2)
theorem pairs_of : ∀ {es : List Ent} {ds : List DictEntry}, Flat es → Paired EntOk es ds → ∃ vs : List (Option Key × Value), Pairs (noneKind P w) ds vs ∧ KV (okv es) vs
  | [], _, _, .nil => ⟨[], .nil, .nil⟩
  | e :: es, _, F, .cons (b := d) h t => by
    obtain ⟨vs, p, q⟩ := pairs_of (fun x hx => F x (List.mem_cons_of_mem _ hx)) t
    obtain ⟨f1, f2⟩ := F e (List.mem_cons_self ..)
    obtain ⟨h1, h2, h3⟩ := h
    rw [f2] at h2
    exact ⟨(keyO e.1, d.val) :: vs, .cons (flat_is f1 h2) rfl p, .cons ⟨rfl, h3⟩ q⟩
theorem keys_of {es : List Ent} {ds : List DictEntry} (F : Flat es) (p : Paired EntOk es ds) : ∀ d ∈ ds, ∃ k, (noneKind P w).is k d.key = true ∧ d.hash = (noneKind P w).hash k := by
  induction p with
  | nil => intro x hx; exact nomatch hx
  | @cons e d es ds h t ih =>
    intro x hx
    rcases List.mem_cons.mp hx with hx | hx
    · subst hx
      obtain ⟨f1, f2⟩ := F e (List.mem_cons_self ..)
      obtain ⟨h1, h2, h3⟩ := h
      rw [f2] at h2
      exact ⟨keyO e.1, flat_is f1 h2, by rw [hash_flat f1]; exact h1⟩
    · exact ih (fun x hx => F x (List.mem_cons_of_mem _ hx)) x hx
theorem okv_nodup {es : List Ent} (F : Flat es) (hn : (es.map (·.1)).Nodup) : ((okv es).map (·.1)).Nodup := by
  unfold okv
  rw [List.map_map]
  induction es with
  | nil => exact List.nodup_nil
  | cons e es ih =>
    rw [List.map_cons, List.nodup_cons] at hn ⊢
    refine ⟨fun h => hn.1 ?_, ih (fun x hx => F x (List.mem_cons_of_mem _ hx)) hn.2⟩
    obtain ⟨x, hx, e1⟩ := List.mem_map.mp h
    have := keyO_inj (F x (List.mem_cons_of_mem _ hx)).1 (F e (List.mem_cons_self ..)).1 e1
    exact List.mem_map.mpr ⟨x, hx, this⟩
theorem kv_keys {κ : Type} {kvs : List (κ × V)} {vs : List (κ × Value)} (h : KV kvs vs) : kvs.map (·.1) = vs.map (·.1) := by
  unfold KV at h
  induction h with
  | nil => rfl
  | cons h _ ih => rw [List.map_cons, List.map_cons, ih, h.1]
theorem dictOf {h : Heap} {a : Addr} {o : Obj} {es : List Ent} (t : TabP a o es h) (F : Flat es) (hn : (es.map (·.1)).Nodup) : ∃ vs, h.DictOf (noneKind P w) a vs ∧ KV (okv es) vs := by
  obtain ⟨z, y, ds, ep, e, hc, hd, p⟩ := t
  obtain ⟨vs, q, r⟩ := pairs_of (P := P) (w := w) F p
  exact ⟨vs, ⟨o, ds, ep, e, hc, hd, fun d hm => keys_of F p d (Array.mem_toList_iff.mpr hm), q, by rw [← kv_keys r]; exact okv_nodup F hn⟩, r⟩
theorem pairs_back : ∀ {es : List Ent} {ds : List DictEntry} {vs : List (Option Key × Value)}, Flat es → (∀ d ∈ ds, ∃ k, (noneKind P w).is k d.key = true ∧ d.hash = (noneKind P w).hash k) → Pairs (noneKind P w) ds vs → KV (okv es) vs → Paired EntOk es ds := by
  intro es ds vs F G p q
  induction es generalizing ds vs with
  | nil =>
    have q : KV [] vs := q
    cases q
    cases p
    exact .nil
  | cons e es ih =>
    have q : KV ((keyO e.1, e.2.2) :: okv es) vs := q
    cases q with
    | cons hq r =>
      cases p with
      | @cons d kv ds kvs h1 h2 p =>
        obtain ⟨f1, f2⟩ := F e (List.mem_cons_self ..)
        have ih := ih (fun x hx => F x (List.mem_cons_of_mem _ hx)) (fun x hx => G x (List.mem_cons_of_mem _ hx)) p r
        obtain ⟨q1, q2⟩ := hq
        rw [← q1] at h1
        obtain ⟨k, g1, g2⟩ := G d (List.mem_cons_self ..)
        have ek : k = keyO e.1 := (noneKind P w).inj _ _ _ g1 h1
        rw [ek, hash_flat f1] at g2
        refine .cons ⟨g2, by rw [f2]; exact is_flat f1 h1, ?_⟩ ih
        rw [h2]; exact q2
theorem tab_of {h : Heap} {a : Addr} {es : List Ent} {vs : List (Option Key × Value)} (z : es.length ≤ sizeLine) (y : (a == sysModules) = false) (F : Flat es) (dd : h.DictOf (noneKind P w) a vs) (r : KV (okv es) vs) : ∃ o, TabP a o es h := by
  obtain ⟨o, ds, ep, e, hc, hd, ko, q, _⟩ := dd
  exact ⟨o, z, y, ds, ep, e, hc, hd, pairs_back F (fun d hm => ko d (Array.mem_toList_iff.mp hm)) q r⟩
end

/-! keys that are tuples -/
def K1 (b : Bool) (h : Heap) (k : NestedKey) (kv : V) : Prop := match b with
  | true => flat k = true ∧ kv = vK k
  | false => ∃ p, kv = .ref p ∧ NestedIs h k (.ref p) ∧ k.depth ≤ 8 ∧ plain k = true
def Ks (b : Bool) (h : Heap) (es : List Ent) : Prop := ∀ e ∈ es, K1 b h e.1 e.2.1
def atE (es : List Ent) (k : NestedKey) : Option V := (es.find? fun e => decide (e.1 = k)).map (·.2.2)
def putE (es : List Ent) (k : NestedKey) (kv v : V) : List Ent :=
  if (es.any fun e => decide (e.1 = k)) = true then es.map (fun e => if e.1 = k then (e.1, e.2.1, v) else e) else es ++ [(k, kv, v)]
theorem atE_cons {e : Ent} {es : List Ent} {k : NestedKey} : atE (e :: es) k = if e.1 = k then some e.2.2 else atE es k := by
  unfold atE
  by_cases h : e.1 = k <;> simp [List.find?_cons, h]
theorem anyE (es : List Ent) (k : NestedKey) : (es.any fun e => decide (e.1 = k)) = (atE es k).isSome := by
  induction es with
  | nil => rfl
  | cons e es ih =>
    rw [List.any_cons, atE_cons, ih]
    by_cases h : e.1 = k <;> simp [h]
theorem putE_len (es : List Ent) (k : NestedKey) (kv v : V) : (putE es k kv v).length ≤ es.length + 1 := by
  unfold putE
  split <;> simp
theorem flat_at {es : List Ent} {k : NestedKey} (F : Flat es) (fk : flat k = true) : valV (okv es) (keyO k) = atE es k := by
  induction es with
  | nil => rfl
  | cons e es ih =>
    have ih := ih (fun x hx => F x (List.mem_cons_of_mem _ hx))
    show valV ((keyO e.1, e.2.2) :: okv es) (keyO k) = _
    rw [atE_cons]
    by_cases h : e.1 = k
    · rw [if_pos h]; exact valV_pos (p := (keyO e.1, e.2.2)) (by rw [h])
    · rw [if_neg h, ← ih]; exact valV_neg (p := (keyO e.1, e.2.2)) fun z => h (keyO_inj (F e (List.mem_cons_self ..)).1 fk z)
theorem flat_put {es : List Ent} {k : NestedKey} {kv v : V} (F : Flat es) (fk : flat k = true) : okv (putE es k kv v) = putK (okv es) (keyO k) v := by
  unfold putE putK
  have e : ((okv es).any fun kv => decide (kv.1 = keyO k)) = (es.any fun e => decide (e.1 = k)) := by rw [valV_any, flat_at F fk, anyE]
  rw [e]
  split
  · unfold okv
    rw [List.map_map, List.map_map]
    refine List.map_congr_left fun x hx => ?_
    show (keyO (if x.1 = k then (x.1, x.2.1, v) else x).1, (if x.1 = k then (x.1, x.2.1, v) else x).2.2) = if keyO x.1 = keyO k then (keyO x.1, v) else (keyO x.1, x.2.2)
    by_cases h : x.1 = k
    · rw [if_pos h, if_pos (by rw [h])]
    · rw [if_neg h, if_neg fun z => h (keyO_inj (F x hx).1 fk z)]
  · unfold okv
    rw [List.map_append]; rfl
theorem Ks.flat {h : Heap} {es : List Ent} (T : Ks true h es) : Flat es := fun e he => T e he
theorem Ks.put {b : Bool} {h : Heap} {es : List Ent} {k : NestedKey} {kv v : V} (T : Ks b h es) (kk : K1 b h k kv) : Ks b h (putE es k kv v) := by
  intro e he
  unfold putE at he
  split at he
  · obtain ⟨x, hx, rfl⟩ := List.mem_map.mp he
    by_cases h : x.1 = k
    · rw [if_pos h]; exact T x hx
    · rw [if_neg h]; exact T x hx
  · rcases List.mem_append.mp he with he | he
    · exact T e he
    · rw [List.mem_singleton] at he; subst he; exact kk
abbrev EX (e : Ent) (x : NestedKey × Addr × Value) : Prop := x.1 = e.1 ∧ e.2.1 = .ref x.2.1 ∧ RelV e.2.2 x.2.2
theorem xs_of {P : Program} {w : World} {h : Heap} : ∀ {es : List Ent} {ds : List DictEntry}, Ks false h es → Paired EntOk es ds → ∃ xs, ds = xs.map (entryOfKey (nestedKind P w)) ∧ Paired EX es xs ∧ ∀ x ∈ xs, (nestedKind P w).is h x.1 x.2.1
  | [], _, _, .nil => ⟨[], rfl, .nil, fun _ z => nomatch z⟩
  | e :: es, _, T, .cons (b := d) hd t => by
    obtain ⟨xs, r1, r2, r3⟩ := xs_of (P := P) (w := w) (fun x hx => T x (List.mem_cons_of_mem _ hx)) t
    obtain ⟨p, e1, n, dp, pl⟩ := T e (List.mem_cons_self ..)
    obtain ⟨h1, h2, h3⟩ := hd
    rw [e1] at h2
    have h2 : d.key = Value.ref p := h2
    refine ⟨(e.1, p, d.val) :: xs, ?_, .cons ⟨rfl, e1, h3⟩ r2, fun x hx => ?_⟩
    · rw [List.map_cons, ← r1]
      congr 1
      cases d with
      | mk dh dk dv =>
        have h1' : dh = hN e.1 := h1
        have h2' : dk = Value.ref p := h2
        show (⟨dh, dk, dv⟩ : DictEntry) = ⟨NestedKey.hash w e.1, .ref p, dv⟩
        rw [hash_plain w e.1 pl, h1', h2']
    · rcases List.mem_cons.mp hx with hx | hx
      · subst hx; exact ⟨n, dp⟩
      · exact r3 x hx
theorem ex_keys {es : List Ent} {xs : List (NestedKey × Addr × Value)} (h : Paired EX es xs) : xs.map (·.1) = es.map (·.1) := by
  induction h with
  | nil => rfl
  | cons h _ ih => rw [List.map_cons, List.map_cons, ih, h.1]
theorem dictOfH {P : Program} {w : World} {h : Heap} {a : Addr} {o : Obj} {es : List Ent} (t : TabP a o es h) (T : Ks false h es) (hn : (es.map (·.1)).Nodup) : ∃ xs, h.DictOfH (nestedKind P w) a xs ∧ Paired EX es xs := by
  obtain ⟨z, y, ds, ep, e, hc, hd, p⟩ := t
  obtain ⟨xs, r1, r2, r3⟩ := xs_of (P := P) (w := w) T p
  exact ⟨xs, ⟨o, ds, ep, e, hc, hd, r1, r3, by rw [ex_keys r2]; exact hn⟩, r2⟩
theorem ex_at {es : List Ent} {xs : List (NestedKey × Addr × Value)} (r : Paired EX es xs) (k : NestedKey) : RelO (atE es k) ((atKey xs k).map (·.2)) := by
  induction r with
  | nil => exact True.intro
  | @cons e x es xs h t ih =>
    obtain ⟨h1, h2, h3⟩ := h
    rw [atE_cons]
    by_cases c : e.1 = k
    · have b : atKey (x :: xs) k = some x.2 := by simp [atKey, List.find?_cons, h1.trans c]
      rw [if_pos c, b]; exact h3
    · have b : atKey (x :: xs) k = atKey xs k := by
        have : ¬ x.1 = k := fun z => c (h1.symm.trans z)
        simp [atKey, List.find?_cons, this]
      rw [if_neg c, b]; exact ih
theorem ex_put {es : List Ent} {xs : List (NestedKey × Addr × Value)} (r : Paired EX es xs) (k : NestedKey) {p : Addr} {v : V} {u : Value} (rv : RelV v u) : Paired EX (putE es k (.ref p) v) (storedH xs k p u) := by
  have e : (es.any fun e => decide (e.1 = k)) = (atKey xs k).isSome := by
    rw [anyE, (ex_at r k).isSome_eq, Option.isSome_map]
  unfold putE storedH
  rw [e]
  split
  · clear e
    rename_i hh
    clear hh
    induction r with
    | nil => exact .nil
    | @cons e x es xs h t ih =>
      rw [List.map_cons, List.map_cons]
      refine .cons ?_ ih
      obtain ⟨h1, h2, h3⟩ := h
      unfold putAt
      by_cases c : e.1 = k
      · rw [if_pos c, if_pos (h1.trans c)]; exact ⟨h1, h2, rv⟩
      · rw [if_neg c, if_neg fun z => c (h1.symm.trans z)]; exact ⟨h1, h2, h3⟩
  · exact Paired.snoc r ⟨rfl, rfl, rv⟩
theorem tab_back {P : Program} {w : World} {h0 : Heap} : ∀ {es : List Ent} {xs : List (NestedKey × Addr × Value)}, (∀ e ∈ es, K1 false h0 e.1 e.2.1) → Paired EX es xs → Paired EntOk es (xs.map (entryOfKey (nestedKind P w)))
  | [], _, _, .nil => .nil
  | e :: es, _, T, .cons (b := x) h t => by
    obtain ⟨p, e1, n, dp, pl⟩ := T e (List.mem_cons_self ..)
    obtain ⟨h1, h2, h3⟩ := h
    rw [List.map_cons]
    refine .cons ⟨?_, ?_, h3⟩ (tab_back (P := P) (w := w) (fun x hx => T x (List.mem_cons_of_mem _ hx)) t)
    · show (nestedKind P w).hash x.1 = _
      rw [h1]; exact hash_plain w _ pl
    · rw [h2]; rfl

theorem ref_of {a : Addr} {u : Value} (h : RelV (.ref a) u) : u = Value.ref a := h
/-! ### in a running program -/
section
variable {X : Cx} {pins : List (Addr × Obj)} {σ : L2.St} {H : Hp} {s : Shared} {a : Addr} {o : Obj} {es : List Ent} {k : NestedKey} {kv v : V} {u r : Value} {A : Around} {E : Value → Shared → Prop} {b : Bool}
theorem tab_at (I : L2.Inv X pins σ H s) (e : Rd H a (tab a o es)) : TabP a o es s.heap := (show ObjOk X.prog X.w H s.heap a (tab a o es) from rd_of I.hok e).1
theorem t_get {Q : Value → Shared → Prop} (hu : A.units + 9 < cLine) (I : L2.Inv X pins σ H s) (e : Rd H a (tab a o es)) (T : Ks b s.heap es) (hn : (es.map (·.1)).Nodup) (kk : K1 b s.heap k kv) (ry : RelV kv u) (l : atE es k = some v)
    (h : ∀ w' s', L2.Inv X pins σ H s' → RelV v w' → Q w' s') : wpAny (model X.prog X.w) A (getItem (.ref a) u) Q E s := by
  have t := tab_at I e
  cases b with
  | true =>
    obtain ⟨fk, rfl⟩ := kk
    obtain ⟨vs, dd, rel⟩ := dictOf (P := X.prog) (w := X.w) t T.flat hn
    obtain ⟨w', hw, rw'⟩ := RelO.some_of (v := v) (o := valueAt vs (keyO k)) (by rw [← l, ← flat_at T.flat fk]; exact rel.val (keyO k))
    exact wpAny_getItem_of (flat_is fk ry) dd.mapOf hw (h w' _ (I.tok _) rw')
  | false =>
    obtain ⟨p, rfl, n, dp, pl⟩ := kk
    cases ref_of ry
    obtain ⟨xs, dd, rel⟩ := dictOfH (P := X.prog) (w := X.w) t T hn
    obtain ⟨w', hw, rw'⟩ := RelO.some_of (v := v) (o := (atKey xs k).map (·.2)) (by rw [← l]; exact ex_at rel k)
    obtain ⟨q, hp, hq⟩ := Option.map_eq_some_iff.mp hw
    refine wpAny_getItem_heap (knd := nestedKind X.prog X.w) (k := k) (show A.units + 1 + 8 < cLine by omega) ⟨n, dp⟩ dd hp ?_
    rw [hq]
    exact h w' _ (I.tok _) rw'
theorem t_in {Q : Value → Shared → Prop} (hu : A.units + 9 < cLine) (I : L2.Inv X pins σ H s) (e : Rd H a (tab a o es)) (T : Ks b s.heap es) (hn : (es.map (·.1)).Nodup) (kk : K1 b s.heap k kv) (ry : RelV kv u)
    (h : ∀ s', L2.Inv X pins σ H s' → Q (.bool (atE es k).isSome) s') : wpAny (model X.prog X.w) A (compareOp .In u (.ref a)) Q E s := by
  have t := tab_at I e
  have y := t.2.1
  cases b with
  | true =>
    obtain ⟨fk, rfl⟩ := kk
    obtain ⟨vs, dd, rel⟩ := dictOf (P := X.prog) (w := X.w) t T.flat hn
    refine wpAny_in_of (flat_is fk ry) y dd.mapOf ?_
    rw [← (rel.val (keyO k)).isSome_eq, flat_at T.flat fk]
    exact h _ (I.tok _)
  | false =>
    obtain ⟨p, rfl, n, dp, pl⟩ := kk
    cases ref_of ry
    obtain ⟨xs, dd, rel⟩ := dictOfH (P := X.prog) (w := X.w) t T hn
    refine wpAny_in_heap (knd := nestedKind X.prog X.w) (k := k) (show A.units + 1 + 8 < cLine by omega) ⟨n, dp⟩ y dd ?_
    have q := (ex_at rel k).isSome_eq
    rw [Option.isSome_map] at q
    rw [← q]
    exact h _ (I.tok _)
theorem t_notIn {Q : Value → Shared → Prop} (hu : A.units + 9 < cLine) (I : L2.Inv X pins σ H s) (e : Rd H a (tab a o es)) (T : Ks b s.heap es) (hn : (es.map (·.1)).Nodup) (kk : K1 b s.heap k kv) (ry : RelV kv u)
    (h : ∀ s', L2.Inv X pins σ H s' → Q (.bool (!(atE es k).isSome)) s') : wpAny (model X.prog X.w) A (compareOp .NotIn u (.ref a)) Q E s := by
  have t := tab_at I e
  have y := t.2.1
  cases b with
  | true =>
    obtain ⟨fk, rfl⟩ := kk
    obtain ⟨vs, dd, rel⟩ := dictOf (P := X.prog) (w := X.w) t T.flat hn
    refine wpAny_notIn_of (flat_is fk ry) y dd.mapOf ?_
    rw [← (rel.val (keyO k)).isSome_eq, flat_at T.flat fk]
    exact h _ (I.tok _)
  | false =>
    obtain ⟨p, rfl, n, dp, pl⟩ := kk
    cases ref_of ry
    obtain ⟨xs, dd, rel⟩ := dictOfH (P := X.prog) (w := X.w) t T hn
    refine wpAny_notIn_heap (knd := nestedKind X.prog X.w) (k := k) (show A.units + 1 + 8 < cLine by omega) ⟨n, dp⟩ y dd ?_
    have q := (ex_at rel k).isSome_eq
    rw [Option.isSome_map] at q
    rw [← q]
    exact h _ (I.tok _)
theorem t_set {Q : Unit → Shared → Prop} (hu : A.units + 9 < cLine) (I : L2.Inv X pins σ H s) (e : H a = some (tab a o es)) (T : Ks b s.heap es) (hn : (es.map (·.1)).Nodup) (kk : K1 b s.heap k kv) (ry : RelV kv u) (rv : RelV v r) (hl : es.length < sizeLine)
    (h : ∀ s' o', L2.Inv X pins σ (upd H a (tab a o' (putE es k kv v))) s' → Q () s') : wpAny (model X.prog X.w) A (setItem (.ref a) u r) Q E s := by
  have t := tab_at I (.inl e)
  obtain ⟨z, y, _, _, _⟩ := id t
  have hz := putE_len es k kv v
  have mu : Mut (H a) := by rw [e]; exact True.intro
  cases b with
  | true =>
    obtain ⟨fk, rfl⟩ := kk
    obtain ⟨vs, dd, rel⟩ := dictOf (P := X.prog) (w := X.w) t T.flat hn
    have hv : vs.length ≤ sizeLine := by rw [← rel.length]; unfold okv; rw [List.length_map]; omega
    refine wpAny_setItem_pairs (hsz := hv) (flat_is fk ry) dd fun h' dd' hs => ?_
    have he : ∃ q, h'.get? a = some q := let ⟨q, _, _, hq, _⟩ := dd'; ⟨q, hq⟩
    have F' : Flat (putE es k (vK k) v) := fun x hx => Ks.put (b := true) T ⟨fk, rfl⟩ x hx
    obtain ⟨o', t'⟩ := tab_of (by omega) y F' dd' (by rw [flat_put T.flat fk]; exact rel.put _ rv)
    exact h _ o' (d_write I mu hs he (tab_obj t'))
  | false =>
    obtain ⟨p, rfl, n, dp, pl⟩ := kk
    cases ref_of ry
    obtain ⟨xs, dd, rel⟩ := dictOfH (P := X.prog) (w := X.w) t T hn
    have hv : xs.length ≤ sizeLine := by rw [← Paired.length rel]; omega
    refine wpAny_setItem_heap (knd := nestedKind X.prog X.w) (k := k) (hsz := hv) (show A.units + 1 + 8 < cLine by omega) ⟨n, dp⟩ dd fun h' dd' hs => ?_
    obtain ⟨q, ds, ep, hq, h2, h3, h4, _, h5⟩ := dd'
    refine h _ q (d_write I mu hs ⟨q, hq⟩ (tab_obj ⟨by omega, y, ds, ep, hq, h2, h3, ?_⟩))
    rw [h4]
    exact tab_back (fun x hx => Ks.put (b := false) T ⟨p, rfl, n, dp, pl⟩ x hx) (ex_put rel k rv)
end
section
variable {X : Cx} {pos : Pos}
def tTabNew : TE := fun _ H Q => ∀ p o, H p = none → Q (.ref p) (upd H p (tab p o []))
theorem tab_empty (h : Heap) (hb : sysModules < h.objs.size) : TabP h.objs.size { cls := .type "dict", data := .dict #[] } [] (h.push { cls := .type "dict", data := .dict #[] }) :=
  ⟨Nat.zero_le _, beq_false_of_ne fun z => absurd hb (by rw [z]; exact Nat.lt_irrefl _), #[], 0, Heap.get?_push_size _ rfl, ⟨rfl, rfl, rfl⟩, rfl, .nil⟩
theorem pe_tabNew : PE X (.Dict [] [] pos) tTabNew := ⟨fun pins s σ H Q I h =>
  wpAny_Dict_empty ⟨.ref s.heap.objs.size, _, I.laid (a := s.heap.objs.size) (o := tab s.heap.objs.size { cls := .type "dict", data := .dict #[] } []) (t' := s.toks) (fun _ _ q => Heap.get?_push_of_some _ q) (Nat.le_refl _) (tab_obj (tab_empty s.heap I.big)), rfl, h _ _ (I.hok.fresh (Nat.le_refl _))⟩⟩
end
end DK

set_option maxHeartbeats 4000000
/-! Data in place of heaps: values by what they are, names by slots that hold data; a def is a function of data. -/
namespace DL
open PySem PySem.Spec PyProof.Rows L2

inductive D where
  | non | bl (b : Bool) | int (i : Int) | str (x : Str)
  | tup (xs : List D) | lst (xs : List D)
  /-- the script -/
  | scr (ns : List Int)
  /-- an instance of the class with this number -/
  | ins (C : Nat) (fs : List (Str × D))
  | dic (kvs : List (D × D))
deriving Inhabited
/-- where the classes of the text lie, by their numbers -/
class CT where ct : Nat → Addr
variable [CT]

/-! keys of dicts -/
mutual
def keyD : D → Option NestedKey
  | .non => some .none
  | .int i => some (.num i)
  | .tup ds => (keyDs ds).map .tup
  | _ => none
def keyDs : List D → Option (List NestedKey)
  | [] => some []
  | d :: ds => match keyD d, keyDs ds with
    | some k, some ks => some (k :: ks)
    | _, _ => none
end
/-- a dict's keys: all flat, or all tuples, no two alike -/
structure Keys (b : Bool) (es : List DK.Ent) : Prop where
  nd : (es.map (·.1)).Nodup
  kind : ∀ e ∈ es, DK.flat e.1 = b ∧ e.1.depth ≤ 8

mutual
inductive Rep (K : PySem.W.Frag) (H : Hp) : V → D → Prop
  | non : Rep K H .non .non
  | bl (b : Bool) : Rep K H (.bl b) (.bl b)
  | int (i : Int) : Rep K H (.int i) (.int i)
  | str (x : Str) : Rep K H (.str x) (.str x)
  | tup {a : Addr} {vs : List V} {ds : List D} : SqT K H a vs → Reps K H vs ds → Rep K H (.ref a) (.tup ds)
  | lst {a : Addr} {vs : List V} {ds : List D} : H a = some (.lst vs) → Reps K H vs ds → Rep K H (.ref a) (.lst ds)
  | scr {a : Addr} {ns : List Int} : SqL K H a (ns.map V.int) → Rep K H (.ref a) (.scr ns)
  | ins {a dx : Addr} {C : Nat} {fs : List (Str × V)} {ds : List (Str × D)} : H a = some (.ins (CT.ct C) dx fs) → RepF K H fs ds → Rep K H (.ref a) (.ins C ds)
  | dic {a : Addr} {o : Obj} {es : List DK.Ent} {ds : List (D × D)} {b : Bool} : H a = some (DK.tab a o es) → RepE K H es ds → Keys b es → Rep K H (.ref a) (.dic ds)
inductive Reps (K : PySem.W.Frag) (H : Hp) : List V → List D → Prop
  | nil : Reps K H [] []
  | cons {v : V} {vs : List V} {d : D} {ds : List D} : Rep K H v d → Reps K H vs ds → Reps K H (v :: vs) (d :: ds)
inductive RepF (K : PySem.W.Frag) (H : Hp) : List (Str × V) → List (Str × D) → Prop
  | nil : RepF K H [] []
  | cons {x : Str} {v : V} {vs : List (Str × V)} {d : D} {ds : List (Str × D)} : Rep K H v d → RepF K H vs ds → RepF K H ((x, v) :: vs) ((x, d) :: ds)
inductive RepE (K : PySem.W.Frag) (H : Hp) : List DK.Ent → List (D × D) → Prop
  | nil : RepE K H [] []
  | cons {k : NestedKey} {kv v : V} {es : List DK.Ent} {x d : D} {ds : List (D × D)} : keyD x = some k → Rep K H kv x → Rep K H v d → RepE K H es ds → RepE K H ((k, kv, v) :: es) ((x, d) :: ds)
end

theorem Same.sqT {K : PySem.W.Frag} {H H' : Hp} {a : Addr} {xs : List V} (e : Same H H') (h : SqT K H a xs) : SqT K H' a xs := by
  rcases h with (h | ⟨o, h⟩) | h
  · exact .inl (.inl (e _ _ h))
  · exact .inl (.inr ⟨o, e _ _ h⟩)
  · exact .inr h

section
variable {K : PySem.W.Frag} {H H' : Hp}
mutual
theorem Rep.same (e : Same H H') : ∀ {v : V} {d : D}, Rep K H v d → Rep K H' v d
  | _, _, .non => .non
  | _, _, .bl b => .bl b
  | _, _, .int i => .int i
  | _, _, .str x => .str x
  | _, _, .tup s r => .tup (Same.sqT e s) (Reps.same e r)
  | _, _, .lst s r => .lst (e _ _ s) (Reps.same e r)
  | _, _, .scr s => .scr (L2.Same.seq e s)
  | _, _, .ins s r => .ins (e _ _ s) (RepF.same e r)
  | _, _, .dic s r k => .dic (e _ _ s) (RepE.same e r) k
theorem Reps.same (e : Same H H') : ∀ {v : List V} {d : List D}, Reps K H v d → Reps K H' v d
  | _, _, .nil => .nil
  | _, _, .cons r s => .cons (Rep.same e r) (Reps.same e s)
theorem RepF.same (e : Same H H') : ∀ {v : List (Str × V)} {d : List (Str × D)}, RepF K H v d → RepF K H' v d
  | _, _, .nil => .nil
  | _, _, .cons r s => .cons (Rep.same e r) (RepF.same e s)
theorem RepE.same (e : Same H H') : ∀ {v : List DK.Ent} {d : List (D × D)}, RepE K H v d → RepE K H' v d
  | _, _, .nil => .nil
  | _, _, .cons k r q s => .cons k (Rep.same e r) (Rep.same e q) (RepE.same e s)
end
theorem Reps.length : ∀ {vs : List V} {ds : List D}, Reps K H vs ds → vs.length = ds.length
  | _, _, .nil => rfl
  | _, _, .cons _ r => by simp [Reps.length r]
theorem Reps.append : ∀ {vs us : List V} {ds es : List D}, Reps K H vs ds → Reps K H us es → Reps K H (vs ++ us) (ds ++ es)
  | _, _, _, _, .nil, s => s
  | _, _, _, _, .cons r t, s => .cons r (Reps.append t s)
theorem Reps.get : ∀ {vs : List V} {ds : List D} {i : Nat} {d : D}, Reps K H vs ds → ds[i]? = some d → ∃ v, vs[i]? = some v ∧ Rep K H v d
  | _, _, _, _, .nil, e => by simp at e
  | _, _, 0, _, .cons r _, e => by simp at e; subst e; exact ⟨_, rfl, r⟩
  | _, _, i + 1, d, .cons _ t, e => by
    obtain ⟨u, h1, h2⟩ := Reps.get (i := i) (d := d) t (by simpa using e)
    exact ⟨u, by simpa using h1, h2⟩
theorem Reps.getV : ∀ {vs : List V} {ds : List D} {i : Nat} {v : V}, Reps K H vs ds → vs[i]? = some v → ∃ d, ds[i]? = some d ∧ Rep K H v d
  | _, _, _, _, .nil, e => by simp at e
  | _, _, 0, _, .cons r _, e => by simp at e; subst e; exact ⟨_, rfl, r⟩
  | _, _, i + 1, v, .cons _ t, e => by
    obtain ⟨u, h1, h2⟩ := Reps.getV (i := i) (v := v) t (by simpa using e)
    exact ⟨u, by simpa using h1, h2⟩
theorem Reps.take : ∀ {vs : List V} {ds : List D} (n : Nat), Reps K H vs ds → Reps K H (vs.take n) (ds.take n)
  | _, _, 0, _ => .nil
  | _, _, _ + 1, .nil => .nil
  | _, _, n + 1, .cons r t => .cons r (Reps.take n t)
theorem Reps.drop : ∀ {vs : List V} {ds : List D} (n : Nat), Reps K H vs ds → Reps K H (vs.drop n) (ds.drop n)
  | _, _, 0, r => r
  | _, _, _ + 1, .nil => .nil
  | _, _, n + 1, .cons _ t => Reps.drop n t
theorem Reps.set {v : V} {d : D} (r : Rep K H v d) : ∀ {vs : List V} {ds : List D} (i : Nat), Reps K H vs ds → Reps K H (vs.set i v) (ds.set i d)
  | _, _, _, .nil => .nil
  | _, _, 0, .cons _ t => .cons r t
  | _, _, i + 1, .cons q t => .cons q (Reps.set r i t)
theorem Reps.rep {vs : List V} {ds : List D} (h : Reps K H vs ds) : ∀ k : Nat, Reps K H (List.replicate k vs).flatten (List.replicate k ds).flatten
  | 0 => .nil
  | k + 1 => by
    rw [List.replicate_succ, List.replicate_succ, List.flatten_cons, List.flatten_cons]
    exact h.append (Reps.rep h k)
theorem RepF.lookup {f : Str} : ∀ {fs : List (Str × V)} {ds : List (Str × D)} {d : D}, RepF K H fs ds → ds.lookup f = some d → ∃ v, fs.lookup f = some v ∧ Rep K H v d
  | _, _, _, .nil, e => by simp at e
  | _, _, d, .cons (x := x) r t, e => by
    simp only [List.lookup_cons] at e ⊢
    cases h : (f == x) with
    | true => rw [h] at e; simp at e; subst e; exact ⟨_, rfl, r⟩
    | false => rw [h] at e; simp at e; exact RepF.lookup t e
theorem RepF.none {f : Str} : ∀ {fs : List (Str × V)} {ds : List (Str × D)}, RepF K H fs ds → ds.lookup f = none → fs.lookup f = none
  | _, _, .nil, e => rfl
  | _, _, .cons (x := x) r t, e => by
    simp only [List.lookup_cons] at e ⊢
    cases h : (f == x) with
    | true => rw [h] at e; simp at e
    | false => rw [h] at e; exact RepF.none t e
end

/-! ### hidden places -/
open Classical in
noncomputable def hide (O : Addr → Prop) (H : Hp) : Hp := fun a => if O a then none else H a
section
variable {O O' : Addr → Prop} {H H' : Hp} {a : Addr} {o : HO}
theorem hide_some : hide O H a = some o ↔ (¬ O a ∧ H a = some o) := by
  unfold hide
  by_cases h : O a <;> simp [h]
theorem hide_same (e : Same H H') : Same (hide O H) (hide O H') := fun b o h => by
  rw [hide_some] at h ⊢
  exact ⟨h.1, e _ _ h.2⟩
theorem hide_sub (h : ∀ a, O' a → O a) : Same (hide O H) (hide O' H) := fun b o q => by
  rw [hide_some] at q ⊢
  exact ⟨fun z => q.1 (h _ z), q.2⟩
theorem hide_le : Same (hide O H) H := fun b o q => (hide_some.mp q).2
theorem hide_upd (ha : O a) : Same (hide O H) (hide O (upd H a o)) := fun b u q => by
  rw [hide_some] at q ⊢
  refine ⟨q.1, ?_⟩
  rw [upd_ne (fun e => q.1 (by rw [e]; exact ha))]
  exact q.2
theorem same_upd (h : H a = none) : Same H (upd H a o) := fun b x e => by
  rw [upd_ne (ne_of_none e h)]
  exact e
end

/-! ### names: what each slot holds -/
/-- none: nothing known; (false, d): the data d; (true, d): d, at an object that this name alone holds -/
abbrev Slot := Option (Bool × D)
abbrev DEnv := List Slot
inductive TopR (K : PySem.W.Frag) (Hh H : Hp) (a : Addr) : D → Prop
  | lst {vs : List V} {ds : List D} : H a = some (.lst vs) → Reps K Hh vs ds → TopR K Hh H a (.lst ds)
  | dic {o : Obj} {es : List DK.Ent} {ds : List (D × D)} {b : Bool} : H a = some (DK.tab a o es) → RepE K Hh es ds → Keys b es → TopR K Hh H a (.dic ds)
theorem TopR.same {K : PySem.W.Frag} {Hh Hh' H H' : Hp} {a : Addr} {d : D} (t : TopR K Hh H a d) (e : Same Hh Hh') (f : H' a = H a) : TopR K Hh' H' a d := by
  cases t with
  | lst h r => exact .lst (f.trans h) (r.same e)
  | dic h r k => exact .dic (f.trans h) (r.same e) k
theorem TopR.some {K : PySem.W.Frag} {Hh H : Hp} {a : Addr} {d : D} (t : TopR K Hh H a d) : ∃ o, H a = some o := by
  cases t with
  | lst h r => exact ⟨_, h⟩
  | dic h r k => exact ⟨_, h⟩
theorem TopR.rep {K : PySem.W.Frag} {Hh H Hk : Hp} {a : Addr} {d : D} (t : TopR K Hh H a d) (e : Same Hh Hk) (f : ∀ o, H a = .some o → Hk a = .some o) : Rep K Hk (.ref a) d := by
  cases t with
  | lst h r => exact .lst (f _ h) (r.same e)
  | dic h r k => exact .dic (f _ h) (r.same e) k
def hid (O0 : Addr → Prop) (ow : Nat → Option Addr) : Addr → Prop := fun a => O0 a ∨ ∃ j, ow j = some a
def SlotR (K : PySem.W.Frag) (Hh H : Hp) (o : Option V) (w : Option Addr) : Slot → Prop
  | none => True
  | some (false, d) => ∃ v, o = some v ∧ Rep K Hh v d
  | some (true, d) => ∃ a, w = some a ∧ o = some (.ref a) ∧ TopR K Hh H a d
structure Sl (K : PySem.W.Frag) (O0 : Addr → Prop) (H : Hp) (σ : L2.St) (ρ : DEnv) (ow : Nat → Option Addr) : Prop where
  len : σ.length = ρ.length
  inj : ∀ i j a, ow i = some a → ow j = some a → i = j
  out : ∀ i a, ow i = some a → ¬ O0 a
  trk : ∀ a, hid O0 ow a → ∃ o, H a = some o
  sl : ∀ (i : Nat) (s : Slot), ρ[i]? = some s → ∃ o, σ[i]? = some o ∧ SlotR K (hide (hid O0 ow) H) H o (ow i) s
section
variable {K : PySem.W.Frag} {O0 : Addr → Prop} {H H' : Hp} {σ : L2.St} {ρ : DEnv} {ow : Nat → Option Addr}
theorem Sl.same (S : Sl K O0 H σ ρ ow) (e : Same H H') : Sl K O0 H' σ ρ ow := by
  refine ⟨S.len, S.inj, S.out, fun a h => ?_, fun i s h => ?_⟩
  · obtain ⟨o, q⟩ := S.trk a h
    exact ⟨o, e _ _ q⟩
  · obtain ⟨o, h1, h2⟩ := S.sl i s h
    refine ⟨o, h1, ?_⟩
    match s, h2 with
    | none, _ => trivial
    | some (false, d), ⟨v, e1, r⟩ => exact ⟨v, e1, r.same (hide_same e)⟩
    | some (true, d), ⟨a, e1, e2, t⟩ =>
      obtain ⟨u, q⟩ := t.some
      exact ⟨a, e1, e2, t.same (hide_same e) (by rw [q, e _ _ q])⟩
end

/-! ### expressions -/
abbrev DE1 := DEnv → Option D
/-- kept values -/
def tDE (K : PySem.W.Frag) (f : DE1) : TE := fun σ H Q => ∃ O0 ow ρ, Sl K O0 H σ ρ ow ∧ ∃ d, f ρ = some d ∧ ∀ v H', Same H H' → Rep K (hide (hid O0 ow) H') v d → Q v H'
/-- values that are looked at, not kept -/
def BV (K : PySem.W.Frag) (Hh H : Hp) (v : V) (d : D) : Prop := Rep K Hh v d ∨ ∃ a, v = .ref a ∧ TopR K Hh H a d
def tDB (K : PySem.W.Frag) (f : DE1) : TE := fun σ H Q => ∃ O0 ow ρ, Sl K O0 H σ ρ ow ∧ ∃ d, f ρ = some d ∧ ∀ v H', Same H H' → BV K (hide (hid O0 ow) H') H' v d → Q v H'
/-- new objects -/
def tDF (K : PySem.W.Frag) (f : DE1) : TE := fun σ H Q => ∃ O0 ow ρ, Sl K O0 H σ ρ ow ∧ ∃ d, f ρ = some d ∧ ∀ a H', Same H H' → H a = none → TopR K (hide (fun b => hid O0 ow b ∨ b = a) H') H' a d → Q (.ref a) H'
def tDA (K : PySem.W.Frag) (f : DEnv → Option (List D)) : TA := fun σ H Q => ∃ O0 ow ρ, Sl K O0 H σ ρ ow ∧ ∃ ds, f ρ = some ds ∧ ∀ vs H', Same H H' → Reps K (hide (hid O0 ow) H') vs ds → Q vs H'
inductive BVs (K : PySem.W.Frag) (Hh H : Hp) : List V → List D → Prop
  | nil : BVs K Hh H [] []
  | cons {v vs d ds} : BV K Hh H v d → BVs K Hh H vs ds → BVs K Hh H (v :: vs) (d :: ds)
def tDAB (K : PySem.W.Frag) (f : DEnv → Option (List D)) : TA := fun σ H Q => ∃ O0 ow ρ, Sl K O0 H σ ρ ow ∧ ∃ ds, f ρ = some ds ∧ ∀ vs H', Same H H' → BVs K (hide (hid O0 ow) H') H' vs ds → Q vs H'
def DE (X : Cx) (e : Expr) (f : DE1) : Prop := PE X e (tDE X.K f)
def DB (X : Cx) (e : Expr) (f : DE1) : Prop := PE X e (tDB X.K f)
def DF (X : Cx) (e : Expr) (f : DE1) : Prop := PE X e (tDF X.K f)
def DA (X : Cx) (e : List Expr) (f : DEnv → Option (List D)) : Prop := PA X e (tDA X.K f)
def DAB (X : Cx) (e : List Expr) (f : DEnv → Option (List D)) : Prop := PA X e (tDAB X.K f)
/-- a test -/
def tDT (K : PySem.W.Frag) (f : DE1) : TT := fun σ H Q => ∃ O0 ow ρ, Sl K O0 H σ ρ ow ∧ ∃ b, f ρ = some (.bl b) ∧ ∀ H', Same H H' → Q b H'
def DT (X : Cx) (e : Expr) (f : DE1) : Prop := PT X e (tDT X.K f)

section
variable {X : Cx} {e a b c : Expr} {es : List Expr} {f g fa fb fc : DE1} {pos : Pos}
theorem PE.imp {t t' : TE} (h : PE X e t) (k : ∀ σ H Q, t' σ H Q → t σ H Q) : PE X e t' := ⟨fun pins s σ H Q I q => h.run pins s σ H Q I (k _ _ _ q)⟩
theorem PT.imp {t t' : TT} (h : PT X e t) (k : ∀ σ H Q, t' σ H Q → t σ H Q) : PT X e t' := ⟨fun pins s σ H Q I q => h.run pins s σ H Q I (k _ _ _ q)⟩
theorem PA.imp {t t' : TA} (h : PA X es t) (k : ∀ σ H Q, t' σ H Q → t σ H Q) : PA X es t' := ⟨fun pos pins s σ H Q I q => h.run pos pins s σ H Q I (k _ _ _ q)⟩
theorem BV.same {K : PySem.W.Frag} {Hh Hh' H H' : Hp} {v : V} {d : D} (h : BV K Hh H v d) (e1 : Same Hh Hh') (e2 : Same H H') : BV K Hh' H' v d := by
  rcases h with h | ⟨a, r, t⟩
  · exact .inl (h.same e1)
  · obtain ⟨o, q⟩ := t.some
    exact .inr ⟨a, r, t.same e1 (by rw [q, e2 _ _ q])⟩
theorem BVs.of {K : PySem.W.Frag} {Hh H : Hp} : ∀ {vs : List V} {ds : List D}, Reps K Hh vs ds → BVs K Hh H vs ds
  | _, _, .nil => .nil
  | _, _, .cons r t => .cons (.inl r) (BVs.of t)
theorem db_of (h : DE X e f) : DB X e f := PE.imp h fun σ H Q ⟨O0, ow, ρ, S, d, e, k⟩ => ⟨O0, ow, ρ, S, d, e, fun v H' s r => k v H' s (.inl r)⟩
theorem de_of (h : DF X e f) : DE X e f := PE.imp h fun σ H Q ⟨O0, ow, ρ, S, d, e, k⟩ => ⟨O0, ow, ρ, S, d, e, fun a H' s n t => k (.ref a) H' s (t.rep (hide_sub fun b z => .inl z) fun o q => hide_some.mpr ⟨fun z => (let ⟨u, w⟩ := S.trk a z; by rw [n] at w; cases w), q⟩)⟩
theorem dab_of (h : DA X es f') : DAB X es f' := PA.imp h fun σ H Q ⟨O0, ow, ρ, S, d, e, k⟩ => ⟨O0, ow, ρ, S, d, e, fun v H' s r => k v H' s (.of r)⟩

def eC (d : D) : DE1 := fun _ => some d
theorem de_int {i j pos} : DE X (.Constant (.int i) j pos) (eC (.int i)) := PE.imp pe_int fun σ H Q ⟨O0, ow, ρ, S, d, e, k⟩ => by
  cases e; exact k _ _ (.refl _) (.int i)
theorem de_bl {i j pos} : DE X (.Constant (.bool i) j pos) (eC (.bl i)) := PE.imp pe_bl fun σ H Q ⟨O0, ow, ρ, S, d, e, k⟩ => by
  cases e; exact k _ _ (.refl _) (.bl i)
theorem de_non {j pos} : DE X (.Constant .none j pos) (eC .non) := PE.imp pe_non fun σ H Q ⟨O0, ow, ρ, S, d, e, k⟩ => by
  cases e; exact k _ _ (.refl _) .non
theorem de_str {i j pos} : DE X (.Constant (.str i) j pos) (eC (.str i)) := PE.imp pe_str fun σ H Q ⟨O0, ow, ρ, S, d, e, k⟩ => by
  cases e; exact k _ _ (.refl _) (.str i)
def eV (i : Nat) : DE1 := fun ρ => match ρ[i]? with
  | some (some (false, d)) => some d
  | _ => none
def eVB (i : Nat) : DE1 := fun ρ => match ρ[i]? with
  | some (some (_, d)) => some d
  | _ => none
theorem de_var (i : Nat) {x : Str} {pos : Pos} (h : PE X (.Name x pos) (tVar i)) : DE X (.Name x pos) (eV i) := PE.imp h fun σ H Q ⟨O0, ow, ρ, S, d, e, k⟩ => by
  unfold eV at e
  split at e
  · rename_i d' h'
    cases e
    obtain ⟨o, h1, v, rfl, r⟩ := S.sl i _ h'
    exact ⟨v, h1, k v H (.refl _) r⟩
  · cases e
theorem db_var (i : Nat) {x : Str} {pos : Pos} (h : PE X (.Name x pos) (tVar i)) : DB X (.Name x pos) (eVB i) := PE.imp h fun σ H Q ⟨O0, ow, ρ, S, d, e, k⟩ => by
  unfold eVB at e
  split at e
  · rename_i fl d' h'
    cases e
    obtain ⟨o, h1, h2⟩ := S.sl i _ h'
    cases fl with
    | false =>
      obtain ⟨v, rfl, r⟩ := h2
      exact ⟨v, h1, k v H (.refl _) (.inl r)⟩
    | true =>
      obtain ⟨a, e1, rfl, t⟩ := h2
      exact ⟨.ref a, h1, k _ H (.refl _) (.inr ⟨a, rfl, t⟩)⟩
  · cases e
/-- a constant of the module -/
theorem de_glob {x : Str} {v : V} {d : D} {pos : Pos} (h : PE X (.Name x pos) (tC v)) (r : ∀ H, Rep X.K H v d) : DE X (.Name x pos) (eC d) := PE.imp h fun σ H Q ⟨O0, ow, ρ, S, d, e, k⟩ => by
  cases e; exact k _ _ (.refl _) (r _)
/-- two things, then an operation on them -/
def OpD (X : Cx) (f : Value → Value → Sem Value) (g : D → D → Option D) : Prop := ∃ r : R2, OpR X f r ∧ ∀ (O : Addr → Prop) (H : Hp) (x y : V) (p q d : D) (Q : VK), BV X.K (hide O H) H x p → BV X.K (hide O H) H y q → g p q = some d →
  (∀ v H', Same H H' → Rep X.K (hide O H') v d → Q v H') → (∀ a, O a → ∃ o, H a = some o) → r x y H Q
def e2 (g : D → D → Option D) (fa fb : DE1) : DE1 := fun ρ => (fa ρ).bind fun x => (fb ρ).bind fun y => g x y
theorem e2_some {g : D → D → Option D} {ρ : DEnv} {d : D} (h : e2 g fa fb ρ = some d) : ∃ x y, fa ρ = some x ∧ fb ρ = some y ∧ g x y = some d := by
  unfold e2 at h
  cases ea : fa ρ with
  | none => rw [ea] at h; cases h
  | some x =>
    cases eb : fb ρ with
    | none => rw [ea, eb] at h; cases h
    | some y => rw [ea, eb] at h; exact ⟨x, y, rfl, rfl, h⟩
theorem tOp_D {f : Value → Value → Sem Value} {g : D → D → Option D} {r : R2} (hr : ∀ (O : Addr → Prop) (H : Hp) (x y : V) (p q d : D) (Q : VK), BV X.K (hide O H) H x p → BV X.K (hide O H) H y q → g p q = some d →
  (∀ v H', Same H H' → Rep X.K (hide O H') v d → Q v H') → (∀ a, O a → ∃ o, H a = some o) → r x y H Q) : ∀ σ H Q, tDE X.K (e2 g fa fb) σ H Q → tOp r (tDB X.K fa) (tDB X.K fb) σ H Q := fun σ H Q ⟨O0, ow, ρ, S, d, e, k⟩ => by
  obtain ⟨p, q, ea, eb, eg⟩ := e2_some e
  refine ⟨O0, ow, ρ, S, p, ea, fun x H1 s1 r1 => ?_⟩
  refine ⟨O0, ow, ρ, S.same s1, q, eb, fun y H2 s2 r2 => ?_⟩
  exact hr _ H2 x y p q d Q (r1.same (hide_same s2) s2) r2 eg (fun v H' s r => k v H' ((s1.trans s2).trans s) r) ((S.same s1).same s2).trk
theorem de_op {op : Operator} {g : D → D → Option D} (ho : OpD X (binaryOp op) g) (ha : DB X a fa) (hb : DB X b fb) : DE X (.BinOp a op b pos) (e2 g fa fb) := by
  obtain ⟨r, o, h⟩ := ho
  exact PE.imp (pe_op o ha hb) (tOp_D (f := binaryOp op) h)
theorem de_cmp {op : CmpOp} {g : D → D → Option D} (ho : OpD X (compareOp op) g) (ha : DB X a fa) (hb : DB X b fb) (hm : behindInMarks op b = false) : DE X (.Compare a [op] [b] pos) (e2 g fa fb) := by
  obtain ⟨r, o, h⟩ := ho
  exact PE.imp (pe_cmpR o ha hb hm) (tOp_D (f := compareOp op) h)
theorem dt_cmp {op : CmpOp} {g : D → D → Option D} (ho : OpD X (compareOp op) g) (ha : DB X a fa) (hb : DB X b fb) (hm : behindInMarks op b = false) : DT X (.Compare a [op] [b] pos) (e2 g fa fb) := by
  obtain ⟨r, o, h⟩ := ho
  refine PT.imp (pt_cmpR o ha hb hm) fun σ H Q ⟨O0, ow, ρ, S, b, e, k⟩ => ?_
  exact tOp_D (f := compareOp op) h σ H _ ⟨O0, ow, ρ, S, _, e, fun v H' s r => by cases r; exact ⟨b, rfl, k H' s⟩⟩
/-- an expression that gives a truth value, as a test -/
theorem dt_val (h : DE X e f) (he : ∀ whole, isTrue e X.env whole = (do let v ← whole; standAt e.pos; holding [v] (truthy v)) := by intro _; rfl) : DT X e f := PT.imp (pt_val h he) fun σ H Q ⟨O0, ow, ρ, S, b, e, k⟩ =>
  ⟨O0, ow, ρ, S, _, e, fun v H' s r => by cases r; exact ⟨b, rfl, k H' s⟩⟩
end
end DL

set_option maxHeartbeats 4000000
namespace DL
open PySem PySem.Spec PyProof.Rows L2
variable [CT]

section
variable {K : PySem.W.Frag} {O0 : Addr → Prop} {H H' : Hp} {σ : L2.St} {ρ : DEnv} {ow : Nat → Option Addr} {i : Nat} {a : Addr} {v : V} {d : D}
theorem getset {α : Type} {l : List α} {i j : Nat} {x y : α} (h : (l.set i x)[j]? = some y) : (j = i ∧ y = x) ∨ (j ≠ i ∧ l[j]? = some y) := by
  by_cases e : j = i
  · subst e
    by_cases hl : j < l.length
    · rw [List.getElem?_set_self hl] at h; exact .inl ⟨rfl, (Option.some.inj h).symm⟩
    · rw [List.getElem?_eq_none (by simp; omega)] at h; cases h
  · rw [List.getElem?_set_ne (Ne.symm e)] at h; exact .inr ⟨e, h⟩
theorem setget {α : Type} {l : List α} {i : Nat} {x y : α} (h : l[i]? = some y) : (l.set i x)[i]? = some x := List.getElem?_set_self (List.getElem?_eq_some_iff.mp h).1
theorem inlen {α β : Type} {l : List α} {m : List β} {i : Nat} {y : α} (e : l.length = m.length) (h : l[i]? = some y) : ∃ x, m[i]? = some x := by
  have := (List.getElem?_eq_some_iff.mp h).1
  exact ⟨m[i]'(by omega), List.getElem?_eq_getElem (by omega)⟩
theorem Sl.set (S : Sl K O0 H σ ρ ow) (r : Rep K (hide (hid O0 ow) H) v d) : Sl K O0 H (σ.set i (some v)) (ρ.set i (some (false, d))) ow := by
  refine ⟨by simp [S.len], S.inj, S.out, S.trk, fun j s h => ?_⟩
  rcases getset h with ⟨rfl, rfl⟩ | ⟨ne, h⟩
  · have hl := (List.getElem?_eq_some_iff.mp h).1
    simp only [List.length_set, ← S.len] at hl
    exact ⟨_, List.getElem?_set_self hl, v, rfl, r⟩
  · obtain ⟨o, h1, h2⟩ := S.sl j s h
    exact ⟨o, by rw [List.getElem?_set_ne (Ne.symm ne)]; exact h1, h2⟩
theorem Sl.forget (S : Sl K O0 H σ ρ ow) : Sl K O0 H (σ.set i none) (ρ.set i none) ow := by
  refine ⟨by simp [S.len], S.inj, S.out, S.trk, fun j s h => ?_⟩
  rcases getset h with ⟨rfl, rfl⟩ | ⟨ne, h⟩
  · have hl := (List.getElem?_eq_some_iff.mp h).1
    simp only [List.length_set, ← S.len] at hl
    exact ⟨_, List.getElem?_set_self hl, trivial⟩
  · obtain ⟨o, h1, h2⟩ := S.sl j s h
    exact ⟨o, by rw [List.getElem?_set_ne (Ne.symm ne)]; exact h1, h2⟩
def owSet (ow : Nat → Option Addr) (i : Nat) (w : Option Addr) : Nat → Option Addr := fun j => if j = i then w else ow j
theorem Sl.setF (S : Sl K O0 H σ ρ ow) (e : Same H H') (n : H a = none) (t : TopR K (hide (fun b => hid O0 ow b ∨ b = a) H') H' a d) :
    Sl K O0 H' (σ.set i (some (.ref a))) (ρ.set i (some (true, d))) (owSet ow i (some a)) := by
  have nh : ¬ hid O0 ow a := fun z => by
    obtain ⟨u, w⟩ := S.trk a z
    rw [n] at w; cases w
  have sub : ∀ b, hid O0 (owSet ow i (some a)) b → hid O0 ow b ∨ b = a := fun b z => by
    rcases z with z | ⟨j, z⟩
    · exact .inl (.inl z)
    · unfold owSet at z
      split at z
      · exact .inr (Option.some.inj z).symm
      · exact .inl (.inr ⟨j, z⟩)
  have sm : Same (hide (hid O0 ow) H) (hide (hid O0 (owSet ow i (some a))) H') := fun b o q => by
    rw [hide_some] at q ⊢
    refine ⟨fun z => ?_, e _ _ q.2⟩
    rcases sub b z with z | z
    · exact q.1 z
    · subst z; rw [n] at q; cases q.2
  obtain ⟨u, hu⟩ := t.some
  refine ⟨by simp [S.len], fun j k b h1 h2 => ?_, fun j b h => ?_, fun b z => ?_, fun j s h => ?_⟩
  · unfold owSet at h1 h2
    split at h1 <;> split at h2
    · omega
    · cases h1; exact absurd (.inr ⟨k, h2⟩) nh
    · cases h2; exact absurd (.inr ⟨j, h1⟩) nh
    · exact S.inj j k b h1 h2
  · unfold owSet at h
    split at h
    · cases h; exact fun z => nh (.inl z)
    · exact S.out j b h
  · rcases sub b z with z | z
    · obtain ⟨o, q⟩ := S.trk b z
      exact ⟨o, e _ _ q⟩
    · subst z; exact ⟨u, hu⟩
  · rcases getset h with ⟨rfl, rfl⟩ | ⟨ne, h⟩
    · have hl := (List.getElem?_eq_some_iff.mp h).1
      simp only [List.length_set, ← S.len] at hl
      refine ⟨_, List.getElem?_set_self hl, a, by simp [owSet], rfl, t.same (hide_sub fun b z => sub b z) rfl⟩
    · obtain ⟨o, h1, h2⟩ := S.sl j s h
      refine ⟨o, by rw [List.getElem?_set_ne (Ne.symm ne)]; exact h1, ?_⟩
      have eo : owSet ow i (some a) j = ow j := by simp [owSet, ne]
      rw [eo]
      match s, h2 with
      | none, _ => trivial
      | some (false, d), ⟨v, e1, r⟩ => exact ⟨v, e1, r.same sm⟩
      | some (true, d), ⟨b, e1, e2, t'⟩ =>
        obtain ⟨u', q⟩ := t'.some
        exact ⟨b, e1, e2, t'.same sm (by rw [q, e _ _ q])⟩
/-- an object that one name alone holds is changed -/
theorem Sl.wr {o : HO} {d' : D} (S : Sl K O0 H σ ρ ow) (hi : ρ[i]? = some (some (true, d))) (ha : ow i = some a)
    (t : ∀ Hh, Same (hide (hid O0 ow) H) Hh → TopR K Hh (upd H a o) a d') : Sl K O0 (upd H a o) σ (ρ.set i (some (true, d'))) ow := by
  have hh : hid O0 ow a := .inr ⟨i, ha⟩
  refine ⟨by simp [S.len], S.inj, S.out, fun b z => ?_, fun j s h => ?_⟩
  · by_cases hb : b = a
    · subst hb; exact ⟨o, upd_same⟩
    · rw [upd_ne hb]; exact S.trk b z
  · rcases getset h with ⟨rfl, rfl⟩ | ⟨ne, h⟩
    · obtain ⟨x, h1, b, e1, e2, _⟩ := S.sl j _ hi
      rw [ha] at e1; cases e1
      exact ⟨x, h1, a, ha, e2, t _ (hide_upd hh)⟩
    · obtain ⟨x, h1, h2⟩ := S.sl j s h
      refine ⟨x, h1, ?_⟩
      match s, h2 with
      | none, _ => trivial
      | some (false, d), ⟨v, e1, r⟩ => exact ⟨v, e1, r.same (hide_upd hh)⟩
      | some (true, d), ⟨b, e1, e2, t'⟩ =>
        refine ⟨b, e1, e2, t'.same (hide_upd hh) ?_⟩
        rw [upd_ne]
        intro z; subst z; exact ne (S.inj _ _ _ e1 ha)
def frz (i : Nat) (ρ : DEnv) : DEnv := match ρ[i]? with
  | some (some (true, d)) => ρ.set i (some (false, d))
  | _ => ρ
theorem Sl.frz (S : Sl K O0 H σ ρ ow) : ∃ ow', Sl K O0 H σ (frz i ρ) ow' ∧ ∀ j b, ow' j = some b → ow j = some b := by
  unfold DL.frz
  split
  · rename_i d hi
    obtain ⟨x, h1, a, ha, e2, t⟩ := S.sl i _ hi
    have sub : ∀ b, hid O0 (owSet ow i none) b → hid O0 ow b := fun b z => by
      rcases z with z | ⟨j, z⟩
      · exact .inl z
      · unfold owSet at z
        split at z
        · cases z
        · exact .inr ⟨j, z⟩
    have ho : ∀ j b, owSet ow i none j = some b → ow j = some b ∧ j ≠ i := fun j b z => by
      unfold owSet at z
      split at z
      · cases z
      · rename_i q; exact ⟨z, q⟩
    have na : ¬ hid O0 (owSet ow i none) a := fun z => by
      rcases z with z | ⟨j, z⟩
      · exact S.out i a ha z
      · obtain ⟨z, q⟩ := ho j a z
        exact q (S.inj _ _ _ z ha)
    refine ⟨owSet ow i none, ⟨by simp [S.len], fun j k b h1 h2 => S.inj j k b (ho _ _ h1).1 (ho _ _ h2).1, fun j b h => S.out j b (ho _ _ h).1, fun b z => S.trk b (sub b z), fun j s h => ?_⟩, fun j b h => (ho j b h).1⟩
    rcases getset h with ⟨rfl, rfl⟩ | ⟨ne, h⟩
    · exact ⟨x, h1, _, e2, t.rep (hide_sub sub) fun o q => hide_some.mpr ⟨na, q⟩⟩
    · obtain ⟨o, h1, h2⟩ := S.sl j s h
      refine ⟨o, h1, ?_⟩
      have eo : owSet ow i none j = ow j := by simp [owSet, ne]
      rw [eo]
      match s, h2 with
      | none, _ => trivial
      | some (false, d), ⟨v, e1, r⟩ => exact ⟨v, e1, r.same (hide_sub sub)⟩
      | some (true, d), ⟨b, e1, e2, t'⟩ => exact ⟨b, e1, e2, t'.same (hide_sub sub) rfl⟩
  · exact ⟨ow, S, fun _ _ h => h⟩
end

/-! ### statements -/
inductive Fl where
  | nx (ρ : DEnv) | rt (d : D) | bk (ρ : DEnv) | ct (ρ : DEnv) | stuck
abbrev DS1 := DEnv → Fl
def Stt (K : PySem.W.Frag) (H0 : Hp) (O0 : Addr → Prop) (σ : L2.St) (H : Hp) (ρ : DEnv) : Prop := Same H0 H ∧ ∃ ow, Sl K O0 H σ ρ ow ∧ ∀ i a, ow i = some a → H0 a = none
def Post (K : PySem.W.Frag) (H0 : Hp) (O0 : Addr → Prop) (N : Ends) : Fl → Prop
  | .nx ρ => ∀ σ H, Stt K H0 O0 σ H ρ → N.nx σ H
  | .bk ρ => ∀ σ H, Stt K H0 O0 σ H ρ → N.bk σ H
  | .ct ρ => ∀ σ H, Stt K H0 O0 σ H ρ → N.ct σ H
  | .rt d => ∀ v H, Same H0 H → Rep K (hide O0 H) v d → N.rt v H
  | .stuck => False
def tDS (K : PySem.W.Frag) (g : DS1) : TS := fun N σ H => ∃ H0 O0 ρ, Stt K H0 O0 σ H ρ ∧ Post K H0 O0 N (g ρ)
def DS (X : Cx) (st : Stmt) (g : DS1) : Prop := PS X st (tDS X.K g)
def DSs (X : Cx) (st : List Stmt) (g : DS1) : Prop := PSs X st (tDS X.K g)
theorem PS.imp {X : Cx} {st : Stmt} {t t' : TS} (h : PS X st t) (k : ∀ N σ H, t' N σ H → t N σ H) : PS X st t' := ⟨fun pins s σ H N I q => h.run pins s σ H N I (k _ _ _ q)⟩
theorem PSs.imp {X : Cx} {st : List Stmt} {t t' : TS} (h : PSs X st t) (k : ∀ N σ H, t' N σ H → t N σ H) : PSs X st t' := ⟨fun pins s σ H N I q => h.run pins s σ H N I (k _ _ _ q)⟩
theorem Stt.same {K : PySem.W.Frag} {H0 H H' : Hp} {O0 : Addr → Prop} {σ : L2.St} {ρ : DEnv} (S : Stt K H0 O0 σ H ρ) (e : Same H H') : Stt K H0 O0 σ H' ρ := by
  obtain ⟨s, ow, S, h⟩ := S
  exact ⟨s.trans e, ow, S.same e, h⟩

section
variable {X : Cx} {st : Stmt} {rest : List Stmt} {g g' : DS1} {e c : Expr} {f fc : DE1} {pos : Pos}
def gNx : DS1 := fun ρ => .nx ρ
def gStuck : DS1 := fun _ => .stuck
def gSeq (g g' : DS1) : DS1 := fun ρ => match g ρ with
  | .nx ρ1 => g' ρ1
  | x => x
theorem dss_nil : DSs X [] gNx := PSs.imp pss_nil fun N σ H ⟨H0, O0, ρ, S, p⟩ => p σ H S
theorem dss_cons (h1 : DS X st g) (h2 : DSs X rest g') : DSs X (st :: rest) (gSeq g g') := PSs.imp (pss_cons h1 h2) fun N σ H ⟨H0, O0, ρ, S, p⟩ => by
  refine ⟨H0, O0, ρ, S, ?_⟩
  unfold gSeq at p
  cases e : g ρ with
  | nx ρ1 => rw [e] at p; exact fun σ' H' S' => ⟨H0, O0, ρ1, S', p⟩
  | rt d => rw [e] at p; exact p
  | bk ρ => rw [e] at p; exact p
  | ct ρ => rw [e] at p; exact p
  | stuck => rw [e] at p; exact p
theorem dss_one (h1 : DS X st g) : DSs X [st] g := pss_one h1
theorem ds_frz (i : Nat) (h : DS X st g) : DS X st (fun ρ => g (frz i ρ)) := PS.imp h fun N σ H ⟨H0, O0, ρ, S, p⟩ => by
  obtain ⟨s, ow, S, h⟩ := S
  obtain ⟨ow', S', k⟩ := S.frz (i := i)
  exact ⟨H0, O0, frz i ρ, ⟨s, ow', S', fun j a q => h j a (k j a q)⟩, p⟩
theorem ds_stuck : DS X st gStuck := PS.imp ps_never fun N σ H ⟨H0, O0, ρ, S, p⟩ => p
theorem dss_stuck {sts : List Stmt} : DSs X sts gStuck := PSs.imp pss_never fun N σ H ⟨H0, O0, ρ, S, p⟩ => p
theorem ds_pass : DS X (.Pass pos) gNx := PS.imp ps_pass fun N σ H ⟨H0, O0, ρ, S, p⟩ => p σ H S
theorem ds_brk : DS X (.Break pos) (fun ρ => .bk ρ) := PS.imp ps_break fun N σ H ⟨H0, O0, ρ, S, p⟩ => p σ H S
theorem ds_cnt : DS X (.Continue pos) (fun ρ => .ct ρ) := PS.imp ps_continue fun N σ H ⟨H0, O0, ρ, S, p⟩ => p σ H S
def gRet (f : DE1) : DS1 := fun ρ => match f ρ with
  | some d => .rt d
  | none => .stuck
theorem ret_post {K : PySem.W.Frag} {t : TE} (ht : ∀ σ H Q, tDE K f σ H Q → t σ H Q) : ∀ N σ H, tDS K (gRet f) N σ H → tRet t N σ H := fun N σ H ⟨H0, O0, ρ, ⟨s, ow, S, h⟩, p⟩ => by
  unfold gRet at p
  cases e : f ρ with
  | none => rw [e] at p; exact p.elim
  | some d =>
    rw [e] at p
    exact ht _ _ _ ⟨O0, ow, ρ, S, d, e, fun v H' s' r => p v H' (s.trans s') (r.same (hide_sub fun b z => .inl z))⟩
theorem ds_ret (he : DE X e f) : DS X (.Return (some e) pos) (gRet f) := PS.imp (ps_ret he) (ret_post fun _ _ _ q => q)
theorem ds_retN : DS X (.Return none pos) (gRet (eC .non)) := PS.imp ps_retN fun N σ H ⟨H0, O0, ρ, ⟨s, ow, S, h⟩, p⟩ => p .non H s .non
def gIf (c : DE1) (g g' : DS1) : DS1 := fun ρ => match c ρ with
  | some (.bl true) => g ρ
  | some (.bl false) => g' ρ
  | _ => .stuck
theorem ds_if {A B : List Stmt} (hc : DT X c fc) (ha : DSs X A g) (hb : DSs X B g') : DS X (.If c A B pos) (gIf fc g g') := PS.imp (ps_if hc ha hb) fun N σ H ⟨H0, O0, ρ, S, p⟩ => by
  obtain ⟨s, ow, S1, h⟩ := id S
  unfold gIf at p
  split at p
  · rename_i e
    exact ⟨O0, ow, ρ, S1, true, e, fun H' s' => iteT ⟨H0, O0, ρ, S.same s', p⟩⟩
  · rename_i e
    exact ⟨O0, ow, ρ, S1, false, e, fun H' s' => iteF ⟨H0, O0, ρ, S.same s', p⟩⟩
  · exact p.elim
def gSet (i : Nat) (f : DE1) : DS1 := fun ρ => match f ρ with
  | some d => .nx (ρ.set i (some (false, d)))
  | none => .stuck
def gSetF (i : Nat) (f : DE1) : DS1 := fun ρ => match f ρ with
  | some d => .nx (ρ.set i (some (true, d)))
  | none => .stuck
theorem set_post {K : PySem.W.Frag} {i : Nat} : ∀ N σ H, tDS K (gSet i f) N σ H → tAsg (tDE K f) (gName i) N σ H := fun N σ H ⟨H0, O0, ρ, ⟨s, ow, S, h⟩, p⟩ => by
  unfold gSet at p
  cases e : f ρ with
  | none => rw [e] at p; exact p.elim
  | some d =>
    rw [e] at p
    exact ⟨O0, ow, ρ, S, d, e, fun v H' s' r => p _ H' ⟨s.trans s', ow, (S.same s').set r, h⟩⟩
theorem setF_post {K : PySem.W.Frag} {i : Nat} : ∀ N σ H, tDS K (gSetF i f) N σ H → tAsg (tDF K f) (gName i) N σ H := fun N σ H ⟨H0, O0, ρ, ⟨s, ow, S, h⟩, p⟩ => by
  unfold gSetF at p
  cases e : f ρ with
  | none => rw [e] at p; exact p.elim
  | some d =>
    rw [e] at p
    refine ⟨O0, ow, ρ, S, d, e, fun a H' s' n t => p _ H' ⟨s.trans s', _, S.setF s' n t, fun j b q => ?_⟩⟩
    unfold owSet at q
    split at q
    · cases q; exact Same.free s n
    · exact h j b q
theorem ds_set (i : Nat) {x : Str} {pos' : Pos} (hN : X.N.Nodup) (he : DE X e f) (hi : X.N[i]? = some x := by rfl) (hx : Loc X.env.scope x := by first | exact .inl rfl | exact .inr rfl)
    (hs : swapsWith e (some (.Name x pos')) pos.line X.env = pure false := by rfl) (hf : X.fn x = true ∨ X.env.scope.names.lookup x = some .local := by first | exact .inl rfl | exact .inr rfl | assumption) :
    DS X (.Assign [.Name x pos'] e pos) (gSet i f) := PS.imp (ps_set hN hi hx he hs hf) set_post
theorem ds_setF (i : Nat) {x : Str} {pos' : Pos} (hN : X.N.Nodup) (he : DF X e f) (hi : X.N[i]? = some x := by rfl) (hx : Loc X.env.scope x := by first | exact .inl rfl | exact .inr rfl)
    (hs : swapsWith e (some (.Name x pos')) pos.line X.env = pure false := by rfl) (hf : X.fn x = true ∨ X.env.scope.names.lookup x = some .local := by first | exact .inl rfl | exact .inr rfl | assumption) :
    DS X (.Assign [.Name x pos'] e pos) (gSetF i f) := PS.imp (ps_set hN hi hx he hs hf) setF_post

/-! ### targets -/
def tDG (K : PySem.W.Frag) (is : List Nat) (b : D → DEnv → Option DEnv) : TG := fun v σ H Q => ∃ O0 ow ρ d, Sl K O0 H σ ρ ow ∧ Rep K (hide (hid O0 ow) H) v d ∧ ∃ ρ', b d ρ = some ρ' ∧
  ∀ σ', Sl K O0 H σ' ρ' ow → (∀ vs, (∀ i ∈ is, i ∈ vs) → wipe σ' vs = wipe σ vs) → Q σ' H
def tDGs (K : PySem.W.Frag) (is : List Nat) (b : List D → DEnv → Option DEnv) : TGs := fun v σ H Q => ∃ O0 ow ρ d, Sl K O0 H σ ρ ow ∧ Reps K (hide (hid O0 ow) H) v d ∧ ∃ ρ', b d ρ = some ρ' ∧
  ∀ σ', Sl K O0 H σ' ρ' ow → (∀ vs, (∀ i ∈ is, i ∈ vs) → wipe σ' vs = wipe σ vs) → Q σ' H
def DG (X : Cx) (tg : Expr) (is : List Nat) (b : D → DEnv → Option DEnv) : Prop := PG X tg (tDG X.K is b)
def DGs (X : Cx) (tg : List Expr) (is : List Nat) (b : List D → DEnv → Option DEnv) : Prop := PGs X tg (tDGs X.K is b)
theorem PG.imp {tg : Expr} {t t' : TG} (h : PG X tg t) (k : ∀ v σ H Q, t' v σ H Q → t v σ H Q) : PG X tg t' := ⟨fun pins s σ H v u Q I r q => h.run pins s σ H v u Q I r (k _ _ _ _ q)⟩
theorem PGs.imp {tg : List Expr} {t t' : TGs} (h : PGs X tg t) (k : ∀ v σ H Q, t' v σ H Q → t v σ H Q) : PGs X tg t' := ⟨fun pins s σ H v u Q I r q => h.run pins s σ H v u Q I r (k _ _ _ _ q)⟩
theorem wipe_set {σ : L2.St} {i : Nat} {o : Option V} : ∀ {vs : List Nat}, i ∈ vs → wipe (σ.set i o) vs = wipe σ vs
  | v :: vs, h => by
    unfold wipe
    by_cases hv : i ∈ vs
    · rw [wipe_set hv]
    · have e : i = v := by simpa [hv] using h
      subst e
      have comm : ∀ (ws : List Nat), (wipe (σ.set i o) ws).set i none = (wipe σ ws).set i none := by
        intro ws
        induction ws with
        | nil => show (σ.set i o).set i none = σ.set i none; rw [List.set_set]
        | cons w ws ih =>
          show ((wipe (σ.set i o) ws).set w none).set i none = ((wipe σ ws).set w none).set i none
          by_cases hw : w = i
          · subst hw; rw [List.set_set, List.set_set]; exact ih
          · rw [List.set_comm _ _ hw, ih, List.set_comm _ _ hw]
      exact comm vs
def bN (i : Nat) : D → DEnv → Option DEnv := fun d ρ => some (ρ.set i (some (false, d)))
def bT (b : List D → DEnv → Option DEnv) : D → DEnv → Option DEnv := fun d ρ => match d with
  | .tup ds => b ds ρ
  | _ => none
def bNil : List D → DEnv → Option DEnv := fun ds ρ => match ds with
  | [] => some ρ
  | _ => none
def bCons (b : D → DEnv → Option DEnv) (bs : List D → DEnv → Option DEnv) : List D → DEnv → Option DEnv := fun ds ρ => match ds with
  | d :: ds => (b d ρ).bind (bs ds)
  | _ => none
theorem dg_name (i : Nat) {x : Str} {pos : Pos} (hN : X.N.Nodup) (hi : X.N[i]? = some x := by rfl) (hx : Loc X.env.scope x := by first | exact .inl rfl | exact .inr rfl) (hf : X.fn x = true ∨ X.env.scope.names.lookup x = some .local := by first | exact .inl rfl | exact .inr rfl | assumption) :
    DG X (.Name x pos) [i] (bN i) := PG.imp (pg_name hN hi hx hf) fun v σ H Q ⟨O0, ow, ρ, d, S, r, ρ', e, k⟩ => by
  cases e
  exact k _ (S.set r) fun vs h => wipe_set (h i (by simp))
theorem dgs_nil : DGs X [] [] bNil := PGs.imp pgs_nil fun v σ H Q ⟨O0, ow, ρ, d, S, r, ρ', e, k⟩ => by
  cases r with
  | nil => cases e; exact ⟨rfl, k _ S fun _ _ => rfl⟩
  | cons _ _ => cases e
theorem dgs_cons {e : Expr} {es : List Expr} {is js : List Nat} {b : D → DEnv → Option DEnv} {bs : List D → DEnv → Option DEnv} (h1 : DG X e is b) (h2 : DGs X es js bs)
    (hs : (assignEach (e :: es) X.env).map (·.2) = assign e X.env :: (assignEach es X.env).map (·.2) := by rfl) : DGs X (e :: es) (is ++ js) (bCons b bs) := PGs.imp (pgs_cons h1 h2 hs) fun v σ H Q ⟨O0, ow, ρ, d, S, r, ρ', e, k⟩ => by
  cases r with
  | nil => cases e
  | @cons v1 vs1 d1 ds1 r rr =>
    have e : (b d1 ρ).bind (bs ds1) = some ρ' := e
    cases eb : b d1 ρ with
    | none => rw [eb] at e; cases e
    | some ρ1 =>
      rw [eb] at e
      exact ⟨_, _, rfl, O0, ow, ρ, d1, S, r, ρ1, eb, fun σ1 S1 w1 => ⟨O0, ow, ρ1, ds1, S1, rr, ρ', e, fun σ2 S2 w2 => k σ2 S2 fun us hu => (w2 us fun i hi => hu i (List.mem_append_right _ hi)).trans (w1 us fun i hi => hu i (List.mem_append_left _ hi))⟩⟩
theorem dg_tup {es : List Expr} {k : Nat} {is : List Nat} {b : List D → DEnv → Option DEnv} (n : Nat) (hc : X.calm = true) (h : DGs X es is b) (hb : ∀ ds ρ ρ', b ds ρ = some ρ' → ds.length = n)
    (hn : (assignEach es X.env).length = n := by rfl) (hst : (assignEach es X.env).findIdx? (·.1) = none := by rfl) : DG X (.Tuple es k pos) is (bT b) := PG.imp (pg_tup hc h hn hst) fun v σ H Q ⟨O0, ow, ρ, d, S, r, ρ', e, q⟩ => by
  unfold bT at e
  cases r with
  | tup s rs => exact ⟨_, _, rfl, Same.sqT hide_le s, (rs.length).trans (hb _ _ _ e), O0, ow, ρ, _, S, rs, ρ', e, q⟩
  | _ => cases e
theorem bNil_len : ∀ ds ρ ρ', bNil ds ρ = some ρ' → ds.length = 0 := fun ds ρ ρ' h => by
  cases ds with
  | nil => rfl
  | cons _ _ => cases h
theorem bCons_len {b : D → DEnv → Option DEnv} {bs : List D → DEnv → Option DEnv} {n : Nat} (h : ∀ ds ρ ρ', bs ds ρ = some ρ' → ds.length = n) : ∀ ds ρ ρ', bCons b bs ds ρ = some ρ' → ds.length = n + 1 := fun ds ρ ρ' e => by
  cases ds with
  | nil => cases e
  | cons d ds =>
    have e : (b d ρ).bind (bs ds) = some ρ' := e
    cases eb : b d ρ with
    | none => rw [eb] at e; cases e
    | some ρ1 => rw [eb] at e; simp [h _ _ _ e]
def gAsg (f : DE1) (b : D → DEnv → Option DEnv) : DS1 := fun ρ => match (f ρ).bind fun d => b d ρ with
  | some ρ' => .nx ρ'
  | none => .stuck
theorem ds_asg {tg : Expr} {is : List Nat} {b : D → DEnv → Option DEnv} (he : DE X e f) (hg : DG X tg is b) (hs : swapsWithSole [tg] e pos.line X.env = pure false := by rfl) (hw : swappedStores [tg] e X.env = pure none := by rfl)
    (h1 : (assignEach [tg] X.env).map (·.2) = [assign tg X.env] := by rfl) : DS X (.Assign [tg] e pos) (gAsg f b) := PS.imp (ps_asg he hg hs hw h1) fun N σ H ⟨H0, O0, ρ, ⟨s, ow, S, h⟩, p⟩ => by
  unfold gAsg at p
  cases e : f ρ with
  | none => rw [e] at p; exact p.elim
  | some d =>
    rw [e] at p
    cases eb : b d ρ with
    | none => simp [eb] at p; exact p.elim
    | some ρ' =>
      simp only [Option.bind_some, eb] at p
      exact ⟨O0, ow, ρ, S, d, e, fun v H' s' r => ⟨O0, ow, ρ, d, S.same s', r, ρ', eb, fun σ' S' _ => p σ' H' ⟨s.trans s', ow, S', h⟩⟩⟩
end
end DL

set_option maxHeartbeats 4000000
namespace DL
open PySem PySem.Spec PyProof.Rows L2
variable [CT]

/-! ### what is walked -/
structure Walks (K : PySem.W.Frag) (O : Addr → Prop) (J : It) (H1 : Hp) (ds : List D) : Prop where
  stop : ∀ H, Same (hide O H1) H → J.stop ds.length H
  go : ∀ i d H, Same (hide O H1) H → ds[i]? = some d → J.go i H
  yld : ∀ i d H x H', Same (hide O H1) H → ds[i]? = some d → J.yld i H x H' → Same H H' ∧ ∀ O' : Addr → Prop, (∀ b, O' b → O b ∨ H1 b = none) → (∀ b, O' b → ∃ o, H b = some o) → Rep K (hide O' H') x d
def tDI (K : PySem.W.Frag) (f : DEnv → Option (List D)) : TI := fun σ H R => ∃ O0 ow ρ, Sl K O0 H σ ρ ow ∧ ∃ ds, f ρ = some ds ∧ ∀ J H1, Same H H1 → Walks K (hid O0 ow) J H1 ds → R J H1
def DI (X : Cx) (tg iter : Expr) (f : DEnv → Option (List D)) : Prop := PI X tg iter (tDI X.K f)
theorem PI.imp {X : Cx} {tg e : Expr} {t t' : TI} (h : PI X tg e t) (k : ∀ σ H Q, t' σ H Q → t σ H Q) : PI X tg e t' := ⟨fun pins s σ H Q I q => h.run pins s σ H Q I (k _ _ _ q)⟩
theorem keepO {O O' : Addr → Prop} {H1 H : Hp} (e : Same (hide O H1) H) (h : ∀ b, O' b → O b ∨ H1 b = none) : Same (hide O H1) (hide O' H) := fun b o q => by
  refine hide_some.mpr ⟨fun z => ?_, e b o q⟩
  rw [hide_some] at q
  rcases h b z with z | z
  · exact q.1 z
  · rw [z] at q; cases q.2
section
variable {X : Cx} {tg e e' : Expr} {f f' : DE1} {p pos tpos : Pos}
def iL (f : DE1) : DEnv → Option (List D) := fun ρ => match f ρ with
  | some (.lst ds) => some ds
  | _ => none
def iT (f : DE1) : DEnv → Option (List D) := fun ρ => match f ρ with
  | some (.tup ds) => some ds
  | _ => none
theorem di_list (h : DE X e f) : DI X tg e (iL f) := PI.imp (pi_list h) fun σ H R ⟨O0, ow, ρ, S, ds, q, k⟩ => by
  unfold iL at q
  split at q
  · rename_i ds' ef
    cases q
    refine ⟨O0, ow, ρ, S, _, ef, fun v H1 s r => ?_⟩
    cases r with
    | lst sq rs =>
      rename_i a vs
      have ln := rs.length
      refine ⟨a, rfl, ⟨vs, SqL.of (hide_le _ _ sq)⟩, k _ H1 s ⟨fun H2 e2 => ⟨vs, SqL.of (e2 _ _ sq), by omega⟩, fun i d H2 e2 hd => ?_, fun i d H2 x H3 e2 hd y => ?_⟩⟩
      · obtain ⟨v, hv, _⟩ := rs.get hd
        exact ⟨vs, v, SqL.of (e2 _ _ sq), hv⟩
      · obtain ⟨v, hv, r⟩ := rs.get hd
        obtain ⟨rfl, y⟩ := y
        have := y vs (SqL.of (e2 _ _ sq))
        rw [hv] at this; cases this
        exact ⟨.refl _, fun O' h1 h2 => r.same (keepO e2 h1)⟩
  · cases q
theorem di_tup (h : DE X e f) : DI X tg e (iT f) := PI.imp (pi_tup h) fun σ H R ⟨O0, ow, ρ, S, ds, q, k⟩ => by
  unfold iT at q
  split at q
  · rename_i ds' ef
    cases q
    refine ⟨O0, ow, ρ, S, _, ef, fun v H1 s r => ?_⟩
    cases r with
    | tup sq rs =>
      rename_i a vs
      have ln := rs.length
      refine ⟨a, rfl, ⟨vs, DL.Same.sqT hide_le sq⟩, k _ H1 s ⟨fun H2 e2 => ⟨vs, DL.Same.sqT e2 sq, by omega⟩, fun i d H2 e2 hd => ?_, fun i d H2 x H3 e2 hd y => ?_⟩⟩
      · obtain ⟨v, hv, _⟩ := rs.get hd
        exact ⟨vs, v, DL.Same.sqT e2 sq, hv⟩
      · obtain ⟨v, hv, r⟩ := rs.get hd
        obtain ⟨rfl, y⟩ := y
        have := y vs (DL.Same.sqT e2 sq)
        rw [hv] at this; cases this
        exact ⟨.refl _, fun O' h1 h2 => r.same (keepO e2 h1)⟩
  · cases q
def rngD (a b : Int) : List D := (List.range (b - a).toNat).map fun i => D.int (a + (i : Nat))
theorem rngD_length (a b : Int) : (rngD a b).length = (b - a).toNat := by simp [rngD]
theorem rngD_get {a b : Int} {i : Nat} {d : D} (h : (rngD a b)[i]? = some d) : d = .int (a + i) ∧ i < (b - a).toNat := by
  unfold rngD at h
  rw [List.getElem?_map] at h
  by_cases hi : i < (b - a).toNat
  · rw [List.getElem?_eq_getElem (by simpa using hi)] at h
    simp at h
    exact ⟨h.symm, hi⟩
  · rw [List.getElem?_eq_none (by simp; omega)] at h; cases h
def rngOk (a b : Int) : Bool := decide (-1000000 ≤ a ∧ a ≤ 1000000 ∧ -1000000 ≤ b ∧ b ≤ 1000000)
def iR1 (f : DE1) : DEnv → Option (List D) := fun ρ => match f ρ with
  | some (.int j) => if rngOk 0 j then some (rngD 0 j) else none
  | _ => none
def iR2 (f g : DE1) : DEnv → Option (List D) := fun ρ => match f ρ, g ρ with
  | some (.int i), some (.int j) => if rngOk i j then some (rngD i j) else none
  | _, _ => none
theorem walks_rng {K : PySem.W.Frag} {O : Addr → Prop} {H1 : Hp} {a b : Int} {n : Nat} (hn : n = (b - a).toNat) : Walks K O (Itr a n) H1 (rngD a b) := by
  subst hn
  refine ⟨fun H2 _ => by rw [rngD_length]; exact Nat.le_refl _, fun i d H2 _ hd => (rngD_get hd).2, fun i d H2 x H3 _ hd y => ?_⟩
  obtain ⟨rfl, rfl⟩ := y
  rw [(rngD_get hd).1]
  exact ⟨.refl _, fun _ _ _ => .int _⟩
theorem di_range1 (hg : Gl X "range") (hm : X.mg "range" = none) (h : DE X e f) (hs : starEach [e] X.env = [(false, eval e X.env)] := by rfl) : DI X tg (.Call (.Name "range" p) [e] [] pos) (iR1 f) :=
  PI.imp (pi_range1 hg hm (pa_cons h pa_nil (hs := hs)) hs) fun σ H R ⟨O0, ow, ρ, S, ds, q, k⟩ => by
  unfold iR1 at q
  split at q
  · rename_i j ef
    split at q
    · rename_i hr
      cases q
      have hb := of_decide_eq_true hr
      refine ⟨O0, ow, ρ, S, _, ef, fun v H1 s r => ?_⟩
      cases r
      exact ⟨j, rfl, by omega, by omega, k _ H1 s (walks_rng (by omega))⟩
    · cases q
  · cases q
theorem di_range2 (hg : Gl X "range") (hm : X.mg "range" = none) (h : DE X e f) (h' : DE X e' f') (hs : starEach [e, e'] X.env = [(false, eval e X.env), (false, eval e' X.env)] := by rfl) (hs2 : starEach [e'] X.env = [(false, eval e' X.env)] := by rfl) :
    DI X tg (.Call (.Name "range" p) [e, e'] [] pos) (iR2 f f') :=
  PI.imp (pi_range2 hg hm (pa_cons h (pa_cons h' pa_nil hs2) (by rw [hs, hs2])) hs hs2) fun σ H R ⟨O0, ow, ρ, S, ds, q, k⟩ => by
  unfold iR2 at q
  split at q
  · rename_i i j ef ef'
    split at q
    · rename_i hr
      cases q
      have hb := of_decide_eq_true hr
      refine ⟨O0, ow, ρ, S, _, ef, fun v H1 s r => ?_⟩
      cases r
      refine ⟨O0, ow, ρ, S.same s, _, ef', fun v H2 s2 r => ?_⟩
      cases r
      exact ⟨i, j, rfl, by omega, k _ H2 (s.trans s2) (walks_rng rfl)⟩
    · cases q
  · cases q
def zipD : List D → List D → List D
  | x :: xs, y :: ys => .tup [x, y] :: zipD xs ys
  | _, _ => []
theorem zipD_length : ∀ xs ys : List D, (zipD xs ys).length = min xs.length ys.length
  | [], _ => by simp [zipD]
  | _ :: _, [] => by simp [zipD]
  | x :: xs, y :: ys => by simp [zipD, zipD_length xs ys]
theorem zipD_get : ∀ {xs ys : List D} {i : Nat} {d : D}, (zipD xs ys)[i]? = some d → ∃ x y, xs[i]? = some x ∧ ys[i]? = some y ∧ d = .tup [x, y]
  | [], ys, i, d, h => by simp [zipD] at h
  | _ :: _, [], i, d, h => by simp [zipD] at h
  | x :: xs, y :: ys, 0, d, h => by simp [zipD] at h; exact ⟨x, y, rfl, rfl, h.symm⟩
  | x :: xs, y :: ys, i + 1, d, h => by
    obtain ⟨a, b, h1, h2, h3⟩ := zipD_get (xs := xs) (ys := ys) (i := i) (by simpa [zipD] using h)
    exact ⟨a, b, by simpa using h1, by simpa using h2, h3⟩
def iZ (f g : DE1) : DEnv → Option (List D) := fun ρ => match f ρ, g ρ with
  | some (.lst xs), some (.lst ys) => some (zipD xs ys)
  | some (.tup xs), some (.tup ys) => some (zipD xs ys)
  | _, _ => none
/-- a new pair of two that stand -/
theorem pair_rep {K : PySem.W.Frag} {O O' : Addr → Prop} {H1 H2 : Hp} {T : Addr} {x y : V} {p q : D} (e2 : Same (hide O H1) H2) (nT : H2 T = none) (h1 : ∀ b, O' b → O b ∨ H1 b = none) (h2 : ∀ b, O' b → ∃ o, H2 b = some o)
    (rx : Rep K (hide O H1) x p) (ry : Rep K (hide O H1) y q) : Rep K (hide O' (upd H2 T (.tup [x, y]))) (.ref T) (.tup [p, q]) := by
  have sm : Same (hide O H1) (hide O' (upd H2 T (.tup [x, y]))) := keepO (e2.trans (same_upd nT)) h1
  have nO : ¬ O' T := fun z => by
    obtain ⟨o, w⟩ := h2 T z
    rw [nT] at w; cases w
  exact .tup (SqT.of (hide_some.mpr ⟨nO, upd_same⟩)) (.cons (rx.same sm) (.cons (ry.same sm) .nil))
theorem di_zip {elts : List Expr} {kk : Nat} (hg : Gl X "zip") (hm : X.mg "zip" = none) (h : DE X e f) (h' : DE X e' f') (hs : starEach [e, e'] X.env = (false, eval e X.env) :: starEach [e'] X.env := by rfl) (hpl : (backTo pos (starEach [e'] X.env)).any (·.1) = false := by rfl) (hs2 : starEach [e'] X.env = (false, eval e' X.env) :: starEach [] X.env := by rfl) :
    DI X (.Tuple elts kk tpos) (.Call (.Name "zip" p) [e, e'] [] pos) (iZ f f') :=
  PI.imp (RZ.pi_zipA hg hm (pa_cons h (pa_cons h' pa_nil hs2) hs) hs hpl) fun σ H R ⟨O0, ow, ρ, S, ds, q, k⟩ => by
  unfold iZ at q
  split at q
  · rename_i xs ys ef ef'
    cases q
    refine ⟨O0, ow, ρ, S, _, ef, fun v H1 s r => ⟨O0, ow, ρ, S.same s, _, ef', fun v' H2 s2 r' => ?_⟩⟩
    replace r := r.same (hide_same s2)
    cases r with
    | lst sq rs =>
      cases r' with
      | lst sq' rs' =>
        rename_i a vs b us
        refine ⟨a, b, vs, us, rfl, .inl ⟨SqL.of (hide_le _ _ sq), SqL.of (hide_le _ _ sq'), k _ H2 (s.trans s2) ⟨fun H3 e2 => ⟨vs, us, SqL.of (e2 _ _ sq), SqL.of (e2 _ _ sq'), ?_⟩, fun i d H3 e2 hd => ?_, fun i d H3 x H4 e2 hd y => ?_⟩⟩⟩
        · have := rs.length; have := rs'.length
          rw [zipD_length]; omega
        · obtain ⟨p, q, hp, hq, rfl⟩ := zipD_get hd
          obtain ⟨v1, hv1, _⟩ := rs.get hp
          obtain ⟨v2, hv2, _⟩ := rs'.get hq
          exact ⟨vs, us, v1, v2, SqL.of (e2 _ _ sq), SqL.of (e2 _ _ sq'), hv1, hv2⟩
        · obtain ⟨p, q, hp, hq, rfl⟩ := zipD_get hd
          obtain ⟨v1, hv1, r1⟩ := rs.get hp
          obtain ⟨v2, hv2, r2⟩ := rs'.get hq
          obtain ⟨T, x1, x2, rfl, nT, rfl, f1, f2⟩ := y
          have e1 := f1 _ (SqL.of (e2 _ _ sq))
          have e3 := f2 _ (SqL.of (e2 _ _ sq'))
          rw [hv1] at e1; cases e1
          rw [hv2] at e3; cases e3
          exact ⟨same_upd nT, fun O' h1 h2 => pair_rep e2 nT h1 h2 r1 r2⟩
  · rename_i xs ys ef ef'
    cases q
    refine ⟨O0, ow, ρ, S, _, ef, fun v H1 s r => ⟨O0, ow, ρ, S.same s, _, ef', fun v' H2 s2 r' => ?_⟩⟩
    replace r := r.same (hide_same s2)
    cases r with
    | tup sq rs =>
      cases r' with
      | tup sq' rs' =>
        rename_i a vs b us
        refine ⟨a, b, vs, us, rfl, .inr ⟨DL.Same.sqT hide_le sq, DL.Same.sqT hide_le sq', k _ H2 (s.trans s2) ⟨fun H3 e2 => ⟨vs, us, DL.Same.sqT e2 sq, DL.Same.sqT e2 sq', ?_⟩, fun i d H3 e2 hd => ?_, fun i d H3 x H4 e2 hd y => ?_⟩⟩⟩
        · have := rs.length; have := rs'.length
          rw [zipD_length]; omega
        · obtain ⟨p, q, hp, hq, rfl⟩ := zipD_get hd
          obtain ⟨v1, hv1, _⟩ := rs.get hp
          obtain ⟨v2, hv2, _⟩ := rs'.get hq
          exact ⟨vs, us, v1, v2, DL.Same.sqT e2 sq, DL.Same.sqT e2 sq', hv1, hv2⟩
        · obtain ⟨p, q, hp, hq, rfl⟩ := zipD_get hd
          obtain ⟨v1, hv1, r1⟩ := rs.get hp
          obtain ⟨v2, hv2, r2⟩ := rs'.get hq
          obtain ⟨T, x1, x2, rfl, nT, rfl, f1, f2⟩ := y
          have e1 := f1 _ (DL.Same.sqT e2 sq)
          have e3 := f2 _ (DL.Same.sqT e2 sq')
          rw [hv1] at e1; cases e1
          rw [hv2] at e3; cases e3
          exact ⟨same_upd nT, fun O' h1 h2 => pair_rep e2 nT h1 h2 r1 r2⟩
  · cases q
end

/-! ### for, while -/
def forL (b : D → DEnv → Option DEnv) (g : DS1) : List D → DEnv → Fl
  | [], ρ => .nx ρ
  | d :: ds, ρ => match b d ρ with
    | none => .stuck
    | some ρ1 => match g ρ1 with
      | .nx ρ2 => forL b g ds ρ2
      | .ct ρ2 => forL b g ds ρ2
      | .bk ρ2 => .nx ρ2
      | x => x
def gFor (it : DEnv → Option (List D)) (b : D → DEnv → Option DEnv) (g : DS1) : DS1 := fun ρ => match it ρ with
  | some ds => forL b g ds ρ
  | none => .stuck
def whL (c : DE1) (g : DS1) : Nat → DEnv → Fl
  | 0, _ => .stuck
  | n + 1, ρ => match c ρ with
    | some (.bl true) => match g ρ with
      | .nx ρ2 => whL c g n ρ2
      | .ct ρ2 => whL c g n ρ2
      | .bk ρ2 => .nx ρ2
      | x => x
    | some (.bl false) => .nx ρ
    | _ => .stuck
def gWh (fu : DEnv → Nat) (c : DE1) (g : DS1) : DS1 := fun ρ => whL c g (fu ρ) ρ
section
variable {X : Cx} {tg iter c : Expr} {body : List Stmt} {it : DEnv → Option (List D)} {b : D → DEnv → Option DEnv} {g : DS1} {fc : DE1} {is : List Nat} {pos : Pos}
theorem Stt.up {K : PySem.W.Frag} {H0 H1 H : Hp} {O0 : Addr → Prop} {σ : L2.St} {ρ : DEnv} (S : Stt K H1 O0 σ H ρ) (e : Same H0 H1) : Stt K H0 O0 σ H ρ := by
  obtain ⟨s, ow, S, h⟩ := S
  exact ⟨e.trans s, ow, S, fun i a q => Same.free e (h i a q)⟩
theorem ds_for (hp : PassesOwn (model X.prog X.w) X.A X.env X.xe) (hc : X.calm = true) (hi : DI X tg iter it) (hg : DG X tg is b) (hb : DSs X body g)
    (hs : ∀ x, foldedSetIterable iter X.env x = pure x := by intro _; rfl) : DS X (.For tg iter body [] pos) (gFor it b g) := PS.imp (ps_for hp hc hi hg hb hs) fun N σ H ⟨H0, O0, ρ, S, p⟩ => by
  unfold gFor at p
  cases ei : it ρ with
  | none => rw [ei] at p; exact p.elim
  | some ds =>
    rw [ei] at p
    obtain ⟨s, ow, S1, h⟩ := S
    refine ⟨O0, ow, ρ, S1, ds, ei, fun J H1 s1 Wk => ?_⟩
    have hH : Same H0 (hide (fun b => ∃ j, ow j = some b) H1) := fun b o q => hide_some.mpr ⟨fun ⟨j, z⟩ => (by rw [h j b z] at q; cases q), s1 _ _ (s _ _ q)⟩
    refine ⟨fun i m σ H => m = ds.length - i ∧ i ≤ ds.length ∧ ∃ ρ, Stt X.K (hide (fun b => ∃ j, ow j = some b) H1) O0 σ H ρ ∧ Post X.K H0 O0 N (forL b g (ds.drop i) ρ), ⟨ds.length, by simp, Nat.zero_le _, ρ, ⟨hide_le, ow, S1.same s1, fun i a q => ?_⟩, p⟩, ?_⟩
    · cases e : hide (fun b => ∃ j, ow j = some b) H1 a with
      | none => rfl
      | some o => exact absurd ⟨i, q⟩ (hide_some.mp e).1
    · rintro i m σ' H' ⟨rfl, hi', ρ', S', p'⟩
      have hsm : Same (hide (hid O0 ow) H1) H' := fun b o q => S'.1 b o (by
        rw [hide_some] at q ⊢
        exact ⟨fun z => q.1 (.inr z), q.2⟩)
      by_cases hlt : i < ds.length
      · obtain ⟨d, hd⟩ : ∃ d, ds[i]? = some d := ⟨_, List.getElem?_eq_getElem hlt⟩
        have hdr : ds.drop i = d :: ds.drop (i + 1) := by
          rw [List.getElem?_eq_getElem hlt] at hd; cases hd
          exact List.drop_eq_getElem_cons hlt
        rw [hdr] at p'
        unfold forL at p'
        refine .inr ⟨Wk.go i d H' hsm hd, fun σ2 H2 => ∃ ρ2, Stt X.K (hide (fun b => ∃ j, ow j = some b) H1) O0 σ2 H2 ρ2 ∧ Post X.K H0 O0 N (forL b g (ds.drop (i + 1)) ρ2), fun σ2 H2 ⟨ρ2, h1, h2⟩ => ⟨_, by omega, rfl, hlt, ρ2, h1, h2⟩, fun x H2 y => ?_⟩
        obtain ⟨s3, rp⟩ := Wk.yld i d H' x H2 hsm hd y
        have S2 := S'.same s3
        obtain ⟨sa, ow2, S3, h3⟩ := id S'
        have r := rp (hid O0 ow2) (fun b z => by
          rcases z with z | ⟨j, z⟩
          · exact .inl (.inl z)
          · have := h3 j b z
            cases e : H1 b with
            | none => exact .inr rfl
            | some o =>
              refine .inl (.inr ?_)
              apply Classical.byContradiction
              intro nj
              rw [hide_some.mpr ⟨nj, e⟩] at this
              cases this) S3.trk
        cases eb : b d ρ' with
        | none => rw [eb] at p'; exact p'.elim
        | some ρ1 =>
          rw [eb] at p'
          dsimp only at p'
          refine ⟨O0, ow2, ρ', d, S3.same s3, r, ρ1, eb, fun σ3 S4 _ => ⟨_, O0, ρ1, ⟨sa.trans s3, ow2, S4, h3⟩, ?_⟩⟩
          cases eg : g ρ1 with
          | nx ρ2 => rw [eg] at p'; exact fun σ4 H4 S5 => ⟨ρ2, S5, p'⟩
          | ct ρ2 => rw [eg] at p'; exact fun σ4 H4 S5 => ⟨ρ2, S5, p'⟩
          | bk ρ2 => rw [eg] at p'; exact fun σ4 H4 S5 => p' σ4 H4 (S5.up hH)
          | rt d => rw [eg] at p'; exact fun v H4 s4 r4 => p' v H4 (hH.trans s4) r4
          | stuck => rw [eg] at p'; exact p'.elim
      · have e : i = ds.length := by omega
        subst e
        rw [List.drop_length] at p'
        exact .inl ⟨Wk.stop H' hsm, p' σ' H' (S'.up hH)⟩
theorem ds_while (fu : DEnv → Nat) (hp : PassesOwn (model X.prog X.w) X.A X.env X.xe) (hc : DT X c fc) (hb : DSs X body g) : DS X (.While c body [] pos) (gWh fu fc g) := PS.imp (ps_while hp hc hb) fun N σ H ⟨H0, O0, ρ, S, p⟩ => by
  refine ⟨fun m σ H => ∃ ρ, Stt X.K H0 O0 σ H ρ ∧ Post X.K H0 O0 N (whL fc g m ρ), ⟨fu ρ, ρ, S, p⟩, ?_⟩
  rintro m σ1 H1 ⟨ρ1, S1, p1⟩
  cases m with
  | zero => exact p1.elim
  | succ m =>
    unfold whL at p1
    obtain ⟨s, ow, S2, h⟩ := id S1
    split at p1
    · rename_i ec
      refine ⟨O0, ow, ρ1, S2, true, ec, fun H2 s2 => iteT ⟨fun σ' H' => ∃ ρ', Stt X.K H0 O0 σ' H' ρ' ∧ Post X.K H0 O0 N (whL fc g m ρ'), fun σ' H' h' => ⟨m, by omega, h'⟩, H0, O0, ρ1, S1.same s2, ?_⟩⟩
      cases eg : g ρ1 with
      | nx ρ2 => rw [eg] at p1; exact fun σ4 H4 S5 => ⟨ρ2, S5, p1⟩
      | ct ρ2 => rw [eg] at p1; exact fun σ4 H4 S5 => ⟨ρ2, S5, p1⟩
      | bk ρ2 => rw [eg] at p1; exact p1
      | rt d => rw [eg] at p1; exact p1
      | stuck => rw [eg] at p1; exact p1.elim
    · rename_i ec
      exact ⟨O0, ow, ρ1, S2, false, ec, fun H2 s2 => iteF (p1 σ1 H2 (S1.same s2))⟩
    · exact p1.elim
end

/-! ### comprehensions -/
def wipeD (ρ : DEnv) : List Nat → DEnv
  | [] => ρ
  | v :: vs => (wipeD ρ vs).set v none
def compL (b : D → DEnv → Option DEnv) (t f : DE1) (ρ : DEnv) : List D → Option (List D)
  | [] => some []
  | d :: ds => match b d ρ with
    | none => none
    | some ρ1 => match t ρ1 with
      | some (.bl true) => match f ρ1 with
        | some x => (compL b t f ρ ds).map (x :: ·)
        | none => none
      | some (.bl false) => compL b t f ρ ds
      | _ => none
def eLc (it : DEnv → Option (List D)) (vs : List Nat) (b : D → DEnv → Option DEnv) (t f : DE1) : DE1 := fun ρ => match it ρ with
  | some ds => if ds.length ≤ 1000 then (compL b t f (wipeD ρ vs) ds).map D.lst else none
  | none => none
def DTs (X : Cx) (ifs : List Expr) (f : DE1) : Prop := PTs X ifs (tDT X.K f)
section
variable {X : Cx} {tg iter elt : Expr} {it : DEnv → Option (List D)} {b : D → DEnv → Option DEnv} {t f : DE1} {is : List Nat} {pos : Pos}
theorem dts_nil : DTs X [] (eC (.bl true)) := ⟨fun pins s σ H Q I h => pts_nil.run pins s σ H Q I (by
  obtain ⟨O0, ow, ρ, S, d, e, k⟩ := h
  cases e
  exact k H (.refl _))⟩
theorem dts_one {c : Expr} (h : DT X c t) : DTs X [c] t := pts_one h
theorem Sl.wipe {K : PySem.W.Frag} {O0 : Addr → Prop} {H : Hp} {σ : L2.St} {ρ : DEnv} {ow : Nat → Option Addr} (S : Sl K O0 H σ ρ ow) : ∀ vs : List Nat, Sl K O0 H (L2.wipe σ vs) (wipeD ρ vs) ow
  | [] => S
  | v :: vs => (Sl.wipe S vs).forget
theorem wipe_wipe {σ : L2.St} {vs : List Nat} : ∀ {us : List Nat}, (∀ i ∈ us, i ∈ vs) → L2.wipe (L2.wipe σ us) vs = L2.wipe σ vs
  | [], _ => rfl
  | u :: us, h => by
    show L2.wipe ((L2.wipe σ us).set u none) vs = L2.wipe σ vs
    rw [wipe_set (h u List.mem_cons_self)]
    exact wipe_wipe fun i hi => h i (List.mem_cons_of_mem _ hi)
/-- one more place is hidden, a new one -/
theorem Sl.more {K : PySem.W.Frag} {O0 : Addr → Prop} {H H' : Hp} {σ : L2.St} {ρ : DEnv} {ow : Nat → Option Addr} {a : Addr} (S : Sl K O0 H σ ρ ow) (e : Same H H') (n : H a = none) (h : ∃ o, H' a = some o) : Sl K (fun b => O0 b ∨ b = a) H' σ ρ ow := by
  have na : ∀ j, ow j ≠ some a := fun j z => by
    obtain ⟨o, w⟩ := S.trk a (.inr ⟨j, z⟩)
    rw [n] at w; cases w
  have sm : Same (hide (hid O0 ow) H) (hide (hid (fun b => O0 b ∨ b = a) ow) H') := fun b o q => by
    rw [hide_some] at q ⊢
    refine ⟨fun z => ?_, e _ _ q.2⟩
    rcases z with (z | z) | z
    · exact q.1 (.inl z)
    · subst z; rw [n] at q; cases q.2
    · exact q.1 (.inr z)
  refine ⟨S.len, S.inj, fun i b hb z => ?_, fun b z => ?_, fun i s hi => ?_⟩
  · rcases z with z | z
    · exact S.out i b hb z
    · subst z; exact na i hb
  · rcases z with (z | z) | z
    · obtain ⟨o, q⟩ := S.trk b (.inl z)
      exact ⟨o, e _ _ q⟩
    · subst z; exact h
    · obtain ⟨o, q⟩ := S.trk b (.inr z)
      exact ⟨o, e _ _ q⟩
  · obtain ⟨o, h1, h2⟩ := S.sl i s hi
    refine ⟨o, h1, ?_⟩
    match s, h2 with
    | none, _ => trivial
    | some (false, d), ⟨v, e1, r⟩ => exact ⟨v, e1, r.same sm⟩
    | some (true, d), ⟨b, e1, e2, t⟩ =>
      obtain ⟨u, q⟩ := t.some
      exact ⟨b, e1, e2, t.same sm (by rw [q, e _ _ q])⟩
theorem tLc_D {K : PySem.W.Frag} {vs : List Nat} (his : ∀ i ∈ is, i ∈ vs) : ∀ σ H Q, tDF K (eLc it vs b t f) σ H Q → tLc (tDI K it) (tDG K is b) (tDT K t) (tDE K f) vs σ H Q := fun σ H Q ⟨O0, ow, ρ, S, d, e, k⟩ => by
  unfold eLc at e
  cases ei : it ρ with
  | none => rw [ei] at e; cases e
  | some ds =>
    rw [ei] at e
    simp only at e
    split at e
    · rename_i hlen
      cases ec : compL b t f (wipeD ρ vs) ds with
      | none => rw [ec] at e; cases e
      | some out =>
        rw [ec] at e
        cases e
        refine ⟨O0, ow, ρ, S, ds, ei, fun J H1 s1 Wk Dd nD => ?_⟩
        have SW := (S.same s1).wipe vs
        refine ⟨fun i m H => m = ds.length - i ∧ i ≤ ds.length ∧ Same H1 H ∧ ∃ accV accD, H Dd = some (.lst accV) ∧ accV.length ≤ i ∧ Reps K (hide (hid (fun b => O0 b ∨ b = Dd) ow) H) accV accD ∧
          ∃ r, compL b t f (wipeD ρ vs) (ds.drop i) = some r ∧ accD ++ r = out, ⟨ds.length, by simp, Nat.zero_le _, same_upd nD, [], [], upd_same, Nat.zero_le _, .nil, out, ec, rfl⟩, ?_⟩
        rintro i m H2 ⟨rfl, hi, sm, accV, accD, hD, hl, ra, r, er, eo⟩
        have hsm : Same (hide (hid O0 ow) H1) H2 := Same.trans hide_le sm
        by_cases hlt : i < ds.length
        · obtain ⟨d, hd⟩ : ∃ d, ds[i]? = some d := ⟨_, List.getElem?_eq_getElem hlt⟩
          have hdr : ds.drop i = d :: ds.drop (i + 1) := by
            rw [List.getElem?_eq_getElem hlt] at hd; cases hd
            exact List.drop_eq_getElem_cons hlt
          rw [hdr] at er
          unfold compL at er
          cases eb : b d (wipeD ρ vs) with
          | none => rw [eb] at er; cases er
          | some ρ1 =>
            rw [eb] at er
            refine .inr ⟨Wk.go i d H2 hsm hd, fun H' => i + 1 ≤ ds.length ∧ Same H1 H' ∧ ∃ accV accD, H' Dd = some (.lst accV) ∧ accV.length ≤ i + 1 ∧ Reps K (hide (hid (fun b => O0 b ∨ b = Dd) ow) H') accV accD ∧
              ∃ r, compL b t f (wipeD ρ vs) (ds.drop (i + 1)) = some r ∧ accD ++ r = out, fun H' h' => ⟨_, by omega, rfl, h'⟩, fun x H3 y => ?_⟩
            obtain ⟨s3, rp⟩ := Wk.yld i d H2 x H3 hsm hd y
            have SM := SW.more sm nD ⟨_, hD⟩
            have rx := rp (hid (fun b => O0 b ∨ b = Dd) ow) (fun b z => by
              rcases z with (z | z) | z
              · exact .inl (.inl z)
              · subst z; exact .inr nD
              · exact .inl (.inr z)) SM.trk
            refine ⟨_, ow, _, d, SM.same s3, rx, ρ1, eb, fun σ2 S2 hw => ⟨(hw vs his).trans (wipe_wipe (fun _ h => h)), ?_⟩⟩
            simp only at er
            split at er
            · rename_i et
              refine ⟨_, ow, ρ1, S2, true, et, fun H4 s4 => iteT ?_⟩
              cases ef : f ρ1 with
              | none => rw [ef] at er; cases er
              | some z =>
                rw [ef] at er
                refine ⟨_, ow, ρ1, S2.same s4, z, ef, fun v H5 s5 rv => ?_⟩
                have s25 : Same H2 H5 := (s3.trans s4).trans s5
                refine ⟨accV, s25 _ _ hD, small1000 (by omega), hlt, fun b o q => ?_, accV ++ [v], accD ++ [z], upd_same, by simp; omega, ?_, ?_⟩
                · rw [upd_ne (ne_of_none q nD)]; exact s25 _ _ (sm _ _ q)
                · have hh : hid (fun b => O0 b ∨ b = Dd) ow Dd := .inl (.inr rfl)
                  exact ((ra.same (hide_same s25)).append (.cons rv .nil)).same (hide_upd hh)
                · cases er2 : compL b t f (wipeD ρ vs) (ds.drop (i + 1)) with
                  | none => rw [er2] at er; cases er
                  | some r2 =>
                    rw [er2] at er
                    cases er
                    exact ⟨r2, rfl, by simpa using eo⟩
            · rename_i et
              refine ⟨_, ow, ρ1, S2, false, et, fun H4 s4 => iteF ?_⟩
              have s25 : Same H2 H4 := s3.trans s4
              exact ⟨hlt, sm.trans s25, accV, accD, s25 _ _ hD, by omega, ra.same (hide_same s25), r, er, eo⟩
            · cases er
        · have e : i = ds.length := by omega
          subst e
          rw [List.drop_length] at er
          cases er
          rw [List.append_nil] at eo
          subst eo
          refine .inl ⟨Wk.stop H2 hsm, k Dd H2 (s1.trans sm) (Same.free s1 nD) (.lst hD (ra.same (hide_sub fun b z => ?_)))⟩
          rcases z with (z | z) | z
          · exact .inl (.inl z)
          · exact .inr z
          · exact .inl (.inr z)
    · cases e
theorem df_lc {scope : Scope} (own : List (Str × Nat)) (hc : X.calm = true) (hN : X.N.Nodup) (hi : DI X tg iter it) {ifs : List Expr} (ok : BlkOk X.N X.env.scope scope own)
    (hg : ∀ (s : Shared) (H : Hp) (C : Addr) (cl : List (Str × Addr)) (fp : List Addr), DG (X.blk s H scope (compEnvC scope cl C X.env) fp) tg is b) (ht : ∀ (s : Shared) (H : Hp) (C : Addr) (cl : List (Str × Addr)) (fp : List Addr), DTs (X.blk s H scope (compEnvC scope cl C X.env) fp) ifs t)
    (he : ∀ (s : Shared) (H : Hp) (C : Addr) (cl : List (Str × Addr)) (fp : List Addr), DE (X.blk s H scope (compEnvC scope cl C X.env) fp) elt f) (his : ∀ i ∈ is, i ∈ own.map (·.2) := by decide) (hs : ∀ x, foldedSetIterable iter X.env x = pure x := by intro _; rfl) :
    DF X (.ListComp elt [⟨tg, iter, ifs, 0⟩] scope pos) (eLc it (own.map (·.2)) b t f) := PE.imp (pe_lc (g := tDG X.K is b) (tt := tDT X.K t) (te := tDE X.K f) hc hN hi ok hg ht he hs) (tLc_D his)
theorem ds_setLc (i : Nat) {y : Str} {py spos : Pos} {scope : Scope} (own : List (Str × Nat)) (hc : X.calm = true) (hN : X.N.Nodup) (hy : X.N[i]? = some y) (hyl : X.env.scope.names.lookup y = some .local) {ifs : List Expr}
    (hsw : swapsWith (.ListComp elt [⟨tg, iter, ifs, 0⟩] scope pos) (some (.Name y py)) spos.line X.env = pure true) (hi : DI X tg iter it) (ok : BlkOk X.N X.env.scope scope own)
    (hg : ∀ (s : Shared) (H : Hp) (C : Addr) (cl : List (Str × Addr)) (fp : List Addr), DG (X.blk s H scope (compEnvC scope cl C X.env) fp) tg is b) (ht : ∀ (s : Shared) (H : Hp) (C : Addr) (cl : List (Str × Addr)) (fp : List Addr), DTs (X.blk s H scope (compEnvC scope cl C X.env) fp) ifs t)
    (he : ∀ (s : Shared) (H : Hp) (C : Addr) (cl : List (Str × Addr)) (fp : List Addr), DE (X.blk s H scope (compEnvC scope cl C X.env) fp) elt f) (his : ∀ i ∈ is, i ∈ own.map (·.2) := by decide) (hs : ∀ x, foldedSetIterable iter X.env x = pure x := by intro _; rfl) :
    DS X (.Assign [.Name y py] (.ListComp elt [⟨tg, iter, ifs, 0⟩] scope pos) spos) (gSetF i (eLc it (own.map (·.2)) b t f)) := PS.imp (ps_setLc (g := tDG X.K is b) (tt := tDT X.K t) (te := tDE X.K f) hc hN hy hyl hsw hi ok hg ht he hs) fun N σ H h => by
  obtain ⟨H0, O0, ρ, S, p⟩ := h
  have := setF_post (K := X.K) (i := i) (f := eLc it (own.map (·.2)) b t f) N σ H ⟨H0, O0, ρ, S, p⟩
  exact tLc_D his σ H _ this
end
end DL

set_option maxHeartbeats 4000000
namespace DL
open PySem PySem.Spec PyProof.Rows L2
variable [CT]

def isNon : D → Bool
  | .non => true
  | _ => false
section
variable {K : PySem.W.Frag} {Hh H : Hp} {v : V}
theorem BV.int {i : Int} (h : BV K Hh H v (.int i)) : v = .int i := by
  rcases h with h | ⟨a, _, t⟩
  · cases h; rfl
  · cases t
theorem BV.bl {b : Bool} (h : BV K Hh H v (.bl b)) : v = .bl b := by
  rcases h with h | ⟨a, _, t⟩
  · cases h; rfl
  · cases t
theorem BV.str {x : Str} (h : BV K Hh H v (.str x)) : v = .str x := by
  rcases h with h | ⟨a, _, t⟩
  · cases h; rfl
  · cases t
theorem BV.non (h : BV K Hh H v .non) : v = .non := by
  rcases h with h | ⟨a, _, t⟩
  · cases h; rfl
  · cases t
theorem BV.lst {ds : List D} (h : BV K Hh H v (.lst ds)) (e : Same Hh H) : ∃ a vs, v = .ref a ∧ H a = some (.lst vs) ∧ Reps K Hh vs ds := by
  rcases h with h | ⟨a, rfl, t⟩
  · cases h with
    | lst s r => exact ⟨_, _, rfl, e _ _ s, r⟩
  · cases t with
    | lst s r => exact ⟨_, _, rfl, s, r⟩
theorem BV.tup {ds : List D} (h : BV K Hh H v (.tup ds)) (e : Same Hh H) : ∃ a vs, v = .ref a ∧ SqT K H a vs ∧ Reps K Hh vs ds := by
  rcases h with h | ⟨a, rfl, t⟩
  · cases h with
    | tup s r => exact ⟨_, _, rfl, DL.Same.sqT e s, r⟩
  · cases t
theorem BV.scr {ns : List Int} (h : BV K Hh H v (.scr ns)) (e : Same Hh H) : ∃ a, v = .ref a ∧ SqL K H a (ns.map V.int) := by
  rcases h with h | ⟨a, rfl, t⟩
  · cases h with
    | scr s => exact ⟨_, rfl, L2.Same.seq e s⟩
  · cases t
theorem BV.ins {C : Nat} {fs : List (Str × D)} (h : BV K Hh H v (.ins C fs)) (e : Same Hh H) : ∃ a dx vs, v = .ref a ∧ H a = some (.ins (CT.ct C) dx vs) ∧ RepF K Hh vs fs := by
  rcases h with h | ⟨a, rfl, t⟩
  · cases h with
    | ins s r => exact ⟨_, _, _, rfl, e _ _ s, r⟩
  · cases t
theorem BV.not_non {d : D} (h : BV K Hh H v d) : (decide (v = .non) = isNon d) := by
  rcases h with h | ⟨a, rfl, t⟩
  · cases h <;> rfl
  · cases t <;> rfl
end

/-! ### operations -/
theorem OpD.or {X : Cx} {f : Value → Value → Sem Value} {g g' : D → D → Option D} (h : OpD X f g) (h' : OpD X f g') : OpD X f (fun x y => (g x y).or (g' x y)) := by
  obtain ⟨r, o, k⟩ := h
  obtain ⟨r', o', k'⟩ := h'
  refine ⟨_, o.or o', fun O H x y p q d Q hx hy e c t => ?_⟩
  replace e : (g p q).or (g' p q) = some d := e
  cases eg : g p q with
  | some z => rw [eg] at e; cases e; exact .inl (k O H x y p q _ Q hx hy eg c t)
  | none => rw [eg] at e; exact .inr (k' O H x y p q d Q hx hy (by simpa using e) c t)
def gI (f : Int → Int → Option D) : D → D → Option D
  | .int i, .int j => f i j
  | _, _ => none
section
variable {X : Cx}
theorem od_int {f : Value → Value → Sem Value} {C : Int → Int → Prop} {g : Int → Int → V} {m : Int → Int → Option D} (o : OpR X f (rI C g)) (h : ∀ i j d, m i j = some d → C i j ∧ ∀ H, Rep X.K H (g i j) d) : OpD X f (gI m) :=
  ⟨_, o, fun O H x y p q d Q hx hy e c _ => by
    unfold gI at e
    split at e
    · rename_i i j
      obtain ⟨h1, h2⟩ := h i j d e
      exact ⟨i, j, hx.int, hy.int, h1, c _ _ (.refl _) (h2 _)⟩
    · cases e⟩
theorem od_int0 {f : Value → Value → Sem Value} {g : Int → Int → V} {m : Int → Int → D} (o : OpR X f (rI0 g)) (h : ∀ i j H, Rep X.K H (g i j) (m i j)) : OpD X f (gI fun i j => some (m i j)) :=
  ⟨_, o, fun O H x y p q d Q hx hy e c _ => by
    unfold gI at e
    split at e
    · rename_i i j
      cases e
      exact ⟨i, j, hx.int, hy.int, c _ _ (.refl _) (h i j _)⟩
    · cases e⟩
def sz (i : Int) : Bool := decide (i.natAbs.log2 < 8000)
def mMul (i j : Int) : Option D := if sz i && sz j then some (.int (i * j)) else none
def mDiv (i j : Int) : Option D := if 0 < j && sz j then some (.int (i / j)) else none
def mMod (i j : Int) : Option D := if 0 < j then some (.int (i % j)) else none
theorem od_sub : OpD X (binaryOp .Sub) (gI fun i j => some (.int (i - j))) := od_int0 op_sub fun i j H => .int _
theorem od_addI : OpD X (binaryOp .Add) (gI fun i j => some (.int (i + j))) := od_int0 op_add fun i j H => .int _
theorem od_mulI : OpD X (binaryOp .Mult) (gI mMul) := od_int op_mulW fun i j d e => by
  unfold mMul at e
  split at e
  · rename_i h
    cases e
    rw [Bool.and_eq_true] at h
    have h1 := of_decide_eq_true h.1
    have h2 := of_decide_eq_true h.2
    exact ⟨(by show _ + _ < _; omega), fun H => .int _⟩
  · cases e
theorem od_div : OpD X (binaryOp .FloorDiv) (gI mDiv) := od_int op_fdivW fun i j d e => by
  unfold mDiv at e
  split at e
  · rename_i h
    cases e
    rw [Bool.and_eq_true] at h
    have h1 := of_decide_eq_true h.1
    have h2 := of_decide_eq_true h.2
    exact ⟨⟨h1, by omega⟩, fun H => .int _⟩
  · cases e
theorem od_mod : OpD X (binaryOp .Mod) (gI mMod) := od_int op_mod fun i j d e => by
  unfold mMod at e
  split at e
  · rename_i h
    cases e
    exact ⟨h, fun H => .int _⟩
  · cases e
theorem od_lt : OpD X (compareOp .Lt) (gI fun i j => some (.bl (decide (i < j)))) := ⟨_, op_lt, fun O H x y p q d Q hx hy e c _ => by
    unfold gI at e
    split at e
    · rename_i i j
      cases e
      exact ⟨i, j, hx.int, hy.int, c _ _ (.refl _) (.bl _)⟩
    · cases e⟩
theorem od_le : OpD X (compareOp .LtE) (gI fun i j => some (.bl (decide (i ≤ j)))) := ⟨_, op_le, fun O H x y p q d Q hx hy e c _ => by
    unfold gI at e
    split at e
    · rename_i i j
      cases e
      exact ⟨i, j, hx.int, hy.int, c _ _ (.refl _) (.bl _)⟩
    · cases e⟩
theorem od_gt : OpD X (compareOp .Gt) (gI fun i j => some (.bl (decide (j < i)))) := ⟨_, op_gt, fun O H x y p q d Q hx hy e c _ => by
    unfold gI at e
    split at e
    · rename_i i j
      cases e
      exact ⟨i, j, hx.int, hy.int, c _ _ (.refl _) (.bl _)⟩
    · cases e⟩
theorem od_ge : OpD X (compareOp .GtE) (gI fun i j => some (.bl (decide (j ≤ i)))) := ⟨_, op_ge, fun O H x y p q d Q hx hy e c _ => by
    unfold gI at e
    split at e
    · rename_i i j
      cases e
      exact ⟨i, j, hx.int, hy.int, c _ _ (.refl _) (.bl _)⟩
    · cases e⟩
/-! is None -/
def gIsN (neg : Bool) : D → D → Option D := fun x y => if isNon y then some (.bl (if neg then !isNon x else isNon x)) else none
theorem od_isN : OpD X (compareOp .Is) (gIsN false) := ⟨_, op_isN, fun O H x y p q d Q hx hy e c _ => by
    unfold gIsN at e
    split at e
    · rename_i h
      cases e
      cases q <;> first | cases h | skip
      refine ⟨hy.non, ?_⟩
      have := hx.not_non
      rw [this]
      exact c _ _ (.refl _) (.bl (isNon p))
    · cases e⟩
theorem od_notN : OpD X (compareOp .IsNot) (gIsN true) := ⟨_, op_notN, fun O H x y p q d Q hx hy e c _ => by
    unfold gIsN at e
    split at e
    · rename_i h
      cases e
      cases q <;> first | cases h | skip
      refine ⟨hy.non, ?_⟩
      have := hx.not_non
      rw [this]
      exact c _ _ (.refl _) (.bl (!isNon p))
    · cases e⟩
/-! == of data -/
end
mutual
def toPy : D → Option PyData
  | .non => some .none
  | .bl b => some (.bool b)
  | .int i => some (.int i)
  | .str x => some (.str x)
  | .tup xs => (toPys xs).map .tuple
  | .lst xs => (toPys xs).map .list
  | .scr ns => some (.list (ns.map .int))
  | .ins _ _ => none
  | .dic _ => none
def toPys : List D → Option (List PyData)
  | [] => some []
  | x :: xs => (toPy x).bind fun a => (toPys xs).map (a :: ·)
end
theorem dp_ints {K : PySem.W.Frag} {H : Hp} : ∀ ns : List Int, DpAll K H (ns.map V.int) (ns.map PyData.int)
  | [] => .nil
  | n :: ns => .cons (.int n) (dp_ints ns)
mutual
theorem Rep.dp {K : PySem.W.Frag} {H : Hp} : ∀ {v : V} {d : D} {p : PyData}, Rep K H v d → toPy d = some p → Dp K H v p
  | _, _, _, .non, e => by cases e; exact .non
  | _, _, _, .bl b, e => by cases e; exact .bl b
  | _, _, _, .int b, e => by cases e; exact .int b
  | _, _, _, .str b, e => by cases e; exact .str b
  | _, _, _, .tup (ds := ds) s r, e => by
    simp only [toPy, Option.map_eq_some_iff] at e
    obtain ⟨ps, e, rfl⟩ := e
    exact .tup s (Reps.dp r e)
  | _, _, _, .lst (ds := ds) s r, e => by
    simp only [toPy, Option.map_eq_some_iff] at e
    obtain ⟨ps, e, rfl⟩ := e
    exact .lst (SqL.of s) (Reps.dp r e)
  | _, _, _, .scr s, e => by cases e; exact .lst s (dp_ints _)
  | _, _, _, .ins s r, e => by simp [toPy] at e
  | _, _, _, .dic s r q, e => by simp [toPy] at e
theorem Reps.dp {K : PySem.W.Frag} {H : Hp} : ∀ {v : List V} {d : List D} {p : List PyData}, Reps K H v d → toPys d = some p → DpAll K H v p
  | _, _, _, .nil, e => by cases e; exact .nil
  | _, _, _, .cons r s, e => by
    simp only [toPys, Option.bind_eq_some_iff, Option.map_eq_some_iff] at e
    obtain ⟨a, e1, as, e2, rfl⟩ := e
    exact .cons (Rep.dp r e1) (Reps.dp s e2)
end
theorem BV.dp {K : PySem.W.Frag} {Hh H : Hp} {v : V} {d : D} {p : PyData} (h : BV K Hh H v d) (s : Same Hh H) (e : toPy d = some p) : Dp K H v p := by
  rcases h with h | ⟨a, rfl, t⟩
  · exact (h.same s).dp e
  · exact (t.rep s fun o q => q).dp e
def eqD (neg : Bool) (x y : D) : Option D := (toPy x).bind fun a => (toPy y).bind fun b => if SeqAt.shaped a && SeqAt.shaped b then some (.bl (if neg then !PyData.eqv a b else PyData.eqv a b)) else none
section
variable {X : Cx}
theorem od_eq (hu : X.A.units + 64 < cLine) : OpD X (compareOp .Eq) (eqD false) := ⟨_, op_eqD hu, fun O H x y p q d Q hx hy e c _ => by
  unfold eqD at e
  simp only [Option.bind_eq_some_iff] at e
  obtain ⟨a, ea, b, eb, e⟩ := e
  split at e
  · rename_i h
    cases e
    rw [Bool.and_eq_true] at h
    exact ⟨a, b, hx.dp hide_le ea, hy.dp hide_le eb, h.1, h.2, c _ _ (.refl _) (.bl _)⟩
  · cases e⟩
theorem od_ne (hu : X.A.units + 64 < cLine) : OpD X (compareOp .NotEq) (eqD true) := ⟨_, op_neD hu, fun O H x y p q d Q hx hy e c _ => by
  unfold eqD at e
  simp only [Option.bind_eq_some_iff] at e
  obtain ⟨a, ea, b, eb, e⟩ := e
  split at e
  · rename_i h
    cases e
    rw [Bool.and_eq_true] at h
    exact ⟨a, b, hx.dp hide_le ea, hy.dp hide_le eb, h.1, h.2, c _ _ (.refl _) (.bl _)⟩
  · cases e⟩
/-! lists and tuples together -/
def gCat : D → D → Option D
  | .lst xs, .lst ys => if xs.length + ys.length ≤ 1000 then some (.lst (xs ++ ys)) else none
  | _, _ => none
theorem new_rep {K : PySem.W.Frag} {O : Addr → Prop} {H : Hp} {p : Addr} (t : ∀ a, O a → ∃ o, H a = some o) (n : H p = none) : ¬ O p := fun z => by
  obtain ⟨o, w⟩ := t p z
  rw [n] at w; cases w
theorem small1000' {n : Nat} (h : n ≤ 1000) : n ≤ sizeLine := Nat.le_of_lt (small1000 h)
theorem od_cat : OpD X (binaryOp .Add) gCat := ⟨_, op_cat, fun O H x y p q d Q hx hy e c t => by
  unfold gCat at e
  split at e
  · rename_i xs ys
    split at e
    · rename_i h
      cases e
      obtain ⟨a, vs, rfl, ha, ra⟩ := hx.lst hide_le
      obtain ⟨b, us, rfl, hb, rb⟩ := hy.lst hide_le
      refine ⟨a, b, vs, us, rfl, rfl, ha, hb, small1000' (by rw [ra.length, rb.length]; exact h), fun l nl => c _ _ (same_upd nl) ?_⟩
      have nO := new_rep (K := X.K) t nl
      exact .lst (hide_some.mpr ⟨nO, upd_same⟩) ((ra.append rb).same (hide_same (same_upd nl)))
    · cases e
  · cases e⟩
def gCatT : D → D → Option D
  | .tup (x :: xs), .tup ys => if xs.length + ys.length ≤ 900 then some (.tup (x :: xs ++ ys)) else none
  | _, _ => none
theorem od_catT : OpD X (binaryOp .Add) gCatT := ⟨_, op_catT, fun O H x y p q d Q hx hy e c t => by
  unfold gCatT at e
  split at e
  · rename_i x xs ys
    split at e
    · rename_i h
      cases e
      obtain ⟨a, vs, rfl, ha, ra⟩ := hx.tup hide_le
      obtain ⟨b, us, rfl, hb, rb⟩ := hy.tup hide_le
      have h1 := ra.length
      have h2 := rb.length
      simp only [List.length_cons] at h1
      refine ⟨a, b, vs, us, rfl, rfl, ha, hb, fun z => by subst z; simp at h1, small1000' (by omega), fun z => ?_, fun z l nl => c _ _ (same_upd nl) ?_⟩
      · subst z
        cases rb
        rw [List.append_nil] at c
        refine c _ _ (.refl _) ?_
        rcases hx with hx | ⟨_, _, hx⟩
        · exact hx
        · cases hx
      · have nO := new_rep (K := X.K) t nl
        exact .tup (SqT.of (hide_some.mpr ⟨nO, upd_same⟩)) ((ra.append rb).same (hide_same (same_upd nl)))
    · cases e
  · cases e⟩
end
end DL

set_option maxHeartbeats 4000000
namespace DL
open PySem PySem.Spec PyProof.Rows L2
variable [CT]

section
variable {X : Cx} {e a b c : Expr} {es : List Expr} {f g fa fb fc ft : DE1} {fs : DEnv → Option (List D)} {pos p : Pos}
/-! ### lists of expressions, displays -/
def aNil : DEnv → Option (List D) := fun _ => some []
def aCons (f : DE1) (fs : DEnv → Option (List D)) : DEnv → Option (List D) := fun ρ => (f ρ).bind fun x => (fs ρ).map (x :: ·)
theorem aCons_some {ρ : DEnv} {ds : List D} (h : aCons f fs ρ = some ds) : ∃ x xs, f ρ = some x ∧ fs ρ = some xs ∧ ds = x :: xs := by
  unfold aCons at h
  simp only [Option.bind_eq_some_iff, Option.map_eq_some_iff] at h
  obtain ⟨x, h1, xs, h2, rfl⟩ := h
  exact ⟨x, xs, h1, h2, rfl⟩
theorem da_nil : DA X [] aNil := PA.imp pa_nil fun σ H Q ⟨O0, ow, ρ, S, d, e, k⟩ => by cases e; exact k _ _ (.refl _) .nil
theorem da_cons (h : DE X e f) (hr : DA X es fs) (hs : starEach (e :: es) X.env = (false, eval e X.env) :: starEach es X.env := by rfl) : DA X (e :: es) (aCons f fs) := PA.imp (pa_cons h hr hs) fun σ H Q ⟨O0, ow, ρ, S, d, e, k⟩ => by
  obtain ⟨x, xs, e1, e2, rfl⟩ := aCons_some e
  exact ⟨O0, ow, ρ, S, x, e1, fun v H1 s1 r1 => ⟨O0, ow, ρ, S.same s1, xs, e2, fun vs H2 s2 r2 => k _ H2 (s1.trans s2) (.cons (r1.same (hide_same s2)) r2)⟩⟩
theorem dab_nil : DAB X [] aNil := PA.imp pa_nil fun σ H Q ⟨O0, ow, ρ, S, d, e, k⟩ => by cases e; exact k _ _ (.refl _) .nil
theorem dab_cons (h : DB X e f) (hr : DAB X es fs) (hs : starEach (e :: es) X.env = (false, eval e X.env) :: starEach es X.env := by rfl) : DAB X (e :: es) (aCons f fs) := PA.imp (pa_cons h hr hs) fun σ H Q ⟨O0, ow, ρ, S, d, e, k⟩ => by
  obtain ⟨x, xs, e1, e2, rfl⟩ := aCons_some e
  exact ⟨O0, ow, ρ, S, x, e1, fun v H1 s1 r1 => ⟨O0, ow, ρ, S.same s1, xs, e2, fun vs H2 s2 r2 => k _ H2 (s1.trans s2) (.cons (r1.same (hide_same s2) s2) r2)⟩⟩
def eTup (fs : DEnv → Option (List D)) : DE1 := fun ρ => (fs ρ).bind fun ds => if ds.length ≤ 1000 then some (.tup ds) else none
def eLst (fs : DEnv → Option (List D)) : DE1 := fun ρ => (fs ρ).bind fun ds => if ds.length ≤ 1000 then some (.lst ds) else none
theorem de_tup {x1} (h : DA X es fs) : DE X (.Tuple es x1 pos) (eTup fs) := PE.imp (pe_tup h) fun σ H Q ⟨O0, ow, ρ, S, d, e, k⟩ => by
  unfold eTup at e
  simp only [Option.bind_eq_some_iff] at e
  obtain ⟨ds, e1, e⟩ := e
  split at e
  · rename_i hl
    cases e
    refine ⟨O0, ow, ρ, S, ds, e1, fun vs H1 s1 r1 => ⟨small1000' (by rw [r1.length]; exact hl), fun p np => k _ _ (s1.trans (same_upd np)) ?_⟩⟩
    exact .tup (SqT.of (hide_some.mpr ⟨new_rep (K := X.K) (S.same s1).trk np, upd_same⟩)) (r1.same (hide_same (same_upd np)))
  · cases e
theorem df_lst (h : DA X es fs) : DF X (.List es pos) (eLst fs) := PE.imp (pe_lst h) fun σ H Q ⟨O0, ow, ρ, S, d, e, k⟩ => by
  unfold eLst at e
  simp only [Option.bind_eq_some_iff] at e
  obtain ⟨ds, e1, e⟩ := e
  split at e
  · rename_i hl
    cases e
    refine ⟨O0, ow, ρ, S, ds, e1, fun vs H1 s1 r1 => ⟨small1000' (by rw [r1.length]; exact hl), fun p np => k _ _ (s1.trans (same_upd np)) (Same.free s1 np) (.lst upd_same (r1.same fun b o q => ?_))⟩⟩
    rw [hide_some] at q ⊢
    exact ⟨fun z => z.elim q.1 fun z => (by subst z; rw [np] at q; cases q.2), same_upd np _ _ q.2⟩
  · cases e
/-- an operation that lays a new list -/
def OpF (X : Cx) (f : Value → Value → Sem Value) (g : D → D → Option D) : Prop := ∃ r : R2, OpR X f r ∧ ∀ (O : Addr → Prop) (H : Hp) (x y : V) (p q d : D) (Q : VK), BV X.K (hide O H) H x p → BV X.K (hide O H) H y q → g p q = some d →
  (∀ a H', Same H H' → H a = none → TopR X.K (hide (fun b => O b ∨ b = a) H') H' a d → Q (.ref a) H') → (∀ a, O a → ∃ o, H a = some o) → r x y H Q
theorem fresh_reps {K : PySem.W.Frag} {O : Addr → Prop} {H : Hp} {a : Addr} {o : HO} {vs : List V} {ds : List D} (n : H a = none) (r : Reps K (hide O H) vs ds) : Reps K (hide (fun b => O b ∨ b = a) (upd H a o)) vs ds := r.same fun b u q => by
  rw [hide_some] at q ⊢
  exact ⟨fun z => z.elim q.1 fun z => (by subst z; rw [n] at q; cases q.2), same_upd n _ _ q.2⟩
theorem of_cat : OpF X (binaryOp .Add) gCat := ⟨_, op_cat, fun O H x y p q d Q hx hy e c t => by
  unfold gCat at e
  split at e
  · rename_i xs ys
    split at e
    · rename_i h
      cases e
      obtain ⟨a, vs, rfl, ha, ra⟩ := hx.lst hide_le
      obtain ⟨b, us, rfl, hb, rb⟩ := hy.lst hide_le
      exact ⟨a, b, vs, us, rfl, rfl, ha, hb, small1000' (by rw [ra.length, rb.length]; exact h), fun l nl => c _ _ (same_upd nl) nl (.lst upd_same (fresh_reps nl (ra.append rb)))⟩
    · cases e
  · cases e⟩
def gRep : D → D → Option D
  | .lst xs, .int k => if decide (-1000 ≤ k ∧ k ≤ 1000) && decide (xs.length ≤ 1000) then some (.lst (List.replicate k.toNat xs).flatten) else none
  | _, _ => none
theorem of_rep : OpF X (binaryOp .Mult) gRep := ⟨_, op_rep, fun O H x y p q d Q hx hy e c t => by
  unfold gRep at e
  split at e
  · rename_i xs k
    split at e
    · rename_i h
      cases e
      rw [Bool.and_eq_true] at h
      have h1 := of_decide_eq_true h.1
      have h2 := of_decide_eq_true h.2
      obtain ⟨a, vs, rfl, ha, ra⟩ := hx.lst hide_le
      have hl := ra.length
      refine ⟨a, k, vs, rfl, hy.int, ha, by omega, by omega, ?_, fun l nl => c _ _ (same_upd nl) nl (.lst upd_same (fresh_reps nl (ra.rep _)))⟩
      have : vs.length * k.toNat ≤ 1000 * 1000 := Nat.mul_le_mul (by omega) (by omega)
      exact Nat.le_trans this (by decide)
    · cases e
  · cases e⟩
def gRepT : D → D → Option D
  | .tup (x :: xs), .int k => if decide (2 ≤ k ∧ k ≤ 1000) && decide (xs.length ≤ 900) then some (.tup (List.replicate k.toNat (x :: xs)).flatten) else none
  | _, _ => none
theorem od_repT : OpD X (binaryOp .Mult) gRepT := ⟨_, op_repT, fun O H x y p q d Q hx hy e c t => by
  unfold gRepT at e
  split at e
  · rename_i x xs k
    split at e
    · rename_i h
      cases e
      rw [Bool.and_eq_true] at h
      have h1 := of_decide_eq_true h.1
      have h2 := of_decide_eq_true h.2
      obtain ⟨a, vs, rfl, ha, ra⟩ := hx.tup hide_le
      have hl := ra.length
      simp only [List.length_cons] at hl
      refine ⟨a, k, vs, rfl, hy.int, ha, fun z => by subst z; simp at hl, h1.1, h1.2, by omega, fun l nl => c _ _ (same_upd nl) ?_⟩
      exact .tup (SqT.of (hide_some.mpr ⟨new_rep (K := X.K) t nl, upd_same⟩)) ((ra.rep _).same (hide_same (same_upd nl)))
    · cases e
  · cases e⟩
theorem df_op {op : Operator} {g : D → D → Option D} (ho : OpF X (binaryOp op) g) (ha : DB X a fa) (hb : DB X b fb) : DF X (.BinOp a op b pos) (e2 g fa fb) := by
  obtain ⟨r, o, h⟩ := ho
  refine PE.imp (pe_op o ha hb) fun σ H Q ⟨O0, ow, ρ, S, d, e, k⟩ => ?_
  obtain ⟨p, q, ea, eb, eg⟩ := e2_some e
  refine ⟨O0, ow, ρ, S, p, ea, fun x H1 s1 r1 => ⟨O0, ow, ρ, S.same s1, q, eb, fun y H2 s2 r2 => ?_⟩⟩
  exact h _ H2 x y p q d Q (r1.same (hide_same s2) s2) r2 eg (fun l H' s n t => k l H' ((s1.trans s2).trans s) (Same.free (s1.trans s2) n) t) ((S.same s1).same s2).trk
/-- minus -/
def eNeg (f : DE1) : DE1 := fun ρ => match f ρ with
  | some (.int i) => some (.int (-i))
  | _ => none
theorem de_neg (h : DB X e f) : DE X (.UnaryOp .USub e pos) (eNeg f) := PE.imp (pe_un un_neg h) fun σ H Q ⟨O0, ow, ρ, S, d, e, k⟩ => by
  unfold eNeg at e
  split at e
  · rename_i i ef
    cases e
    exact ⟨O0, ow, ρ, S, _, ef, fun v H1 s r => ⟨i, r.int, k _ H1 s (.int _)⟩⟩
  · cases e
/-! ### and, or, not, if else, chains -/
def eAnd (fa fb : DE1) : DE1 := fun ρ => match fa ρ with
  | some (.bl true) => fb ρ
  | some (.bl false) => some (.bl false)
  | _ => none
def eOr (fa fb : DE1) : DE1 := fun ρ => match fa ρ with
  | some (.bl true) => some (.bl true)
  | some (.bl false) => fb ρ
  | _ => none
def eNot (f : DE1) : DE1 := fun ρ => match f ρ with
  | some (.bl b) => some (.bl (!b))
  | _ => none
def eIf (c f g : DE1) : DE1 := fun ρ => match c ρ with
  | some (.bl true) => f ρ
  | some (.bl false) => g ρ
  | _ => none
theorem de_and1 {op} (h : DE X a f) : DE X (.BoolOp op [a] pos) f := pe_one h
theorem de_and {rest : List Expr} (ha : DE X a fa) (hb : DE X (.BoolOp .And (b :: rest) pos) fb) : DE X (.BoolOp .And (a :: b :: rest) pos) (eAnd fa fb) := PE.imp (pe_and ha hb) fun σ H Q ⟨O0, ow, ρ, S, d, e, k⟩ => by
  unfold eAnd at e
  split at e
  · rename_i ef
    exact ⟨O0, ow, ρ, S, _, ef, fun v H1 s r => by cases r; exact ⟨true, rfl, iteT ⟨O0, ow, ρ, S.same s, d, e, fun v H2 s2 r => k v H2 (s.trans s2) r⟩⟩⟩
  · rename_i ef
    cases e
    exact ⟨O0, ow, ρ, S, _, ef, fun v H1 s r => by cases r; exact ⟨false, rfl, iteF (k _ _ s (.bl _))⟩⟩
  · cases e
theorem de_or {rest : List Expr} (ha : DE X a fa) (hb : DE X (.BoolOp .Or (b :: rest) pos) fb) : DE X (.BoolOp .Or (a :: b :: rest) pos) (eOr fa fb) := PE.imp (pe_or ha hb) fun σ H Q ⟨O0, ow, ρ, S, d, e, k⟩ => by
  unfold eOr at e
  split at e
  · rename_i ef
    cases e
    exact ⟨O0, ow, ρ, S, _, ef, fun v H1 s r => by cases r; exact ⟨true, rfl, iteT (k _ _ s (.bl _))⟩⟩
  · rename_i ef
    exact ⟨O0, ow, ρ, S, _, ef, fun v H1 s r => by cases r; exact ⟨false, rfl, iteF ⟨O0, ow, ρ, S.same s, d, e, fun v H2 s2 r => k v H2 (s.trans s2) r⟩⟩⟩
  · cases e
theorem de_not (h : DE X a f) : DE X (.UnaryOp .Not a pos) (eNot f) := PE.imp (pe_not h) fun σ H Q ⟨O0, ow, ρ, S, d, e, k⟩ => by
  unfold eNot at e
  split at e
  · rename_i b ef
    cases e
    exact ⟨O0, ow, ρ, S, _, ef, fun v H1 s r => by cases r; exact ⟨b, rfl, k _ _ s (.bl _)⟩⟩
  · cases e
/-- tests -/
def DW (X : Cx) (e : Expr) (f : DE1) : Prop := PW X e (tDT X.K f)
theorem PW.imp {t t' : TT} (h : PW X e t) (k : ∀ σ H Q, t' σ H Q → t σ H Q) : PW X e t' := ⟨fun wh pins s σ H Q I q => h.run wh pins s σ H Q I (k _ _ _ q)⟩
theorem dt_w (h : DW X e f) : DT X e f := PW.pt h
theorem dw_and1 (h : DT X a f) : DW X (.BoolOp .And [a] pos) f := pw_and1 h
theorem dw_or1 (h : DT X a f) : DW X (.BoolOp .Or [a] pos) f := pw_or1 h
theorem dw_and {rest : List Expr} (ha : DT X a fa) (hb : DW X (.BoolOp .And (b :: rest) pos) fb) : DW X (.BoolOp .And (a :: b :: rest) pos) (eAnd fa fb) := PW.imp (pw_and ha hb) fun σ H Q ⟨O0, ow, ρ, S, d, e, k⟩ => by
  unfold eAnd at e
  split at e
  · rename_i ef
    exact ⟨O0, ow, ρ, S, _, ef, fun H1 s => iteT ⟨O0, ow, ρ, S.same s, d, e, fun H2 s2 => k H2 (s.trans s2)⟩⟩
  · rename_i ef
    cases e
    exact ⟨O0, ow, ρ, S, _, ef, fun H1 s => iteF (k _ s)⟩
  · cases e
theorem dw_or {rest : List Expr} (ha : DT X a fa) (hb : DW X (.BoolOp .Or (b :: rest) pos) fb) : DW X (.BoolOp .Or (a :: b :: rest) pos) (eOr fa fb) := PW.imp (pw_or ha hb) fun σ H Q ⟨O0, ow, ρ, S, d, e, k⟩ => by
  unfold eOr at e
  split at e
  · rename_i ef
    cases e
    exact ⟨O0, ow, ρ, S, _, ef, fun H1 s => iteT (k _ s)⟩
  · rename_i ef
    exact ⟨O0, ow, ρ, S, _, ef, fun H1 s => iteF ⟨O0, ow, ρ, S.same s, d, e, fun H2 s2 => k H2 (s.trans s2)⟩⟩
  · cases e
theorem dt_not (h : DT X a f) : DT X (.UnaryOp .Not a pos) (eNot f) := PT.imp (pt_not h) fun σ H Q ⟨O0, ow, ρ, S, d, e, k⟩ => by
  unfold eNot at e
  split at e
  · rename_i b ef
    cases e
    exact ⟨O0, ow, ρ, S, _, ef, fun H1 s => k _ s⟩
  · cases e
theorem de_if (hc : DT X c fc) (ha : DE X a fa) (hb : DE X b fb) : DE X (.IfExp c a b pos) (eIf fc fa fb) := PE.imp (pe_ifExp hc ha hb) fun σ H Q ⟨O0, ow, ρ, S, d, e, k⟩ => by
  unfold eIf at e
  split at e
  · rename_i ef
    exact ⟨O0, ow, ρ, S, _, ef, fun H1 s => iteT ⟨O0, ow, ρ, S.same s, d, e, fun v H2 s2 r => k v H2 (s.trans s2) r⟩⟩
  · rename_i ef
    exact ⟨O0, ow, ρ, S, _, ef, fun H1 s => iteF ⟨O0, ow, ρ, S.same s, d, e, fun v H2 s2 r => k v H2 (s.trans s2) r⟩⟩
  · cases e
def eCh (g g' : D → D → Option D) (fa fb fc : DE1) : DE1 := fun ρ => (fa ρ).bind fun x => (fb ρ).bind fun y => match g x y with
  | some (.bl true) => (fc ρ).bind fun z => g' y z
  | some (.bl false) => some (.bl false)
  | _ => none
theorem tChain_D {op op' : CmpOp} {g g' : D → D → Option D} (ho : OpD X (compareOp op) g) (ho' : OpD X (compareOp op') g') (ha : DB X a fa) (hb : DB X b fb) (hc : DB X c fc) : ∃ r r', OpR X (compareOp op) r ∧ OpR X (compareOp op') r' ∧
    ∀ σ H Q, tDE X.K (eCh g g' fa fb fc) σ H Q → tChain r r' (tDB X.K fa) (tDB X.K fb) (tDB X.K fc) σ H Q := by
  obtain ⟨r, o, h⟩ := ho
  obtain ⟨r', o', h'⟩ := ho'
  refine ⟨r, r', o, o', fun σ H Q ⟨O0, ow, ρ, S, d, e, k⟩ => ?_⟩
  unfold eCh at e
  simp only [Option.bind_eq_some_iff] at e
  obtain ⟨x, ex, y, ey, e⟩ := e
  refine ⟨O0, ow, ρ, S, x, ex, fun vx H1 s1 r1 => ⟨O0, ow, ρ, S.same s1, y, ey, fun vy H2 s2 r2 => ?_⟩⟩
  split at e
  · rename_i eg
    simp only [Option.bind_eq_some_iff] at e
    obtain ⟨z, ez, e⟩ := e
    refine h _ H2 vx vy x y _ _ (r1.same (hide_same s2) s2) r2 eg (fun v H3 s3 rv => ?_) ((S.same s1).same s2).trk
    cases rv
    refine ⟨true, rfl, iteT ⟨O0, ow, ρ, ((S.same s1).same s2).same s3, z, ez, fun vz H4 s4 r4 => ?_⟩⟩
    exact h' _ H4 vy vz y z d Q (r2.same (hide_same (s3.trans s4)) (s3.trans s4)) r4 e (fun v H5 s5 rv => k v H5 (((s1.trans s2).trans (s3.trans s4)).trans s5) rv) ((((S.same s1).same s2).same s3).same s4).trk
  · rename_i eg
    cases e
    refine h _ H2 vx vy x y _ _ (r1.same (hide_same s2) s2) r2 eg (fun v H3 s3 rv => ?_) ((S.same s1).same s2).trk
    cases rv
    exact ⟨false, rfl, iteF (k _ _ ((s1.trans s2).trans s3) (.bl _))⟩
  · cases e
theorem de_chain {op op' : CmpOp} {g g' : D → D → Option D} (ho : OpD X (compareOp op) g) (ho' : OpD X (compareOp op') g') (ha : DB X a fa) (hb : DB X b fb) (hc : DB X c fc)
    (hm : lastMarks [op, op'] [b, c] = false := by with_unfolding_all rfl) : DE X (.Compare a [op, op'] [b, c] pos) (eCh g g' fa fb fc) := by
  obtain ⟨r, r', o, o', h⟩ := tChain_D ho ho' ha hb hc
  exact PE.imp (pe_chain o o' ha hb hc hm) h
theorem dt_chain {op op' : CmpOp} {g g' : D → D → Option D} (ho : OpD X (compareOp op) g) (ho' : OpD X (compareOp op') g') (ha : DB X a fa) (hb : DB X b fb) (hc : DB X c fc)
    (hm : lastMarks [op, op'] [b, c] = false := by with_unfolding_all rfl) : DT X (.Compare a [op, op'] [b, c] pos) (eCh g g' fa fb fc) := by
  obtain ⟨r, r', o, o', h⟩ := tChain_D ho ho' ha hb hc
  refine PT.imp (pt_chain o o' ha hb hc hm) fun σ H Q ⟨O0, ow, ρ, S, b, e, k⟩ => h σ H _ ⟨O0, ow, ρ, S, _, e, fun v H' s r => by cases r; exact ⟨b, rfl, k H' s⟩⟩

/-! ### items, slices -/
def ixD (xs : List D) (i : Int) : Option D := atI xs i
def gIx : D → D → Option D
  | .lst xs, .int i => atI xs i
  | .tup xs, .int i => atI xs i
  | .scr ns, .int i => (atI ns i).map .int
  | _, _ => none
theorem atI_reps {K : PySem.W.Frag} {H : Hp} {vs : List V} {ds : List D} {i : Int} {d : D} (r : Reps K H vs ds) (h : atI ds i = some d) : ∃ v, atI vs i = some v ∧ Rep K H v d := by
  unfold atI at h ⊢
  rw [r.length]
  cases e : ixN ds.length i with
  | none => rw [e] at h; cases h
  | some j =>
    rw [e] at h
    exact r.get h
theorem atI_map {ns : List Int} {i n : Int} (h : atI ns i = some n) : atI (ns.map V.int) i = some (.int n) := by
  unfold atI at h ⊢
  rw [List.length_map]
  cases e : ixN ns.length i with
  | none => rw [e] at h; cases h
  | some j =>
    rw [e] at h
    show (ns.map V.int)[j]? = _
    rw [List.getElem?_map, show ns[j]? = some n from h]
    rfl
theorem de_ix (ha : DB X a fa) (hb : DB X b fb) (hs : PlainIx b := by exact fun _ _ => rfl) : DE X (.Subscript a b pos) (e2 gIx fa fb) := PE.imp (pe_ix (ix_list.or ix_tup) ha hb hs) fun σ H Q ⟨O0, ow, ρ, S, d, e, k⟩ => by
  obtain ⟨p, q, ea, eb, eg⟩ := e2_some e
  refine ⟨O0, ow, ρ, S, p, ea, fun x H1 s1 r1 => ⟨O0, ow, ρ, S.same s1, q, eb, fun y H2 s2 r2 => ?_⟩⟩
  replace r1 := r1.same (hide_same s2) s2
  unfold gIx at eg
  split at eg
  · obtain ⟨l, vs, rfl, hl, rs⟩ := r1.lst hide_le
    obtain ⟨v, hv, rv⟩ := atI_reps rs eg
    exact .inl ⟨l, vs, _, v, rfl, r2.int, SqL.of hl, hv, k v H2 (s1.trans s2) rv⟩
  · obtain ⟨l, vs, rfl, hl, rs⟩ := r1.tup hide_le
    obtain ⟨v, hv, rv⟩ := atI_reps rs eg
    exact .inr ⟨l, vs, _, v, rfl, r2.int, hl, hv, k v H2 (s1.trans s2) rv⟩
  · rename_i ns i
    rw [Option.map_eq_some_iff] at eg
    obtain ⟨n, en, rfl⟩ := eg
    obtain ⟨l, rfl, hl⟩ := r1.scr hide_le
    exact .inl ⟨l, _, i, .int n, rfl, r2.int, hl, atI_map en, k _ H2 (s1.trans s2) (.int n)⟩
  · cases eg
/-- bounds of a slice -/
def tDO (K : PySem.W.Frag) (f : DEnv → Option (Option Int)) : TO := fun σ H Q => ∃ O0 ow ρ, Sl K O0 H σ ρ ow ∧ ∃ o, f ρ = some o ∧ ∀ H', Same H H' → Q o H'
def DO (X : Cx) (e : Option Expr) (f : DEnv → Option (Option Int)) : Prop := PO X e (tDO X.K f)
def oNone : DEnv → Option (Option Int) := fun _ => some none
def oSome (f : DE1) : DEnv → Option (Option Int) := fun ρ => match f ρ with
  | some (.int i) => some (some i)
  | _ => none
theorem PO.imp {e : Option Expr} {t t' : TO} (h : PO X e t) (k : ∀ σ H Q, t' σ H Q → t σ H Q) : PO X e t' := ⟨fun pins s σ H Q I q => h.run pins s σ H Q I (k _ _ _ q)⟩
theorem do_none : DO X none oNone := PO.imp po_none fun σ H Q ⟨O0, ow, ρ, S, o, e, k⟩ => by cases e; exact k H (.refl _)
theorem do_some (h : DE X e f) : DO X (some e) (oSome f) := PO.imp (po_some h) fun σ H Q ⟨O0, ow, ρ, S, o, e, k⟩ => by
  unfold oSome at e
  split at e
  · rename_i i ef
    cases e
    exact ⟨O0, ow, ρ, S, _, ef, fun v H1 s r => by cases r; exact ⟨i, rfl, k H1 s⟩⟩
  · cases e
def cutD {α : Type} (xs : List α) (lo hi : Option Int) : List α := (xs.drop (HT.sIx xs.length 0 lo)).take (HT.sIx xs.length xs.length hi - HT.sIx xs.length 0 lo)
theorem cut_reps {K : PySem.W.Frag} {H : Hp} {vs : List V} {ds : List D} (r : Reps K H vs ds) (lo hi : Option Int) : Reps K H (cutV vs lo hi) (cutD ds lo hi) := by
  unfold cutV cutD
  rw [r.length]
  exact (r.drop _).take _
theorem cut_map (ns : List Int) (lo hi : Option Int) : cutV (ns.map V.int) lo hi = (cutD ns lo hi).map V.int := by
  unfold cutV cutD
  rw [List.length_map, ← List.map_drop, ← List.map_take]
theorem reps_ints {K : PySem.W.Frag} {H : Hp} : ∀ ns : List Int, Reps K H (ns.map V.int) (ns.map D.int)
  | [] => .nil
  | n :: ns => .cons (.int n) (reps_ints ns)
def gSl (x : D) (lo hi : Option Int) : Option D := match x with
  | .lst xs => some (.lst (cutD xs lo hi))
  | .scr ns => some (.lst ((cutD ns lo hi).map D.int))
  | _ => none
def eSl (f : DE1) (l h : DEnv → Option (Option Int)) : DE1 := fun ρ => (f ρ).bind fun x => (l ρ).bind fun a => (h ρ).bind fun b => gSl x a b
theorem df_sl {lo hi : Option Expr} {l h : DEnv → Option (Option Int)} {p2 : Pos} (he : DB X e f) (hl : DO X lo l) (hh : DO X hi h) : DF X (.Subscript e (.Slice lo hi none p2) pos) (eSl f l h) := PE.imp (pe_slice sl_list he hl hh) fun σ H Q ⟨O0, ow, ρ, S, d, e, k⟩ => by
  unfold eSl at e
  simp only [Option.bind_eq_some_iff] at e
  obtain ⟨x, ex, lo', el, hi', eh, eg⟩ := e
  refine ⟨O0, ow, ρ, S, x, ex, fun v H1 s1 r1 => ⟨O0, ow, ρ, S.same s1, lo', el, fun H2 s2 => ⟨O0, ow, ρ, (S.same s1).same s2, hi', eh, fun H3 s3 => ?_⟩⟩⟩
  replace r1 := r1.same (hide_same (s2.trans s3)) (s2.trans s3)
  have s13 := s1.trans (s2.trans s3)
  unfold gSl at eg
  split at eg
  · cases eg
    obtain ⟨a, vs, rfl, ha, rs⟩ := r1.lst hide_le
    exact ⟨a, vs, rfl, SqL.of ha, fun q nq => k q _ (s13.trans (same_upd nq)) (Same.free s13 nq) (.lst upd_same (fresh_reps nq (cut_reps rs lo' hi')))⟩
  · rename_i ns
    cases eg
    obtain ⟨a, rfl, ha⟩ := r1.scr hide_le
    refine ⟨a, _, rfl, ha, fun q nq => k q _ (s13.trans (same_upd nq)) (Same.free s13 nq) (.lst upd_same ?_)⟩
    rw [cut_map]
    exact reps_ints _
  · cases eg
def gSlT (x : D) (lo hi : Option Int) : Option D := match x with
  | .tup xs => some (.tup (cutD xs lo hi))
  | _ => none
end
end DL

set_option maxHeartbeats 4000000
namespace DL
open PySem PySem.Spec PyProof.Rows L2
variable [CT]

section
variable {X : Cx} {e a b c : Expr} {es : List Expr} {f g fa fb fc ft : DE1} {fs : DEnv → Option (List D)} {pos p : Pos}
/-! ### lists that one name holds -/
def gApp (i : Nat) (f : DE1) : DS1 := fun ρ => match f ρ, ρ[i]? with
  | some d, some (some (true, .lst ds)) => if ds.length < 1000 then .nx (ρ.set i (some (true, .lst (ds ++ [d])))) else .stuck
  | _, _ => .stuck
theorem ds_app (i : Nat) {x : Str} {p1 apos cpos spos : Pos} (hv : PE X (.Name x p1) (tVar i)) (he : DE X e f)
    (h : PE X (.Name x p1) (tVar i) → PE X e (tDE X.K f) → PS X (.Expr (.Call (.Attribute (.Name x p1) "append" apos) [e] [] cpos) spos) (tDrop (tBM X.K "list" rAppend (tVar i) (tCons (tDE X.K f) tNil)))) :
    DS X (.Expr (.Call (.Attribute (.Name x p1) "append" apos) [e] [] cpos) spos) (gApp i f) := PS.imp (h hv he) fun N σ H ⟨H0, O0, ρ, ⟨s, ow, S, hn⟩, p⟩ => by
  unfold gApp at p
  split at p
  · rename_i d ds ef ei
    split at p
    · rename_i hl
      obtain ⟨o, h1, l, hw, rfl, t⟩ := S.sl i _ ei
      cases t with
      | lst hL rs =>
        rename_i vs
        refine ⟨.ref l, h1, .inl ⟨rfl, _, SqL.of hL⟩, O0, ow, ρ, S, d, ef, fun v H1 s1 r1 => ?_⟩
        have hL1 := s1 _ _ hL
        refine ⟨l, vs, v, rfl, rfl, hL1, small1000 (by rw [rs.length]; omega), p _ _ ⟨fun b u q => ?_, ow, (S.same s1).wr ei hw fun Hh sm => .lst upd_same (((rs.same (hide_same s1)).append (.cons r1 .nil)).same sm), hn⟩⟩
        have := hn i l hw
        rw [upd_ne (fun z => by subst z; rw [this] at q; cases q)]
        exact s1 _ _ (s _ _ q)
    · exact p.elim
  · exact p.elim
def gSetI (i : Nat) (fi f : DE1) : DS1 := fun ρ => match f ρ, fi ρ, ρ[i]? with
  | some d, some (.int k), some (some (true, .lst ds)) => match ixN ds.length k with
    | some j => .nx (ρ.set i (some (true, .lst (ds.set j d))))
    | none => .stuck
  | _, _, _ => .stuck
theorem ds_setI (i : Nat) {x : Str} {p1 spos tpos : Pos} {ie : Expr} {fi : DE1} (hv : PE X (.Name x p1) (tVar i)) (hi : DE X ie fi) (he : DE X e f)
    (h : PS X (.Assign [.Subscript (.Name x p1) ie tpos] e spos) (tAsg (tDE X.K f) (gSub (tVar i) (tDE X.K fi) rSetL))) : DS X (.Assign [.Subscript (.Name x p1) ie tpos] e spos) (gSetI i fi f) := PS.imp h fun N σ H ⟨H0, O0, ρ, ⟨s, ow, S, hn⟩, p⟩ => by
  unfold gSetI at p
  split at p
  · rename_i d k ds ef efi ei
    split at p
    · rename_i j hj
      obtain ⟨o, h1, l, hw, rfl, t⟩ := S.sl i _ ei
      cases t with
      | lst hL rs =>
        rename_i vs
        refine ⟨O0, ow, ρ, S, d, ef, fun v H1 s1 r1 => ⟨.ref l, h1, O0, ow, ρ, S.same s1, _, efi, fun vi H2 s2 r2 => ?_⟩⟩
        cases r2
        have s12 := s1.trans s2
        have hL1 := s12 _ _ hL
        refine ⟨l, vs, k, j, rfl, rfl, hL1, by rw [rs.length]; exact hj, p _ _ ⟨fun b u q => ?_, ow, (S.same s12).wr ei hw fun Hh sm => .lst upd_same (((rs.same (hide_same s12)).set (r1.same (hide_same s2)) j).same sm), hn⟩⟩
        have := hn i l hw
        rw [upd_ne (fun z => by subst z; rw [this] at q; cases q)]
        exact s12 _ _ (s _ _ q)
    · exact p.elim
  · exact p.elim

/-! ### calls of built-ins -/
def CallD (X : Cx) (f : Value) (g : List D → Option D) : Prop := ∃ r, CallR X f r ∧ ∀ (O : Addr → Prop) (H : Hp) (xs : List V) (ds : List D) (d : D) (Q : VK), BVs X.K (hide O H) H xs ds → g ds = some d → (∀ v H', Same H H' → Rep X.K (hide O H') v d → Q v H') →
  (∀ a, O a → ∃ o, H a = some o) → r xs H Q
def CallF (X : Cx) (f : Value) (g : List D → Option D) : Prop := ∃ r, CallR X f r ∧ ∀ (O : Addr → Prop) (H : Hp) (xs : List V) (ds : List D) (d : D) (Q : VK), BVs X.K (hide O H) H xs ds → g ds = some d →
  (∀ a H', Same H H' → H a = none → TopR X.K (hide (fun b => O b ∨ b = a) H') H' a d → Q (.ref a) H') → (∀ a, O a → ∃ o, H a = some o) → r xs H Q
def eCB (g : List D → Option D) (fs : DEnv → Option (List D)) : DE1 := fun ρ => (fs ρ).bind g
theorem tCB_D {v : Value} {g : List D → Option D} (h : CallD X v g) : ∃ r, CallR X v r ∧ ∀ σ H Q, tDE X.K (eCB g fs) σ H Q → tCB r (tDAB X.K fs) σ H Q := by
  obtain ⟨r, c, k⟩ := h
  refine ⟨r, c, fun σ H Q ⟨O0, ow, ρ, S, d, e, q⟩ => ?_⟩
  unfold eCB at e
  simp only [Option.bind_eq_some_iff] at e
  obtain ⟨ds, e1, e⟩ := e
  exact ⟨O0, ow, ρ, S, ds, e1, fun vs H1 s1 r1 => k _ H1 vs ds d Q r1 e (fun v H2 s2 r => q v H2 (s1.trans s2) r) (S.same s1).trk⟩
theorem tCB_F {v : Value} {g : List D → Option D} (h : CallF X v g) : ∃ r, CallR X v r ∧ ∀ σ H Q, tDF X.K (eCB g fs) σ H Q → tCB r (tDAB X.K fs) σ H Q := by
  obtain ⟨r, c, k⟩ := h
  refine ⟨r, c, fun σ H Q ⟨O0, ow, ρ, S, d, e, q⟩ => ?_⟩
  unfold eCB at e
  simp only [Option.bind_eq_some_iff] at e
  obtain ⟨ds, e1, e⟩ := e
  exact ⟨O0, ow, ρ, S, ds, e1, fun vs H1 s1 r1 => k _ H1 vs ds d Q r1 e (fun a H2 s2 n r => q a H2 (s1.trans s2) (Same.free s1 n) r) (S.same s1).trk⟩
theorem de_callB {id : String} {x : Str} {g : List D → Option D} (hc : CallD X (.builtin id) g) (hg : Gl X x) (hm : X.mg x = none) (hv : bootBuiltins x = some (.builtin id)) (ha : DAB X (e :: es) fs) (hn : x ≠ "__name__" := by decide) (hdb : (x == ("__debug__" : Str)) = false := by decide)
    (he : starEach (e :: es) X.env = (false, eval e X.env) :: starEach es X.env := by rfl) (hpl : (backTo pos (starEach es X.env)).any (·.1) = false := by rfl) : DE X (.Call (.Name x p) (e :: es) [] pos) (eCB g fs) := by
  obtain ⟨r, c, k⟩ := tCB_D (fs := fs) hc
  exact PE.imp (pe_callB c hg hm hv ha hn hdb he hpl) k
theorem de_callTy {T : String} {x : Str} {g : List D → Option D} (hc : CallD X (.type T) g) (hg : Gl X x) (hm : X.mg x = none) (hv : bootBuiltins x = some (.type T)) (ha : DAB X (e :: es) fs) (hn : x ≠ "__name__" := by decide) (hdb : (x == ("__debug__" : Str)) = false := by decide)
    (he : starEach (e :: es) X.env = (false, eval e X.env) :: starEach es X.env := by rfl) (hpl : (backTo pos (starEach es X.env)).any (·.1) = false := by rfl) : DE X (.Call (.Name x p) (e :: es) [] pos) (eCB g fs) := by
  obtain ⟨r, c, k⟩ := tCB_D (fs := fs) hc
  exact PE.imp (pe_callTy c hg hm hv ha hn hdb he hpl) k
theorem df_callTy {T : String} {x : Str} {g : List D → Option D} (hc : CallF X (.type T) g) (hg : Gl X x) (hm : X.mg x = none) (hv : bootBuiltins x = some (.type T)) (ha : DAB X (e :: es) fs) (hn : x ≠ "__name__" := by decide) (hdb : (x == ("__debug__" : Str)) = false := by decide)
    (he : starEach (e :: es) X.env = (false, eval e X.env) :: starEach es X.env := by rfl) (hpl : (backTo pos (starEach es X.env)).any (·.1) = false := by rfl) : DF X (.Call (.Name x p) (e :: es) [] pos) (eCB g fs) := by
  obtain ⟨r, c, k⟩ := tCB_F (fs := fs) hc
  exact PE.imp (pe_callTy c hg hm hv ha hn hdb he hpl) k
theorem de_callFun {id : String} {x : Str} {g : List D → Option D} (hc : CallD X (.builtin id) g) (hg : Gl X x) (hm : X.mg x = some (.builtin id)) (ha : DAB X (e :: es) fs)
    (h : ∀ {r} {t : TA}, CallR X (.builtin id) r → PA X (e :: es) t → PE X (.Call (.Name x p) (e :: es) [] pos) (tCB r t)) : DE X (.Call (.Name x p) (e :: es) [] pos) (eCB g fs) := by
  obtain ⟨r, c, k⟩ := tCB_D (fs := fs) hc
  exact PE.imp (h c ha) k
theorem BVs.one {K : PySem.W.Frag} {Hh H : Hp} {vs : List V} {d : D} (h : BVs K Hh H vs [d]) : ∃ v, vs = [v] ∧ BV K Hh H v d := by
  cases h with
  | cons a b => cases b; exact ⟨_, rfl, a⟩
theorem BVs.two {K : PySem.W.Frag} {Hh H : Hp} {vs : List V} {d e : D} (h : BVs K Hh H vs [d, e]) : ∃ v u, vs = [v, u] ∧ BV K Hh H v d ∧ BV K Hh H u e := by
  cases h with
  | cons a b =>
    obtain ⟨u, rfl, r⟩ := b.one
    exact ⟨_, _, rfl, a, r⟩
def gAbs : List D → Option D
  | [.int i] => some (.int (if i < 0 then -i else i))
  | _ => none
theorem cd_abs : CallD X (.builtin "abs") gAbs := ⟨_, call_abs, fun O H xs ds d Q r e k _ => by
  unfold gAbs at e
  split at e
  · rename_i i
    cases e
    obtain ⟨v, rfl, h⟩ := r.one
    cases h.int
    exact ⟨i, rfl, k _ _ (.refl _) (.int _)⟩
  · cases e⟩
def gInt : List D → Option D
  | [.int i] => some (.int i)
  | _ => none
theorem cd_int : CallD X (.type "int") gInt := ⟨_, call_int1, fun O H xs ds d Q r e k _ => by
  unfold gInt at e
  split at e
  · rename_i i
    cases e
    obtain ⟨v, rfl, h⟩ := r.one
    cases h.int
    exact .inl ⟨i, rfl, k _ _ (.refl _) (.int _)⟩
  · cases e⟩
def gGcd : List D → Option D
  | [.int i, .int j] => some (.int (Nat.gcd i.natAbs j.natAbs : Nat))
  | _ => none
theorem cd_gcd : CallD X (.builtin "math.gcd") gGcd := ⟨_, cr_gcd, fun O H xs ds d Q r e k _ => by
  unfold gGcd at e
  split at e
  · rename_i i j
    cases e
    obtain ⟨v, u, rfl, h1, h2⟩ := r.two
    cases h1.int
    cases h2.int
    exact ⟨i, j, rfl, k _ _ (.refl _) (.int _)⟩
  · cases e⟩
def gLen : List D → Option D
  | [.lst xs] => some (.int xs.length)
  | [.tup xs] => some (.int xs.length)
  | [.scr xs] => some (.int xs.length)
  | _ => none
theorem cd_len : CallD X (.builtin "len") gLen := ⟨_, call_len, fun O H xs ds d Q r e k _ => by
  unfold gLen at e
  split at e
  · cases e
    obtain ⟨v, rfl, h⟩ := r.one
    obtain ⟨a, vs, rfl, ha, rs⟩ := h.lst hide_le
    exact ⟨_, _, rfl, .inl ⟨vs, SqL.of ha, rfl⟩, k _ _ (.refl _) (by rw [rs.length]; exact .int _)⟩
  · cases e
    obtain ⟨v, rfl, h⟩ := r.one
    obtain ⟨a, vs, rfl, ha, rs⟩ := h.tup hide_le
    exact ⟨_, _, rfl, .inr ⟨vs, ha, rfl⟩, k _ _ (.refl _) (by rw [rs.length]; exact .int _)⟩
  · cases e
    obtain ⟨v, rfl, h⟩ := r.one
    obtain ⟨a, rfl, ha⟩ := h.scr hide_le
    exact ⟨_, _, rfl, .inl ⟨_, ha, rfl⟩, k _ _ (.refl _) (by rw [List.length_map]; exact .int _)⟩
  · cases e⟩
/-- sums -/
def intsOf : List D → Option (List Int)
  | [] => some []
  | .int i :: ds => (intsOf ds).map (i :: ·)
  | _ => none
theorem intsOf_V {K : PySem.W.Frag} {H : Hp} : ∀ {vs : List V} {ds : List D} {ns : List Int}, Reps K H vs ds → intsOf ds = some ns → vs = ns.map V.int
  | _, _, _, .nil, e => by cases e; rfl
  | _, _, _, .cons (d := d) r s, e => by
    cases d with
    | int i =>
      simp only [intsOf, Option.map_eq_some_iff] at e
      obtain ⟨ns, e, rfl⟩ := e
      cases r
      rw [intsOf_V s e]
      rfl
    | _ => simp [intsOf] at e
def blsOf : List D → Option (List Bool)
  | [] => some []
  | .bl i :: ds => (blsOf ds).map (i :: ·)
  | _ => none
theorem blsOf_V {K : PySem.W.Frag} {H : Hp} : ∀ {vs : List V} {ds : List D} {ns : List Bool}, Reps K H vs ds → blsOf ds = some ns → vs = ns.map V.bl
  | _, _, _, .nil, e => by cases e; rfl
  | _, _, _, .cons (d := d) r s, e => by
    cases d with
    | bl i =>
      simp only [blsOf, Option.map_eq_some_iff] at e
      obtain ⟨ns, e, rfl⟩ := e
      cases r
      rw [blsOf_V s e]
      rfl
    | _ => simp [blsOf] at e
theorem preSumT (xs : Array (Int × Tok)) (ns : List Int) (h : PyProof.Rows.IntsAre (intItems xs).toList ns) : preSum (numAt xs) xs.size = ns.sum := by
  have hn := h.numsOf
  rw [nums_intItems] at hn
  rw [preSum_eq, List.take_of_length_le (by simp), hn]
theorem cr_sumT (hc : X.calm = true) : CallR X (.builtin "sum") (fun vs H Q => ∃ (a : Addr) (ns : List Int), vs = [V.ref a] ∧ SqT X.K H a (ns.map V.int) ∧ Q (.int ns.sum) H) := by
  intro pins s σ H vs us Q I r h
  obtain ⟨a, ns, rfl, hs, q⟩ := h
  obtain ⟨its, rv, ht, _⟩ := I.tuple hs
  rw [Vals.ref1 r]
  have hi := rv.ints
  obtain ⟨xs, hx⟩ := hi.allInts.items
  rw [hx] at ht
  have hi2 : PyProof.Rows.IntsAre (intItems xs).toList ns := by rw [← hx]; exact hi
  refine PySem.W.ktm_sumG (I.ok.hd hc) ht fun h' tk t' hk => ?_
  rw [preSumT xs ns hi2]
  exact ⟨.int _, H, I.kept hk, ⟨_, rfl⟩, q⟩
def gSum : List D → Option D
  | [.lst xs] => (intsOf xs).map fun ns => .int ns.sum
  | [.tup xs] => (intsOf xs).map fun ns => .int ns.sum
  | _ => none
theorem CallR.or2 {f : Value} {r r' : List V → Hp → VK → Prop} (h : CallR X f r) (h' : CallR X f r') : CallR X f (fun xs H Q => r xs H Q ∨ r' xs H Q) := CallR.or h h'
theorem cd_sum (hc : X.calm = true) : CallD X (.builtin "sum") gSum := ⟨_, (cr_sum hc).or (cr_sumT hc), fun O H xs ds d Q r e k _ => by
  unfold gSum at e
  split at e
  · rw [Option.map_eq_some_iff] at e
    obtain ⟨ns, e1, rfl⟩ := e
    obtain ⟨v, rfl, h⟩ := r.one
    obtain ⟨a, vs, rfl, ha, rs⟩ := h.lst hide_le
    have := intsOf_V rs e1
    subst this
    exact .inl ⟨a, ns, rfl, SqL.of ha, k _ _ (.refl _) (.int _)⟩
  · rw [Option.map_eq_some_iff] at e
    obtain ⟨ns, e1, rfl⟩ := e
    obtain ⟨v, rfl, h⟩ := r.one
    obtain ⟨a, vs, rfl, ha, rs⟩ := h.tup hide_le
    have := intsOf_V rs e1
    subst this
    exact .inr ⟨a, ns, rfl, ha, k _ _ (.refl _) (.int _)⟩
  · cases e⟩
def gAll : List D → Option D
  | [.lst xs] => (blsOf xs).map fun bs => .bl (bs.all id)
  | _ => none
def gAny : List D → Option D
  | [.lst xs] => (blsOf xs).map fun bs => .bl (bs.any id)
  | _ => none
theorem cd_all (hc : X.calm = true) : CallD X (.builtin "all") gAll := ⟨_, cr_all hc, fun O H xs ds d Q r e k _ => by
  unfold gAll at e
  split at e
  · rw [Option.map_eq_some_iff] at e
    obtain ⟨ns, e1, rfl⟩ := e
    obtain ⟨v, rfl, h⟩ := r.one
    obtain ⟨a, vs, rfl, ha, rs⟩ := h.lst hide_le
    have := blsOf_V rs e1
    subst this
    exact ⟨a, ns, rfl, SqL.of ha, k _ _ (.refl _) (.bl _)⟩
  · cases e⟩
theorem cd_any (hc : X.calm = true) : CallD X (.builtin "any") gAny := ⟨_, cr_any hc, fun O H xs ds d Q r e k _ => by
  unfold gAny at e
  split at e
  · rw [Option.map_eq_some_iff] at e
    obtain ⟨ns, e1, rfl⟩ := e
    obtain ⟨v, rfl, h⟩ := r.one
    obtain ⟨a, vs, rfl, ha, rs⟩ := h.lst hide_le
    have := blsOf_V rs e1
    subst this
    exact ⟨a, ns, rfl, SqL.of ha, k _ _ (.refl _) (.bl _)⟩
  · cases e⟩
def gTupOf : List D → Option D
  | [.lst xs] => some (.tup xs)
  | [.tup xs] => some (.tup xs)
  | _ => none
theorem cd_tuple : CallD X (.type "tuple") gTupOf := ⟨_, call_tuple_of, fun O H xs ds d Q r e k t => by
  unfold gTupOf at e
  split at e
  · cases e
    obtain ⟨v, rfl, h⟩ := r.one
    obtain ⟨a, vs, rfl, ha, rs⟩ := h.lst hide_le
    exact ⟨a, vs, rfl, .inl ⟨SqL.of ha, fun l nl => k _ _ (same_upd nl) (.tup (SqT.of (hide_some.mpr ⟨new_rep (K := X.K) t nl, upd_same⟩)) (rs.same (hide_same (same_upd nl))))⟩⟩
  · cases e
    obtain ⟨v, rfl, h⟩ := r.one
    obtain ⟨a, vs, rfl, ha, rs⟩ := h.tup hide_le
    refine ⟨a, vs, rfl, .inr ⟨ha, k _ _ (.refl _) ?_⟩⟩
    rcases h with h | ⟨_, _, h⟩
    · exact h
    · cases h
  · cases e⟩
def gListOf : List D → Option D
  | [.lst xs] => some (.lst xs)
  | [.tup xs] => some (.lst xs)
  | _ => none
theorem cf_list : CallF X (.type "list") gListOf := ⟨_, call_list_of, fun O H xs ds d Q r e k t => by
  unfold gListOf at e
  split at e
  · cases e
    obtain ⟨v, rfl, h⟩ := r.one
    obtain ⟨a, vs, rfl, ha, rs⟩ := h.lst hide_le
    exact ⟨a, vs, rfl, .inl (SqL.of ha), fun l nl => k _ _ (same_upd nl) nl (.lst upd_same (fresh_reps nl rs))⟩
  · cases e
    obtain ⟨v, rfl, h⟩ := r.one
    obtain ⟨a, vs, rfl, ha, rs⟩ := h.tup hide_le
    exact ⟨a, vs, rfl, .inr ha, fun l nl => k _ _ (same_upd nl) nl (.lst upd_same (fresh_reps nl rs))⟩
  · cases e⟩
/-- list(range(n)) -/
def eLr (f : DE1) : DE1 := fun ρ => match f ρ with
  | some (.int n) => if rngOk 0 n then some (.lst (rngD 0 n)) else none
  | _ => none
def eLr2 (f g : DE1) : DE1 := fun ρ => match f ρ, g ρ with
  | some (.int m), some (.int n) => if rngOk m n then some (.lst (rngD m n)) else none
  | _, _ => none
theorem reps_rng {K : PySem.W.Frag} {H : Hp} (a b : Int) : Reps K H (rgV a b) (rngD a b) := by
  unfold rgV rngD
  generalize (b - a).toNat = n
  have : ∀ l : List Nat, Reps K H (l.map fun i => V.int (a + (i : Nat))) (l.map fun i => D.int (a + (i : Nat))) := fun l => by
    induction l with
    | nil => exact .nil
    | cons x l ih => exact .cons (.int _) ih
  exact this _
theorem df_listRg {p1 pos1 p2 pos2 : Pos} (hc : X.calm = true) (hg : Gl X "list") (hm : X.mg "list" = none) (hg2 : Gl X "range") (hm2 : X.mg "range" = none) (h : DE X e f)
    (na : starEach [.Call (.Name "range" p2) [e] [] pos2] X.env = (false, eval (.Call (.Name "range" p2) [e] [] pos2) X.env) :: starEach [] X.env := by rfl) (na2 : starEach [e] X.env = (false, eval e X.env) :: starEach [] X.env := by rfl) :
    DF X (.Call (.Name "list" p1) [.Call (.Name "range" p2) [e] [] pos2] [] pos1) (eLr f) := PE.imp (pe_listRg hc hg hm (prg_1 hg2 hm2 h na2) na) fun σ H Q ⟨O0, ow, ρ, S, d, e, k⟩ => by
  unfold eLr at e
  split at e
  · rename_i n ef
    split at e
    · rename_i hr
      cases e
      have hb := of_decide_eq_true hr
      refine ⟨O0, ow, ρ, S, _, ef, fun v H1 s1 r => ⟨n, (by cases r; rfl), (by unfold RgOk; omega), fun q nq => k q _ (s1.trans (same_upd nq)) (Same.free s1 nq) (.lst upd_same (reps_rng 0 n))⟩⟩
    · cases e
  · cases e
end
end DL

set_option maxHeartbeats 4000000
namespace DL
open PySem PySem.Spec PyProof.Rows L2
variable [CT]

/-! ### defs -/
def spD (K : PySem.W.Frag) (n : Nat) (F : List D → Option D) : Sp := fun vs H Q _ => vs.length = n ∧ ∃ (O0 : Addr → Prop) (ds : List D), (∀ a, O0 a → ∃ o, H a = some o) ∧ Reps K (hide O0 H) vs ds ∧ ∃ d, F ds = some d ∧ ∀ v H', Same H H' → Rep K (hide O0 H') v d → Q v H'
def startD (m : Nat) (ds : List D) : DEnv := ds.map (fun d => some (false, d)) ++ List.replicate (m - ds.length) none
/-- what a body gives back -/
def backD : Fl → Option D
  | .rt d => some d
  | .nx _ => some .non
  | _ => none
def mkF (m : Nat) (g : DS1) : List D → Option D := fun ds => backD (g (startD m ds))
theorem start_sl {K : PySem.W.Frag} {O0 : Addr → Prop} {H : Hp} {N : List Str} {vs : List V} {ds : List D} (t : ∀ a, O0 a → ∃ o, H a = some o) (r : Reps K (hide O0 H) vs ds) : Sl K O0 H (L2.start N vs) (startD N.length ds) fun _ => none := by
  have hh : ∀ a, hid O0 (fun _ => none) a → O0 a := fun a z => z.elim (fun z => z) fun ⟨_, z⟩ => by cases z
  refine ⟨(by simp [L2.start, startD, r.length]), fun i j a z => (by cases z), fun i a z => (by cases z), fun a z => t a (hh a z), fun i s h => ?_⟩
  unfold startD at h
  unfold L2.start
  have hl := r.length
  by_cases hi : i < ds.length
  · rw [List.getElem?_append_left (by simpa using hi), List.getElem?_map] at h
    obtain ⟨d, hd⟩ : ∃ d, ds[i]? = some d := ⟨_, List.getElem?_eq_getElem hi⟩
    rw [hd] at h
    cases h
    obtain ⟨v, hv, rv⟩ := r.get hd
    refine ⟨some v, by rw [List.getElem?_append_left (by simp; omega), List.getElem?_map, hv]; rfl, v, rfl, rv.same (hide_sub hh)⟩
  · rw [List.getElem?_append_right (by simp; omega)] at h
    simp only [List.length_map] at h
    have h2 := List.getElem?_eq_some_iff.mp h
    obtain ⟨h2, h3⟩ := h2
    simp only [List.length_replicate] at h2
    simp only [List.getElem_replicate] at h3
    subst h3
    refine ⟨none, ?_, trivial⟩
    rw [List.getElem?_append_right (by simp; omega), List.getElem?_eq_getElem (by simp; omega)]
    simp
section
variable {P : Program} {w : World} {K : PySem.W.Frag} {mg : Str → Option Value} {base : Heap}
theorem def_ok {x qual : Str} {st : Stmt} {f : Addr} {fd : FuncData} {N ps : List Str} {k : Nat} {g : DS1} (F : Fun K x qual st f fd) (S : FnScope N ps (defScope st))
    (h : ∀ (cdv : Value) (A : Around) (outer : List Env) (s : Shared) (H : Hp) (E : XK), Room k (A.deeper (envOfC qual (defScope st) s.heap.objs.size f cdv)) → DSs (cxOf CX0 P w K mg base N qual (defScope st) f cdv A outer s H E).nox (defBody st) g) :
    FnOk P w K mg base CX0 (k + 1) f fd ps (spD K ps.length (mkF N.length g)) := by
  refine F.ok S (fun vs H Q E h => h.1) (fun cdv A outer s H vs Q E hr h' => ?_)
  refine ⟨_, h cdv A outer s H E hr, ?_⟩
  obtain ⟨hn, O0, ds, t, r, d, e, q⟩ := h'
  refine ⟨H, O0, _, ⟨.refl _, _, start_sl t r, fun i a z => (by cases z)⟩, ?_⟩
  unfold mkF at e
  cases eg : g (startD N.length ds) with
  | rt d' => rw [eg] at e; cases e; exact q
  | nx ρ => rw [eg] at e; cases e; exact fun σ H' S' => q .non H' S'.1 .non
  | bk ρ => rw [eg] at e; cases e
  | ct ρ => rw [eg] at e; cases e
  | stuck => rw [eg] at e; cases e
end
section
variable {X : Cx} {e a b : Expr} {es : List Expr} {f fa fb : DE1} {fs : DEnv → Option (List D)} {pos p : Pos}
/-! ### calls of defs -/
def eCall (n : Nat) (F : List D → Option D) (fs : DEnv → Option (List D)) : DE1 := fun ρ => (fs ρ).bind fun ds => if ds.length = n then F ds else none
theorem tCall_D {n : Nat} {F : List D → Option D} {E : XK} : ∀ σ H Q, tDE X.K (eCall n F fs) σ H Q → tCall (spD X.K n F) [] E (tDA X.K fs) σ H Q := fun σ H Q ⟨O0, ow, ρ, S, d, e, k⟩ => by
  unfold eCall at e
  simp only [Option.bind_eq_some_iff] at e
  obtain ⟨ds, e1, e⟩ := e
  split at e
  · rename_i hl
    refine ⟨O0, ow, ρ, S, ds, e1, fun vs H1 s1 r1 => ⟨by rw [List.append_nil, r1.length]; exact hl, hid O0 ow, ds, (S.same s1).trk, by rw [List.append_nil]; exact r1, d, e, fun v H2 s2 r => k v H2 (s1.trans s2) r⟩⟩
  · cases e
theorem de_call {fa : Addr} {fd : FuncData} {ps : List Str} {k n : Nat} {x : Str} {F : List D → Option D} (Fk : FnOk X.prog X.w X.K X.mg X.base CX0 k fa fd ps (spD X.K n F)) (hr : Room k X.A) (hg : Gl X x) (hm : X.mg x = some (.ref fa)) (hk : PySem.W.keepIn X.K (.ref fa) = true) (hb : Binds X.K fd ps [])
    (ha : DA X (e :: es) fs) (hdb : (x == ("__debug__" : Str)) = false := by decide) (he : starEach (e :: es) X.env = (false, eval e X.env) :: starEach es X.env := by rfl) (hpl : (backTo pos (starEach es X.env)).any (·.1) = false := by rfl) :
    DE X (.Call (.Name x p) (e :: es) [] pos) (eCall n F fs) := PE.imp (pe_call Fk hr hg hm hk hb .nil pass0 ha hdb he hpl) tCall_D

/-! ### two names at once -/
def gPar (i j : Nat) (fs : DEnv → Option (List D)) : DS1 := fun ρ => match fs ρ with
  | some [x, y] => .nx ((ρ.set i (some (false, x))).set j (some (false, y)))
  | _ => .stuck
theorem ds_par (i j : Nat) {x y : Str} {px py pt : Pos} {kt k2 pt2} (hc : X.calm = true) (hN : X.N.Nodup) (ha : DA X [a, b] fs) (hi : X.N[i]? = some x := by rfl) (hj : X.N[j]? = some y := by rfl) (hij : i ≠ j := by decide)
    (hx : X.env.scope.names.lookup x = some .local := by rfl) (hy : X.env.scope.names.lookup y = some .local := by rfl)
    (hw : swappedStores [.Tuple [.Name x px, .Name y py] kt pt] (.Tuple [a, b] k2 pt2) X.env = pure (some [x, y]) := by rfl)
    (hs : swapsWithSole [.Tuple [.Name x px, .Name y py] kt pt] (.Tuple [a, b] k2 pt2) pos.line X.env = pure false := by rfl) :
    DS X (.Assign [.Tuple [.Name x px, .Name y py] kt pt] (.Tuple [a, b] k2 pt2) pos) (gPar i j fs) := PS.imp (ps_par hc hN hi hj hij hx hy ha hw hs) fun N σ H ⟨H0, O0, ρ, ⟨s, ow, S, h⟩, p⟩ => by
  unfold gPar at p
  split at p
  · rename_i d1 d2 ef
    refine ⟨O0, ow, ρ, S, _, ef, fun vs H1 s1 r1 => ?_⟩
    cases r1 with
    | cons r1 r2 =>
      cases r2 with
      | cons r2 r3 =>
        cases r3
        exact ⟨_, _, rfl, p _ H1 ⟨s.trans s1, ow, ((S.same s1).set r1).set r2, h⟩⟩
  · exact p.elim
def gParF (i j : Nat) (f g : DE1) : DS1 := fun ρ => match f ρ, g ρ with
  | some x, some y => .nx ((ρ.set i (some (true, x))).set j (some (true, y)))
  | _, _ => .stuck
theorem ds_parF (i j : Nat) {x y : Str} {px py pt : Pos} {kt k2 pt2} (hc : X.calm = true) (hN : X.N.Nodup) (ha : DF X a fa) (hb : DF X b fb) (hs1 : starEach [a, b] X.env = (false, eval a X.env) :: starEach [b] X.env := by rfl) (hs2 : starEach [b] X.env = (false, eval b X.env) :: starEach [] X.env := by rfl)
    (hi : X.N[i]? = some x := by rfl) (hj : X.N[j]? = some y := by rfl) (hij : i ≠ j := by decide)
    (hx : X.env.scope.names.lookup x = some .local := by rfl) (hy : X.env.scope.names.lookup y = some .local := by rfl)
    (hw : swappedStores [.Tuple [.Name x px, .Name y py] kt pt] (.Tuple [a, b] k2 pt2) X.env = pure (some [x, y]) := by rfl)
    (hs : swapsWithSole [.Tuple [.Name x px, .Name y py] kt pt] (.Tuple [a, b] k2 pt2) pos.line X.env = pure false := by rfl) :
    DS X (.Assign [.Tuple [.Name x px, .Name y py] kt pt] (.Tuple [a, b] k2 pt2) pos) (gParF i j fa fb) := PS.imp (ps_par hc hN hi hj hij hx hy (pa_cons ha (pa_cons hb pa_nil hs2) hs1) hw hs) fun N σ H ⟨H0, O0, ρ, ⟨s, ow, S, h⟩, p⟩ => by
  unfold gParF at p
  split at p
  · rename_i d1 d2 ef1 ef2
    refine ⟨O0, ow, ρ, S, _, ef1, fun a1 H1 s1 n1 t1 => ?_⟩
    obtain ⟨o1, ho1⟩ := t1.some
    refine ⟨fun b => O0 b ∨ b = a1, ow, ρ, S.more s1 n1 ⟨o1, ho1⟩, _, ef2, fun a2 H2 s2 n2 t2 => ⟨_, _, rfl, p _ H2 ?_⟩⟩
    have S1 := S.setF (i := i) s1 n1 t1
    have sub : ∀ b, hid O0 (owSet ow i (some a1)) b ∨ b = a2 → hid (fun b => O0 b ∨ b = a1) ow b ∨ b = a2 := fun b z => by
      rcases z with (z | ⟨j, z⟩) | z
      · exact .inl (.inl (.inl z))
      · unfold owSet at z
        split at z
        · cases z; exact .inl (.inl (.inr rfl))
        · exact .inl (.inr ⟨j, z⟩)
      · exact .inr z
    refine ⟨s.trans (s1.trans s2), _, S1.setF (i := j) s2 n2 (t2.same (hide_sub sub) rfl), fun l b q => ?_⟩
    unfold owSet at q
    split at q
    · cases q; exact Same.free (s.trans s1) n2
    · split at q
      · cases q; exact Same.free s n1
      · exact h l b q
  · exact p.elim

/-! ### instances -/
def eFld (ks : List Nat) (x : Str) (f : DE1) : DE1 := fun ρ => match f ρ with
  | some (.ins k fs) => if ks.contains k then fs.lookup x else none
  | _ => none
/-- the classes with these numbers have the field, and nothing of that name of their own -/
def Flds (K : PySem.W.Frag) (ks : List Nat) (x : Str) : Prop := ∀ k, ks.contains k = true → Cls K (CT.ct k) ∧ NoAttr K (CT.ct k) x
theorem de_fld {x : Str} {ks : List Nat} (c : Flds X.K ks x) (he : DE X e f) (hb : attributeBase e x X.env (eval e X.env) = eval e X.env := by rfl) : DE X (.Attribute e x pos) (eFld ks x f) := PE.imp (pe_fld he hb) fun σ H Q ⟨O0, ow, ρ, S, d, e, k⟩ => by
  unfold eFld at e
  split at e
  · rename_i C fs ef
    split at e
    · rename_i hC
      obtain ⟨c1, n⟩ := c C hC
      refine ⟨O0, ow, ρ, S, _, ef, fun v H1 s1 r1 => ?_⟩
      cases r1 with
      | ins hI rf =>
        obtain ⟨v, hv, rv⟩ := rf.lookup e
        exact ⟨_, _, _, _, v, rfl, hide_le _ _ hI, c1, n, hv, k v H1 s1 rv⟩
    · cases e
  · cases e
/-- a property -/
def eProp (C : Nat) (F : List D → Option D) (f : DE1) : DE1 := fun ρ => match f ρ with
  | some (.ins C' fs) => if C' = C then F [.ins C' fs] else none
  | _ => none
theorem de_prop {x : Str} {C : Nat} {pa g : Addr} {fd : FuncData} {ps : List Str} {k : Nat} {F : List D → Option D} (c : Cls X.K (CT.ct C)) (hp : PropOf X.K (CT.ct C) x pa g) (Fk : FnOk X.prog X.w X.K X.mg X.base CX0 k g fd ps (spD X.K 1 F)) (hr : Room (k + 1) X.A) (hb : Binds X.K fd ps []) (he : DE X e f)
    (hab : attributeBase e x X.env (eval e X.env) = eval e X.env := by rfl) : DE X (.Attribute e x pos) (eProp C F f) := PE.imp (pe_prop he c hp Fk hr hb .nil pass0 hab) fun σ H Q ⟨O0, ow, ρ, S, d, e, q⟩ => by
  unfold eProp at e
  split at e
  · rename_i C' fs ef
    split at e
    · rename_i hC
      subst hC
      refine ⟨O0, ow, ρ, S, _, ef, fun v H1 s1 r1 => ?_⟩
      have r1' := r1
      cases r1 with
      | ins hI rf =>
        exact ⟨_, _, _, rfl, hide_le _ _ hI, rfl, hid O0 ow, _, (S.same s1).trk, .cons r1' .nil, d, e, fun v H2 s2 r => q v H2 (s1.trans s2) r⟩
    · cases e
  · cases e
/-- len of an instance -/
theorem call_len_own {C g : Addr} {fd : FuncData} {ps : List Str} {k : Nat} {F : List D → Option D} (c : Cls X.K C) (hm : Meth X.K C "__len__" g) (Fk : FnOk X.prog X.w X.K X.mg X.base CX0 k g fd ps (spD X.K 1 F)) (hr : Room (k + 1) X.A) (hb : Binds X.K fd ps []) :
    CallR X (.builtin "len") (fun xs H Q => ∃ a dx fs, xs = [.ref a] ∧ H a = some (.ins C dx fs) ∧ ∃ n : Int, 0 ≤ n ∧ n < 2 ^ 63 ∧ spD X.K 1 F [.ref a] H (fun v H' => v = .int n ∧ Q v H') E0) := by
  intro pins s σ H xs us Q I r h
  obtain ⟨a, dx, fs, rfl, ea, n, h0, h1, h⟩ := h
  rw [Vals.ref1 r]
  obtain ⟨mA, O, _, _, _, _⟩ := ins_get I.hok ea
  obtain ⟨od, J, _⟩ := O.look
  obtain ⟨m, Fm⟩ := I.fr
  refine PySem.W.len_K Fm I.mod.kin J hm.at_ hm.fn (wpAny_call ?_)
  have hl : ([Value.ref a] ++ ([] : List Value)).length = ps.length := by rw [← Fk.len _ _ _ _ h]; rfl
  refine codeAny_mono (Fk.run X.A.in1 X.stack s H ⟨[.ref a], []⟩ ([Value.ref a] ++ ([] : List Value)) [.ref a] _ E0 hr.in1 I.env0.in1 (hb _ [.ref a] I.kIn hl) (show Vals [V.ref a] [Value.ref a] from .cons rfl .nil) h) fun r s' hq => ?_
  cases r with
  | error er => exact pass0 (X := X) pins σ H s er s' I hq
  | ok fl =>
    cases fl with
    | ret u =>
      obtain ⟨v, H', I3, rv, rfl, q3⟩ := I.after hq
      obtain ⟨t, rfl⟩ := rv
      exact ⟨⟨h0, h1⟩, .int n, H', I3.tok _, ⟨_, rfl⟩, q3⟩
    | next => exact False.elim hq
    | brk => exact False.elim hq
    | cont => exact False.elim hq
def gLenO (C : Nat) (F : List D → Option D) : List D → Option D
  | [.ins C' fs] => if C' = C then (match F [.ins C' fs] with
    | some (.int n) => if 0 ≤ n ∧ n < 2 ^ 63 then some (.int n) else none
    | _ => none) else none
  | _ => none
theorem cd_lenO {C : Nat} {g : Addr} {fd : FuncData} {ps : List Str} {k : Nat} {F : List D → Option D} (c : Cls X.K (CT.ct C)) (hm : Meth X.K (CT.ct C) "__len__" g) (Fk : FnOk X.prog X.w X.K X.mg X.base CX0 k g fd ps (spD X.K 1 F)) (hr : Room (k + 1) X.A) (hb : Binds X.K fd ps []) :
    CallD X (.builtin "len") (gLenO C F) := ⟨_, call_len_own c hm Fk hr hb, fun O H xs ds d Q r e q t => by
  unfold gLenO at e
  split at e
  · rename_i C' fs
    split at e
    · rename_i hC
      subst hC
      split at e
      · rename_i n en
        split at e
        · rename_i hn
          cases e
          obtain ⟨v, rfl, h⟩ := r.one
          have hh : Rep X.K (hide O H) v (.ins C' fs) := by
            rcases h with h | ⟨_, _, h⟩
            · exact h
            · cases h
          obtain ⟨a, dx, vs, rfl, ha, rf⟩ := h.ins hide_le
          exact ⟨a, dx, vs, rfl, ha, n, hn.1, hn.2, rfl, O, _, t, .cons hh .nil, _, en, fun v H' s r => by cases r; exact ⟨rfl, q _ H' s (.int n)⟩⟩
        · cases e
      · cases e
    · cases e
  · cases e⟩
theorem CallD.or {v : Value} {g g' : List D → Option D} (h : CallD X v g) (h' : CallD X v g') : CallD X v (fun x => (g x).or (g' x)) := by
  obtain ⟨r, o, k⟩ := h
  obtain ⟨r', o', k'⟩ := h'
  refine ⟨_, CallR.or2 o o', fun O H xs ds d Q hx e c t => ?_⟩
  replace e : (g ds).or (g' ds) = some d := e
  cases eg : g ds with
  | some z => rw [eg] at e; cases e; exact .inl (k O H xs ds _ Q hx eg c t)
  | none => rw [eg] at e; exact .inr (k' O H xs ds d Q hx (by simpa using e) c t)
/-! ### isinstance -/
def tyName : D → Option String
  | .non => some "NoneType"
  | .bl _ => some "bool"
  | .int _ => some "int"
  | .str _ => some "str"
  | .tup _ => some "tuple"
  | .lst _ => some "list"
  | .scr _ => some "list"
  | _ => none
theorem tyX_of {K : PySem.W.Frag} {Hh H : Hp} {v : V} {d : D} {n : String} (h : BV K Hh H v d) (s : Same Hh H) (e : tyName d = some n) : TyX K H v (.type n) := by
  rcases h with h | ⟨a, rfl, t⟩
  · cases h with
    | non => cases e; exact .base .non
    | bl b => cases e; exact .base (.bl b)
    | int b => cases e; exact .base (.int b)
    | str b => cases e; exact .base (.str b)
    | tup q r =>
      cases e
      rcases q with (q | ⟨o, q⟩) | ⟨o, its, m, q1, q2, _⟩
      · exact .base (.tup (s _ _ q))
      · exact .fTuple (s _ _ q)
      · exact .kTuple q1 q2
    | lst q r => cases e; exact .base (.lst (s _ _ q))
    | scr q =>
      cases e
      rcases q with (q | ⟨o, q⟩) | ⟨o, its, m, q1, q2, _⟩
      · exact .base (.lst (s _ _ q))
      · exact .base (.frz (s _ _ q))
      · exact .kList q1 q2
    | ins q r => cases e
    | dic q r k => cases e
  · cases t with
    | lst q r => cases e; exact .base (.lst q)
    | dic q r k => cases e
def gIsi (n : String) (d : D) : Option D := (tyName d).bind fun m => (kitB m n).map .bl
def eIsi (n : String) (f : DE1) : DE1 := fun ρ => (f ρ).bind (gIsi n)
theorem de_isi {T : String} {x y : Str} {p2 : Pos} (hg : Gl X x) (hm : X.mg x = none) (hv : bootBuiltins x = some (.builtin "isinstance")) (ha : DB X e f) (hT : PE X (.Name y p2) (tC (.ty T))) (hn : x ≠ "__name__" := by decide) (hdb : (x == ("__debug__" : Str)) = false := by decide)
    (he : starEach [e, .Name y p2] X.env = (false, eval e X.env) :: starEach [.Name y p2] X.env := by rfl) (he2 : starEach [.Name y p2] X.env = (false, eval (.Name y p2) X.env) :: starEach [] X.env := by rfl) (hpl : (backTo pos (starEach [.Name y p2] X.env)).any (·.1) = false := by rfl) :
    DE X (.Call (.Name x p) [e, .Name y p2] [] pos) (eIsi T f) := PE.imp (pe_callB call_isi hg hm hv (pa_cons ha (pa_cons hT pa_nil he2) he) hn hdb he hpl) fun σ H Q ⟨O0, ow, ρ, S, d, e, k⟩ => by
  unfold eIsi gIsi at e
  simp only [Option.bind_eq_some_iff, Option.map_eq_some_iff] at e
  obtain ⟨z, ez, m, em, b, eb, rfl⟩ := e
  refine ⟨O0, ow, ρ, S, z, ez, fun v H1 s1 r1 => ⟨v, .ty T, _, _, b, rfl, .ty T, tyX_of r1 hide_le em, kit_ty eb, k _ H1 s1 (.bl b)⟩⟩
/-- isinstance(o, C) of an instance of C itself -/
def eIsC (ks : List Nat) (C : Nat) (f : DE1) : DE1 := fun ρ => match f ρ with
  | some (.ins k _) => if ks.contains k then some (.bl (k == C)) else none
  | _ => none
structure IsaOk (K : PySem.W.Frag) (ks : List Nat) (C : Nat) : Prop where
  cls : ∀ k, ks.contains k = true → Cls K (CT.ct k) ∧ PySem.W.findIn K (.ref (CT.ct k)) "__class__" = some (some (.builtin "object.__class__")) ∧ PySem.W.mroIn K (CT.ct k) (.type "object") = some true ∧ PySem.W.kitOne K (.ref (CT.ct k)) (.ref (CT.ct C)) = some (k == C)
  g2 : PySem.W.specialIn K (.builtin "object.__class__") "__get__" = some (some (.builtin "getset_descriptor.__get__"))
  g3 : PySem.W.takesIn K (.builtin "object.__class__") = some true
theorem de_isC {ks : List Nat} {C : Nat} {x y : Str} {p2 : Pos} (c : IsaOk X.K ks C)
    (hg : Gl X x) (hm : X.mg x = none) (hv : bootBuiltins x = some (.builtin "isinstance")) (ha : DE X e f) (hT : PE X (.Name y p2) (tC (.ref (CT.ct C)))) (hn : x ≠ "__name__" := by decide) (hdb : (x == ("__debug__" : Str)) = false := by decide)
    (he : starEach [e, .Name y p2] X.env = (false, eval e X.env) :: starEach [.Name y p2] X.env := by rfl) (he2 : starEach [.Name y p2] X.env = (false, eval (.Name y p2) X.env) :: starEach [] X.env := by rfl) (hpl : (backTo pos (starEach [.Name y p2] X.env)).any (·.1) = false := by rfl) :
    DE X (.Call (.Name x p) [e, .Name y p2] [] pos) (eIsC ks C f) := PE.imp (pe_callB call_isi hg hm hv (pa_cons ha (pa_cons hT pa_nil he2) he) hn hdb he hpl) fun σ H Q ⟨O0, ow, ρ, S, d, e, k⟩ => by
  unfold eIsC at e
  split at e
  · rename_i C' fs ef
    split at e
    · rename_i hC
      obtain ⟨cl, h1, h4, h5⟩ := c.cls C' hC
      cases e
      refine ⟨O0, ow, ρ, S, _, ef, fun v H1 s1 r1 => ?_⟩
      cases r1 with
      | ins hI rf => exact ⟨_, .ref (CT.ct C), _, _, (C' == C), rfl, .own (CT.ct C), .base (.ins (hide_le _ _ hI) cl h1 c.g2 c.g3 h4), h5, k _ H1 s1 (.bl _)⟩
    · cases e
  · cases e
end
end DL

set_option maxHeartbeats 4000000
namespace DL
open PySem PySem.Spec PyProof.Rows L2
variable [CT]

/-! ### instances made -/
def putD (x : Str) (d : D) : List (Str × D) → List (Str × D)
  | [] => [(x, d)]
  | (g, y) :: r => if g = x then (g, d) :: r else (g, y) :: putD x d r
theorem RepF.put {K : PySem.W.Frag} {H : Hp} {x : Str} {v : V} {d : D} (r : Rep K H v d) : ∀ {fs : List (Str × V)} {ds : List (Str × D)}, RepF K H fs ds → RepF K H (putF x v fs) (putD x d ds)
  | _, _, .nil => .cons r .nil
  | _, _, .cons (x := g) q t => by
    unfold putF putD
    by_cases h : g = x
    · rw [if_pos h, if_pos h]; exact .cons r t
    · rw [if_neg h, if_neg h]; exact .cons q (RepF.put r t)
theorem RepF.length {K : PySem.W.Frag} {H : Hp} : ∀ {fs : List (Str × V)} {ds : List (Str × D)}, RepF K H fs ds → fs.length = ds.length
  | _, _, .nil => rfl
  | _, _, .cons _ r => by simp [RepF.length r]
section
variable {X : Cx} {e a b : Expr} {es : List Expr} {f fa fb : DE1} {fs : DEnv → Option (List D)} {pos p : Pos}
/-! the body of an __init__: what it leaves in the object's fields -/
abbrev DI1 := DEnv → List (Str × D) → Option (List (Str × D))
def tIN (K : PySem.W.Frag) (C : Nat) (G : DI1) : TS := fun N σ H => ∃ (x dx : Addr) (O1 : Addr → Prop) (ρ : DEnv) (vs : List (Str × V)) (fs : List (Str × D)), O1 x ∧ Sl K O1 H σ ρ (fun _ => none) ∧ σ[0]? = some (some (.ref x)) ∧ H x = some (.ins (CT.ct C) dx vs) ∧ RepF K (hide O1 H) vs fs ∧
  ∃ gs, G ρ fs = some gs ∧ ∀ σ' H' fv, (∀ b o, b ≠ x → H b = some o → H' b = some o) → H' x = some (.ins (CT.ct C) dx fv) → RepF K (hide O1 H') fv gs → N.nx σ' H'
def DIN (X : Cx) (C : Nat) (st : List Stmt) (G : DI1) : Prop := PSs X st (tIN X.K C G)
theorem hid_none {O1 : Addr → Prop} : hid O1 (fun _ => none) = O1 := funext fun a => propext ⟨fun z => z.elim (fun z => z) fun ⟨_, z⟩ => (by cases z), fun z => .inl z⟩
theorem Sl.upHid {K : PySem.W.Frag} {O1 : Addr → Prop} {H : Hp} {σ : L2.St} {ρ : DEnv} {x : Addr} {o : HO} (S : Sl K O1 H σ ρ fun _ => none) (hx : O1 x) : Sl K O1 (upd H x o) σ ρ fun _ => none := by
  refine ⟨S.len, S.inj, S.out, fun a z => ?_, fun i s h => ?_⟩
  · by_cases e : a = x
    · subst e; exact ⟨o, upd_same⟩
    · obtain ⟨u, q⟩ := S.trk a z
      exact ⟨u, by rw [upd_ne e]; exact q⟩
  · obtain ⟨u, h1, h2⟩ := S.sl i s h
    refine ⟨u, h1, ?_⟩
    match s, h2 with
    | none, _ => trivial
    | some (false, d), ⟨v, e1, r⟩ => exact ⟨v, e1, r.same (hide_upd (.inl hx))⟩
    | some (true, d), ⟨a, e1, _⟩ => cases e1
theorem din_nil {C : Nat} : DIN X C [] (fun _ fs => some fs) := PSs.imp pss_nil fun N σ H ⟨x, dx, O1, ρ, vs, fs, ox, S, s0, hx, rf, gs, e, k⟩ => by
  cases e; exact k σ H vs (fun b o _ q => q) hx rf
def iFld (x : Str) (f : DE1) (G : DI1) : DI1 := fun ρ fs => if fs.length < 900 then (f ρ).bind fun d => G ρ (putD x d fs) else none
theorem din_fld {C : Nat} {y f : Str} {p1 pos' : Pos} {G : DI1} {rest : List Stmt} (c : Cls X.K (CT.ct C)) (n : NoAttr X.K (CT.ct C) f) (hv : PE X (.Name y p1) (tVar 0)) (he : DE X e fa) (hr : DIN X C rest G) (hs : swapsWith e (some (.Attribute (.Name y p1) f pos')) pos.line X.env = pure false := by rfl) :
    DIN X C (.Assign [.Attribute (.Name y p1) f pos'] e pos :: rest) (iFld f fa G) := PSs.imp (pss_cons (ps_fld hv he hs) hr) fun N σ H ⟨x, dx, O1, ρ, vs, fs, ox, S, s0, hx, rf, gs, e, k⟩ => by
  unfold iFld at e
  split at e
  · rename_i hl
    simp only [Option.bind_eq_some_iff] at e
    obtain ⟨d, ed, eg⟩ := e
    refine ⟨O1, _, ρ, S, d, ed, fun v H1 s1 r1 => ⟨.ref x, s0, x, CT.ct C, dx, vs, rfl, s1 _ _ hx, c, n, by rw [rf.length]; omega, x, dx, O1, ρ, _, _, ox, (S.same s1).upHid ox, s0, upd_same, RepF.put ?_ ?_, gs, eg, fun σ' H' fv h1 h2 h3 => k σ' H' fv (fun b o nb q => h1 b o nb (by rw [upd_ne nb]; exact s1 _ _ q)) h2 h3⟩⟩
    · rw [hid_none] at r1; exact r1.same (hide_upd ox)
    · exact rf.same (fun b o q => hide_upd ox _ _ (hide_same s1 _ _ q))
  · cases e
def iIf (f : DE1) (G : DI1) : DI1 := fun ρ fs => match f ρ with
  | some (.bl false) => G ρ fs
  | _ => none
theorem din_if {C : Nat} {c : Expr} {A : List Stmt} {G : DI1} {rest : List Stmt} (hc : DT X c fa) (hr : DIN X C rest G) : DIN X C (.If c A [] pos :: rest) (iIf fa G) := PSs.imp (pss_cons (ps_if hc pss_never pss_nil) hr) fun N σ H ⟨x, dx, O1, ρ, vs, fs, ox, S, s0, hx, rf, gs, e, k⟩ => by
  unfold iIf at e
  split at e
  · rename_i ef
    exact ⟨O1, _, ρ, S, false, ef, fun H1 s1 => iteF ⟨x, dx, O1, ρ, vs, fs, ox, S.same s1, s0, s1 _ _ hx, rf.same (hide_same s1), gs, e, fun σ' H' fv h1 h2 h3 => k σ' H' fv (fun b o nb q => h1 b o nb (s1 _ _ q)) h2 h3⟩⟩
  · cases e
end
/-- an __init__: the fields that it gives -/
def spI (K : PySem.W.Frag) (C : Nat) (n : Nat) (F : List D → Option (List (Str × D))) : Sp := fun vs H Q _ => ∃ (x dx : Addr) (us : List V), vs = .ref x :: us ∧ us.length = n ∧ H x = some (.ins (CT.ct C) dx []) ∧ ∃ (O0 : Addr → Prop) (ds : List D), ¬ O0 x ∧ (∀ a, O0 a → ∃ o, H a = some o) ∧
  Reps K (hide (fun b => O0 b ∨ b = x) H) us ds ∧ ∃ gs, F ds = some gs ∧ ∀ H' fv, (∀ b o, b ≠ x → H b = some o → H' b = some o) → H' x = some (.ins (CT.ct C) dx fv) → RepF K (hide (fun b => O0 b ∨ b = x) H') fv gs → Q .non H'
def mkI (m : Nat) (G : DI1) : List D → Option (List (Str × D)) := fun ds => G (none :: startD m ds) []
theorem Sl.cons_no {K : PySem.W.Frag} {O1 : Addr → Prop} {H : Hp} {σ : L2.St} {ρ : DEnv} {o : Option V} (S : Sl K O1 H σ ρ fun _ => none) : Sl K O1 H (o :: σ) (none :: ρ) fun _ => none := by
  refine ⟨by simp [S.len], S.inj, S.out, S.trk, fun i s h => ?_⟩
  cases i with
  | zero => cases h; exact ⟨_, rfl, trivial⟩
  | succ i => simpa using S.sl i s (by simpa using h)
section
variable {P : Program} {w : World} {K : PySem.W.Frag} {mg : Str → Option Value} {base : Heap}
theorem init_ok {x qual : Str} {f : Addr} {C : Nat} {fd : FuncData} (st : Stmt) (N ps : List Str) (k m n : Nat) (G : DI1) (F : Fun K x qual st f fd) (S : FnScope N ps (defScope st)) (hp : ps.length = n + 1) (hN : N.length = m + 1)
    (h : ∀ (cdv : Value) (A : Around) (outer : List Env) (s : Shared) (H : Hp) (E : XK), Room k (A.deeper (envOfC qual (defScope st) s.heap.objs.size f cdv)) → DIN (cxOf CX0 P w K mg base N qual (defScope st) f cdv A outer s H E).nox C (defBody st) G) :
    FnOk P w K mg base CX0 (k + 1) f fd ps (spI K C n (mkI m G)) := by
  refine F.ok S (fun vs H Q E h => ?_) (fun cdv A outer s H vs Q E hr h' => ?_)
  · obtain ⟨x, dx, us, rfl, hn, _⟩ := h
    simp [hn, hp]
  · refine ⟨_, h cdv A outer s H E hr, ?_⟩
    obtain ⟨x, dx, us, rfl, hn, hx, O0, ds, nx, t, r, gs, e, q⟩ := h'
    have S0 : Sl K (fun b => O0 b ∨ b = x) H (L2.start (List.replicate m (Str.ofString "")) us) (startD (List.replicate m (Str.ofString "")).length ds) fun _ => none := start_sl (fun a z => by
      rcases z with z | z
      · exact t a z
      · subst z; exact ⟨_, hx⟩) r
    have es : L2.start N (.ref x :: us) = some (.ref x) :: L2.start (List.replicate m (Str.ofString "")) us := by
      unfold L2.start
      simp only [List.map_cons, List.cons_append, List.length_cons, List.length_replicate, hN]
      congr 3
      omega
    rw [es]
    simp only [List.length_replicate] at S0
    exact ⟨x, dx, fun b => O0 b ∨ b = x, _, [], [], .inr rfl, S0.cons_no, rfl, hx, .nil, gs, e, fun σ' H' fv h1 h2 h3 => q H' fv h1 h2 h3⟩
end
section
variable {X : Cx} {e a b : Expr} {es : List Expr} {f fa fb : DE1} {fs : DEnv → Option (List D)} {pos p : Pos}
def eMake (C : Nat) (n : Nat) (F : List D → Option (List (Str × D))) (fs : DEnv → Option (List D)) : DE1 := fun ρ => (fs ρ).bind fun ds => if ds.length = n then (F ds).map (.ins C) else none
theorem de_make {C : Nat} {fi : Addr} {fd : FuncData} {ps : List Str} {k n : Nat} {x : Str} {F : List D → Option (List (Str × D))} (M : Mk X.K (CT.ct C) fi) (Fk : FnOk X.prog X.w X.K X.mg X.base CX0 k fi fd ps (spI X.K C n F)) (hr : Room (k + 1) X.A) (hg : Gl X x) (hm : X.mg x = some (.ref (CT.ct C))) (hb : Binds X.K fd ps [])
    (ha : DA X (e :: es) fs) (hdb : (x == ("__debug__" : Str)) = false := by decide) (he : starEach (e :: es) X.env = (false, eval e X.env) :: starEach es X.env := by rfl) (hpl : (backTo pos (starEach es X.env)).any (·.1) = false := by rfl) :
    DE X (.Call (.Name x p) (e :: es) [] pos) (eMake C n F fs) := PE.imp (pe_make M Fk hr hg hm hb .nil pass0 ha hdb he hpl) fun σ H Q ⟨O0, ow, ρ, S, d, e, k⟩ => by
  unfold eMake at e
  simp only [Option.bind_eq_some_iff] at e
  obtain ⟨ds, e1, e⟩ := e
  split at e
  · rename_i hl
    rw [Option.map_eq_some_iff] at e
    obtain ⟨gs, eg, rfl⟩ := e
    refine ⟨O0, ow, ρ, S, ds, e1, fun vs H1 s1 r1 x dx nx ndx ne => ?_⟩
    have st : Same H1 (upd (upd H1 dx (.own x)) x (.ins (CT.ct C) dx [])) := (same_upd ndx).trans (same_upd (by rw [upd_ne (Ne.symm ne)]; exact nx))
    have S1 := S.same s1
    refine ⟨x, dx, vs, by rw [List.append_nil], by rw [r1.length]; exact hl, upd_same, hid O0 ow, ds, new_rep (K := X.K) S1.trk nx, fun a z => ?_, r1.same fun b o q => ?_, gs, eg, fun H2 fv h1 h2 h3 => ⟨rfl, ?_⟩⟩
    · obtain ⟨o, q⟩ := S1.trk a z
      exact ⟨o, st _ _ q⟩
    · rw [hide_some] at q ⊢
      exact ⟨fun z => z.elim q.1 fun z => (by subst z; rw [nx] at q; cases q.2), st _ _ q.2⟩
    · have s2 : Same H1 H2 := fun b o q => h1 b o (ne_of_none q nx) (st _ _ q)
      exact k _ H2 (s1.trans s2) (.ins (hide_some.mpr ⟨new_rep (K := X.K) S1.trk nx, h2⟩) (h3.same (hide_sub fun b z => .inl z)))
  · cases e
/-- len(o) by a class's own __len__ -/
theorem de_lenO {C : Nat} {g : Addr} {fd : FuncData} {ps : List Str} {k : Nat} {x : Str} {F : List D → Option D} (c : Cls X.K (CT.ct C)) (hm' : Meth X.K (CT.ct C) "__len__" g) (Fk : FnOk X.prog X.w X.K X.mg X.base CX0 k g fd ps (spD X.K 1 F)) (hr : Room (k + 1) X.A) (hb : Binds X.K fd ps [])
    (hg : Gl X x) (hm : X.mg x = none) (hv : bootBuiltins x = some (.builtin "len")) (ha : DAB X [e] fs) (hn : x ≠ "__name__" := by decide) (hdb : (x == ("__debug__" : Str)) = false := by decide)
    (he : starEach [e] X.env = (false, eval e X.env) :: starEach [] X.env := by rfl) (hpl : (backTo pos (starEach [] X.env)).any (·.1) = false := by rfl) :
    DE X (.Call (.Name x p) [e] [] pos) (eCB (fun x => (gLen x).or (gLenO C F x)) fs) := de_callB (cd_len.or (cd_lenO c hm' Fk hr hb)) hg hm hv ha hn hdb he hpl
end
end DL

set_option maxHeartbeats 4000000
namespace DL
open PySem PySem.Spec PyProof.Rows L2
variable [CT]
def SqX (b : Bool) (K : PySem.W.Frag) (H : Hp) (a : Addr) (xs : List V) : Prop := match b with
  | true => SqT K H a xs
  | false => SqL K H a xs
def SrcM (b : Bool) (h : Heap) (l : Addr) (xs : Array Value) : Prop := match b with
  | true => h.IsTuple l xs
  | false => h.IsList l xs
section
variable {X : Cx} {pins : List (Addr × Obj)} {σ : L2.St} {H : Hp} {s : Shared} {a : Addr} {xs ys : List V}
theorem SqX.src {b : Bool} (I : Inv X pins σ H s) (h : SqX b X.K H a xs) : ∃ its : List Value, Vals xs its ∧ a < s.heap.objs.size ∧ SrcM b s.heap a its.toArray := by
  cases b with
  | true =>
    obtain ⟨its, r, p, _⟩ := I.tuple h
    exact ⟨its, r, p.lt, p⟩
  | false =>
    obtain ⟨its, r, p, _⟩ := I.list h
    exact ⟨its, r, p.lt, p.isList⟩
theorem SqX.inj {b : Bool} (I : Inv X pins σ H s) (h : SqX b X.K H a xs) (h' : SqX b X.K H a ys) : xs = ys := by
  cases b with
  | true => exact I.tuple_inj h h'
  | false => exact I.list_inj h h'
theorem srcAt {b : Bool} {h : Heap} {it l : Addr} {k : Nat} {its : Array Value} (i : DZ.ItAt b h it l k) (p : SrcM b h l its) : DZ.SrcAt b h it l k its := by
  cases b with
  | true => exact ⟨i, p⟩
  | false => exact ⟨i, p⟩
end
def ItzX (K : PySem.W.Frag) (b1 b2 : Bool) (a b : Addr) : It :=
  ⟨fun i H => ∃ (xs ys : List V) (x y : V), SqX b1 K H a xs ∧ SqX b2 K H b ys ∧ xs[i]? = some x ∧ ys[i]? = some y,
   fun i H v H' => ∃ T x y, v = .ref T ∧ H T = none ∧ H' = upd H T (.tup [x, y]) ∧ (∀ xs, SqX b1 K H a xs → xs[i]? = some x) ∧ ∀ ys, SqX b2 K H b ys → ys[i]? = some y,
   fun i H => ∃ xs ys : List V, SqX b1 K H a xs ∧ SqX b2 K H b ys ∧ (xs.length ≤ i ∨ ys.length ≤ i)⟩
theorem turn_zipX {b1 b2 : Bool} {P : Program} {w : World} {K : PySem.W.Frag} {elts : List Expr} {kk : Nat} {tpos : Pos} {a b z TI TO i1 i2 : Addr} (D : ZipApart z TI TO i1 i2 a b) :
    Turn P w K (.Tuple elts kk tpos) (ItzX K b1 b2 a b) [z, TI, TO, i1, i2] z (fun i h => IsZip h z TI TO .none ∧ IsPair h TI (.ref i1) (.ref i2) ∧ (∃ x y, IsPair h TO x y) ∧ DZ.ItAt b1 h i1 a i ∧ DZ.ItAt b2 h i2 b i) where
  mem := by simp
  obj := fun i h st c hc => by
    obtain ⟨z1, t1, ⟨x, y, t2⟩, q1, q2⟩ := st
    obtain ⟨o1, v1, e1, d1⟩ := q1.obj
    obtain ⟨o2, v2, e2, d2⟩ := q2.obj
    simp only [List.mem_cons, List.not_mem_nil, or_false] at hc
    rcases hc with rfl | rfl | rfl | rfl | rfl
    · exact ⟨_, z1, fun v q => by cases q⟩
    · exact ⟨_, t1, fun v q => by cases q⟩
    · exact ⟨_, t2, fun v q => by cases q⟩
    · exact ⟨o1, e1, fun v q => by rw [d1] at q; cases q⟩
    · exact ⟨o2, e2, fun v q => by rw [d2] at q; cases q⟩
  keep := fun i h h' ⟨z1, t1, ⟨x, y, t2⟩, q1, q2⟩ k => ⟨k z (by simp) _ z1, k TI (by simp) _ t1, ⟨x, y, k TO (by simp) _ t2⟩, q1.on fun o q => k i1 (by simp) o q, q2.on fun o q => k i2 (by simp) o q⟩
  item := by
    intro X hP hw hK hc i pins s σ H E I hf ⟨z1, t1, ⟨x0, y0, t2⟩, q1, q2⟩ ⟨xs, ys, x, y, hqx, hqy, hx, hy⟩
    subst hP hw hK
    obtain ⟨us, r1, _, p1⟩ := hqx.src I
    obtain ⟨us2, r2, _, p2⟩ := hqy.src I
    obtain ⟨u, hu, ru⟩ := r1.get hx
    obtain ⟨u2, hu2, ru2⟩ := r2.get hy
    have zl : z < s.heap.objs.size := Heap.lt_size z1
    obtain ⟨o1, v1, g1, _⟩ := q1.obj
    obtain ⟨o2, v2, g2, _⟩ := q2.obj
    refine DZ.py_item D z1 t1 t2 (srcAt q1 p1) (srcAt q2 p2) (x := u) (y := u2) (by simpa using hu) (by simpa using hu2) fun h' z' t' n1 n2 hT hs hk => ⟨_, rfl, wpAny_letOwnedTupleGo_zip (s := { s with heap := h' }) z' fun h'' z'' sb => ?_⟩
    have T2 : h''.get? s.heap.objs.size = some { cls := .type "tuple", data := .seq #[u, u2] } := (sb.2 _ (Nat.ne_of_gt zl)).trans hT
    have five : ∀ c, c ∉ [z, TI, TO, i1, i2] → c ≠ z ∧ c ≠ TI ∧ c ≠ TO ∧ c ≠ i1 ∧ c ≠ i2 := fun c h => by simpa [not_or] using h
    have J : Inv X pins σ (upd H s.heap.objs.size (.tup [x, y])) { s with heap := h'' } := I.turnedNew (t' := s.toks) (ch := [z, TI, TO, i1, i2]) (fun c o hb q => by
      obtain ⟨c1, c2, c3, c4, c5⟩ := five c hb
      exact (sb.2 c c1).trans (hk c o c1 c3 c4 c5 q)) hf (Nat.le_refl _) ⟨(by show 2 ≤ sizeLine; decide), [u, u2], .cons ru (.cons ru2 .nil), ⟨_, T2, rfl, _, rfl⟩⟩
    refine ⟨.ref s.heap.objs.size, _, J, rfl, ⟨_, x, y, rfl, I.hok.fresh (Nat.le_refl _), rfl, fun l hl => (by rw [SqX.inj I hl hqx]; exact hx), fun l hl => (by rw [SqX.inj I hl hqy]; exact hy)⟩,
      ⟨z'', (sb.2 _ D.TIz).trans (hk _ _ D.TIz D.TITO D.TIi1 D.TIi2 t1), ⟨u, u2, (sb.2 _ D.TOz).trans t'⟩, n1.on fun o q => (sb.2 _ D.i1z).trans q, n2.on fun o q => (sb.2 _ D.i2z).trans q⟩, fun c hcm => ?_⟩
    have lt : c < s.heap.objs.size := by
      have hcm' := hcm
      simp only [List.mem_cons, List.not_mem_nil, or_false] at hcm'
      rcases hcm' with rfl | rfl | rfl | rfl | rfl
      · exact zl
      · exact Heap.lt_size t1
      · exact Heap.lt_size t2
      · exact Heap.lt_size g1
      · exact Heap.lt_size g2
    rw [upd_ne (Nat.ne_of_lt lt)]
    exact (hf c hcm).1
  done := by
    intro X hP hw hK hc i pins s σ H E I hf ⟨z1, t1, ⟨x0, y0, t2⟩, q1, q2⟩ ⟨xs, ys, hqx, hqy, hend⟩
    subst hP hw hK
    obtain ⟨us, r1, _, p1⟩ := hqx.src I
    obtain ⟨us2, r2, _, p2⟩ := hqy.src I
    have l1 := r1.length
    have l2 := r2.length
    refine DZ.py_end (I.ok.hd hc) D z1 t1 t2 (srcAt q1 p1) (srcAt q2 p2) (hend.elim (fun q => .inl (by simp; omega)) fun q => .inr (by simp; omega)) fun h' hk => ⟨rfl, I.turnedL (t' := s.toks) (ch := [z, TI, TO, i1, i2]) (fun c o hb q => ?_) hf⟩
    have : c ≠ z ∧ c ≠ TI ∧ c ≠ TO ∧ c ≠ i1 ∧ c ≠ i2 := by simpa [not_or] using hb
    exact hk c o this.1 this.2.2.1 this.2.2.2.1 this.2.2.2.2 q
  self := fun A i s Q E st h => wpAny_pyIter_zip st.1 h
def iZipX (K : PySem.W.Frag) (ta : TA) : TI := fun σ H R => ta σ H fun vs H1 => ∃ b1 b2 a b xs ys, vs = [.ref a, .ref b] ∧ SqX b1 K H1 a xs ∧ SqX b2 K H1 b ys ∧ R (ItzX K b1 b2 a b) H1
theorem pi_zipX {X : Cx} {e e2 : Expr} {ta : TA} {p pos tpos : Pos} {elts : List Expr} {kk : Nat} (hg : Gl X "zip") (hm : X.mg "zip" = none) (ha : PA X [e, e2] ta)
    (hs : starEach [e, e2] X.env = (false, eval e X.env) :: starEach [e2] X.env := by rfl) (hpl : (backTo pos (starEach [e2] X.env)).any (·.1) = false := by rfl) :
    PI X (.Tuple elts kk tpos) (.Call (.Name "zip" p) [e, e2] [] pos) (iZipX X.K ta) := by
  refine ⟨fun pins s σ H R I h => Call_ (ld_blt I hg hm PyProof.Rows.boot_zip (PyProof.Rows.callWith_type1 (thn (ha.run pos pins s σ H _ I h) fun us s1 ⟨vs, H1, I1, r1, q1⟩ => ?_) hs hpl))⟩
  obtain ⟨b1, b2, a, b, xs, ys, rfl, hqx, hqy, q⟩ := q1
  obtain ⟨u, rr, rfl, ra, rb⟩ := Vals.two r1
  cases ra
  cases rb
  obtain ⟨us, v1, la, p1⟩ := hqx.src I1
  obtain ⟨us2, v2, lb, p2⟩ := hqy.src I1
  have fresh : ∀ c, c ∈ [s1.heap.objs.size + 4, s1.heap.objs.size + 2, s1.heap.objs.size + 3, s1.heap.objs.size, s1.heap.objs.size + 1] → FpOk X pins H1 c := fun c hcm => by
    have hle : s1.heap.objs.size ≤ c := by
      simp only [List.mem_cons, List.not_mem_nil, or_false] at hcm
      omega
    exact I1.fpOk hle (I1.hok.fresh hle)
  have fin : ∀ h' : Heap, IsZip h' (s1.heap.objs.size + 4) (s1.heap.objs.size + 2) (s1.heap.objs.size + 3) .none → IsPair h' (s1.heap.objs.size + 2) (.ref s1.heap.objs.size) (.ref (s1.heap.objs.size + 1)) →
      IsPair h' (s1.heap.objs.size + 3) .none .none → DZ.ItAt b1 h' s1.heap.objs.size a 0 → DZ.ItAt b2 h' (s1.heap.objs.size + 1) b 0 → (∀ c o, s1.heap.get? c = some o → h'.get? c = some o) →
      wpAny (model X.prog X.w) X.A (pyIter (.ref (s1.heap.objs.size + 4))) (PIE X pins σ (.Tuple elts kk tpos) R) X.xe { s1 with heap := h' } := fun h' z1 t1 t2 n1 n2 hk => wpAny_pyIter_zip z1
    ⟨s1.heap.objs.size + 4, [s1.heap.objs.size + 4, s1.heap.objs.size + 2, s1.heap.objs.size + 3, s1.heap.objs.size, s1.heap.objs.size + 1], _, _, H1, rfl, I1.kept (t' := s1.toks) hk, turn_zipX (PySem.W.ktu_apart s1.heap.objs.size a b la lb), ⟨z1, t1, ⟨_, _, t2⟩, n1, n2⟩, fresh, q⟩
  cases b1 with
  | true =>
    cases b2 with
    | true => exact RZ.call_zipT p1 p2 fun h' z1 t1 t2 n1 n2 _ hk => fin h' z1 t1 t2 n1 n2 hk
    | false => exact DZ.call_TL p1 p2 fun h' z1 t1 t2 n1 n2 hk => fin h' z1 t1 t2 n1 n2 hk
  | false =>
    cases b2 with
    | true => exact DZ.call_LT p1 p2 fun h' z1 t1 t2 n1 n2 hk => fin h' z1 t1 t2 n1 n2 hk
    | false => exact call_zip_2 p1 p2 fun h' z1 t1 t2 n1 n2 _ hk => fin h' z1 t1 t2 n1 n2 hk
/-! as data -/
def seqD : D → Option (List D)
  | .lst xs => some xs
  | .tup xs => some xs
  | _ => none
def iZX (f g : DE1) : DEnv → Option (List D) := fun ρ => ((f ρ).bind seqD).bind fun xs => ((g ρ).bind seqD).map fun ys => zipD xs ys
theorem seq_rep {K : PySem.W.Frag} {H : Hp} {v : V} {d : D} {ds : List D} (r : Rep K H v d) (h : seqD d = some ds) : ∃ b a vs, v = .ref a ∧ SqX b K H a vs ∧ Reps K H vs ds := by
  cases r with
  | tup s rs => cases h; exact ⟨true, _, _, rfl, s, rs⟩
  | lst s rs => cases h; exact ⟨false, _, _, rfl, SqL.of s, rs⟩
  | _ => cases h
theorem SqX.same {b : Bool} {K : PySem.W.Frag} {H H' : Hp} {a : Addr} {xs : List V} (e : Same H H') (h : SqX b K H a xs) : SqX b K H' a xs := by
  cases b with
  | true => exact DL.Same.sqT e h
  | false => exact L2.Same.seq e h
section
variable {X : Cx} {tg e e' : Expr} {f f' : DE1} {p pos tpos : Pos}
theorem di_zipX {elts : List Expr} {kk : Nat} (hg : Gl X "zip") (hm : X.mg "zip" = none) (h : DE X e f) (h' : DE X e' f') (hs : starEach [e, e'] X.env = (false, eval e X.env) :: starEach [e'] X.env := by rfl) (hpl : (backTo pos (starEach [e'] X.env)).any (·.1) = false := by rfl) (hs2 : starEach [e'] X.env = (false, eval e' X.env) :: starEach [] X.env := by rfl) :
    DI X (.Tuple elts kk tpos) (.Call (.Name "zip" p) [e, e'] [] pos) (iZX f f') :=
  PI.imp (pi_zipX hg hm (pa_cons h (pa_cons h' pa_nil hs2) hs) hs hpl) fun σ H R ⟨O0, ow, ρ, S, ds, q, k⟩ => by
  unfold iZX at q
  simp only [Option.bind_eq_some_iff, Option.map_eq_some_iff] at q
  obtain ⟨xs, ⟨d1, ef, e1⟩, ys, ⟨d2, ef', e2⟩, rfl⟩ := q
  refine ⟨O0, ow, ρ, S, _, ef, fun v H1 s r => ⟨O0, ow, ρ, S.same s, _, ef', fun v' H2 s2 r' => ?_⟩⟩
  obtain ⟨b1, a, vs, rfl, sq, rs⟩ := seq_rep (r.same (hide_same s2)) e1
  obtain ⟨b2, b, us, rfl, sq', rs'⟩ := seq_rep r' e2
  refine ⟨b1, b2, a, b, vs, us, rfl, SqX.same hide_le sq, SqX.same hide_le sq', k _ H2 (s.trans s2) ⟨fun H3 e2 => ⟨vs, us, SqX.same e2 sq, SqX.same e2 sq', ?_⟩, fun i d H3 e2 hd => ?_, fun i d H3 x H4 e2 hd y => ?_⟩⟩
  · have := rs.length; have := rs'.length
    rw [zipD_length]; omega
  · obtain ⟨p, q, hp, hq, rfl⟩ := zipD_get hd
    obtain ⟨v1, hv1, _⟩ := rs.get hp
    obtain ⟨v2, hv2, _⟩ := rs'.get hq
    exact ⟨vs, us, v1, v2, SqX.same e2 sq, SqX.same e2 sq', hv1, hv2⟩
  · obtain ⟨p, q, hp, hq, rfl⟩ := zipD_get hd
    obtain ⟨v1, hv1, r1⟩ := rs.get hp
    obtain ⟨v2, hv2, r2⟩ := rs'.get hq
    obtain ⟨T, x1, x2, rfl, nT, rfl, f1, f2⟩ := y
    have e1 := f1 _ (SqX.same e2 sq)
    have e3 := f2 _ (SqX.same e2 sq')
    rw [hv1] at e1; cases e1
    rw [hv2] at e3; cases e3
    exact ⟨same_upd nT, fun O' h1 h2 => pair_rep e2 nT h1 h2 r1 r2⟩
end
end DL

set_option maxHeartbeats 4000000
namespace DL
open PySem PySem.Spec PyProof.Rows L2
variable [CT]
def gAddI : D → D → Option D := gI fun i j => some (.int (i + j))
def gSubI : D → D → Option D := gI fun i j => some (.int (i - j))
def gMulI : D → D → Option D := gI mMul
def gDivI : D → D → Option D := gI mDiv
def gModI : D → D → Option D := gI mMod
def gLt : D → D → Option D := gI fun i j => some (.bl (decide (i < j)))
def gLe : D → D → Option D := gI fun i j => some (.bl (decide (i ≤ j)))
def gGt : D → D → Option D := gI fun i j => some (.bl (decide (j < i)))
def gGe : D → D → Option D := gI fun i j => some (.bl (decide (j ≤ i)))
section
variable {X : Cx} {e : Expr} {f : DE1} {pos : Pos}
def gExp (f : DE1) : DS1 := fun ρ => match f ρ with
  | some _ => .nx ρ
  | none => .stuck
theorem ds_expr (he : DE X e f) (hs : swapsWith e none pos.line X.env = pure false := by rfl) : DS X (.Expr e pos) (gExp f) := PS.imp (ps_expr he hs) fun N σ H ⟨H0, O0, ρ, S, p⟩ => by
  obtain ⟨s, ow, S1, h⟩ := id S
  unfold gExp at p
  cases ef : f ρ with
  | none => rw [ef] at p; exact p.elim
  | some d =>
    rw [ef] at p
    exact ⟨O0, ow, ρ, S1, d, ef, fun v H' s' _ => p σ H' (S.same s')⟩
theorem ds_doc {x j pos pos'} : DS X (.Expr (.Constant (.str x) j pos) pos') gNx := PS.imp ps_doc fun N σ H ⟨H0, O0, ρ, S, p⟩ => p σ H S
theorem tDE_F {K : PySem.W.Frag} : ∀ σ H Q, tDE K f σ H Q → tDF K f σ H Q := fun σ H Q ⟨O0, ow, ρ, S, d, e, k⟩ => ⟨O0, ow, ρ, S, d, e, fun a H' s n t => k (.ref a) H' s (t.rep (hide_sub fun b z => .inl z) fun o q => hide_some.mpr ⟨fun z => (let ⟨u, w⟩ := S.trk a z; by rw [n] at w; cases w), q⟩)⟩
theorem ds_setLcE {tg iter elt : Expr} {it : DEnv → Option (List D)} {b : D → DEnv → Option DEnv} {t : DE1} {is : List Nat} (i : Nat) {y : Str} {py spos : Pos} {scope : Scope} (own : List (Str × Nat)) (hc : X.calm = true) (hN : X.N.Nodup) (hy : X.N[i]? = some y) (hyl : X.env.scope.names.lookup y = some .local) {ifs : List Expr}
    (hsw : swapsWith (.ListComp elt [⟨tg, iter, ifs, 0⟩] scope pos) (some (.Name y py)) spos.line X.env = pure true) (hi : DI X tg iter it) (ok : BlkOk X.N X.env.scope scope own)
    (hg : ∀ (s : Shared) (H : Hp) (C : Addr) (cl : List (Str × Addr)) (fp : List Addr), DG (X.blk s H scope (compEnvC scope cl C X.env) fp) tg is b) (ht : ∀ (s : Shared) (H : Hp) (C : Addr) (cl : List (Str × Addr)) (fp : List Addr), DTs (X.blk s H scope (compEnvC scope cl C X.env) fp) ifs t)
    (he : ∀ (s : Shared) (H : Hp) (C : Addr) (cl : List (Str × Addr)) (fp : List Addr), DE (X.blk s H scope (compEnvC scope cl C X.env) fp) elt f) (his : ∀ i ∈ is, i ∈ own.map (·.2) := by decide) (hs : ∀ x, foldedSetIterable iter X.env x = pure x := by intro _; rfl) :
    DS X (.Assign [.Name y py] (.ListComp elt [⟨tg, iter, ifs, 0⟩] scope pos) spos) (gSet i (eLc it (own.map (·.2)) b t f)) := PS.imp (ps_setLc (g := tDG X.K is b) (tt := tDT X.K t) (te := tDE X.K f) hc hN hy hyl hsw hi ok hg ht he hs) fun N σ H h => by
  have := set_post (K := X.K) (i := i) (f := eLc it (own.map (·.2)) b t f) N σ H h
  exact tLc_D his σ H _ (tDE_F σ H _ this)
end
theorem def_ok' {P : Program} {w : World} {K : PySem.W.Frag} {mg : Str → Option Value} {base : Heap} {x qual : Str} {f : Addr} {fd : FuncData} (st : Stmt) (N ps : List Str) (k m n : Nat) (g : DS1) (F : Fun K x qual st f fd) (S : FnScope N ps (defScope st)) (hm : N.length = m) (hn : ps.length = n)
    (h : ∀ (cdv : Value) (A : Around) (outer : List Env) (s : Shared) (H : Hp) (E : XK), Room k (A.deeper (envOfC qual (defScope st) s.heap.objs.size f cdv)) → DSs (cxOf CX0 P w K mg base N qual (defScope st) f cdv A outer s H E).nox (defBody st) g) :
    FnOk P w K mg base CX0 (k + 1) f fd ps (spD K n (mkF m g)) := by
  subst hm hn
  exact def_ok F S h
end DL

set_option maxHeartbeats 4000000
namespace DL
open PySem PySem.Spec PyProof.Rows L2
variable [CT]
section
variable {X : Cx} {tg e e' : Expr} {f f' : DE1} {p pos tpos : Pos}
/-! enumerate of a list -/
def enD : Nat → List D → List D
  | _, [] => []
  | k, x :: xs => .tup [.int k, x] :: enD (k + 1) xs
theorem enD_length : ∀ (k : Nat) (xs : List D), (enD k xs).length = xs.length
  | _, [] => rfl
  | k, x :: xs => congrArg (· + 1) (enD_length (k + 1) xs)
theorem enD_get : ∀ {k : Nat} {xs : List D} {i : Nat} {d : D}, (enD k xs)[i]? = some d → ∃ x, xs[i]? = some x ∧ d = .tup [.int (k + i : Nat), x]
  | k, [], i, d, h => by simp [enD] at h
  | k, x :: xs, 0, d, h => by simp [enD] at h; exact ⟨x, rfl, h.symm⟩
  | k, x :: xs, i + 1, d, h => by
    have h' : (enD (k + 1) xs)[i]? = some d := h
    obtain ⟨y, hy, rfl⟩ := enD_get h'
    exact ⟨y, hy, by rw [show k + 1 + i = k + (i + 1) by omega]⟩
def iEn (f : DE1) : DEnv → Option (List D) := fun ρ => match f ρ with
  | some (.lst xs) => some (enD 0 xs)
  | _ => none
theorem di_enum {elts : List Expr} {kk : Nat} (hg : Gl X "enumerate") (hm : X.mg "enumerate" = none) (h : DE X e f) (hs : starEach [e] X.env = [(false, eval e X.env)] := by rfl) :
    DI X (.Tuple elts kk tpos) (.Call (.Name "enumerate" p) [e] [] pos) (iEn f) :=
  PI.imp (pi_enum hg hm (pa_cons h pa_nil (hs := hs)) hs) fun σ H R ⟨O0, ow, ρ, S, ds, q, k⟩ => by
  unfold iEn at q
  split at q
  · rename_i xs ef
    cases q
    refine ⟨O0, ow, ρ, S, _, ef, fun v H1 s r => ?_⟩
    cases r with
    | lst sq rs =>
      rename_i a vs
      have ln := rs.length
      refine ⟨a, vs, rfl, SqL.of (hide_le _ _ sq), k _ H1 s ⟨fun H2 e2 => ⟨vs, SqL.of (e2 _ _ sq), by rw [enD_length]; omega⟩, fun i d H2 e2 hd => ?_, fun i d H2 x H3 e2 hd y => ?_⟩⟩
      · obtain ⟨z, hz, _⟩ := enD_get hd
        obtain ⟨v, hv, _⟩ := rs.get hz
        exact ⟨vs, v, SqL.of (e2 _ _ sq), hv⟩
      · obtain ⟨z, hz, rfl⟩ := enD_get hd
        obtain ⟨v, hv, r⟩ := rs.get hz
        obtain ⟨T, x1, rfl, nT, rfl, f1⟩ := y
        have e1 := f1 _ (SqL.of (e2 _ _ sq))
        rw [hv] at e1; cases e1
        refine ⟨same_upd nT, fun O' h1 h2 => pair_rep e2 nT h1 h2 ?_ r⟩
        rw [Nat.zero_add]; exact .int _
  · cases q
end
/-! ### keyword-only parameters -/
section
variable {P : Program} {w : World} {K : PySem.W.Frag} {mg : Str → Option Value} {base : Heap}
theorem defK_ok {x qual : Str} {kws : List (Str × V)} {f : Addr} {fd : FuncData} (st : Stmt) (N ps : List Str) (k m n : Nat) (g : DS1) (F : FunD K x qual (defArgs st) (defBody st) (defScope st) [] kws f fd) (S : FnScope N ps (defScope st)) (hm : N.length = m) (hn : ps.length = n)
    (h : ∀ (cdv : Value) (A : Around) (outer : List Env) (s : Shared) (H : Hp) (E : XK), Room k (A.deeper (envOfC qual (defScope st) s.heap.objs.size f cdv)) → DSs (cxOf CX0 P w K mg base N qual (defScope st) f cdv A outer s H E).nox (defBody st) g) :
    FnOk P w K mg base CX0 (k + 1) f fd ps (spD K n (mkF m g)) := by
  subst hm; subst hn
  refine F.ok S (fun vs H Q E h => h.1) (fun cdv A outer s H vs Q E hr h' => ?_)
  refine ⟨_, PSs.nox (h cdv A outer s H E hr), ?_⟩
  obtain ⟨hn, O0, ds, t, r, d, e, q⟩ := h'
  refine ⟨H, O0, _, ⟨.refl _, _, start_sl t r, fun i a z => (by cases z)⟩, ?_⟩
  unfold mkF at e
  cases eg : g (startD N.length ds) with
  | rt d' => rw [eg] at e; cases e; exact q
  | nx ρ => rw [eg] at e; cases e; exact fun σ H' S' => q .non H' S'.1 .non
  | bk ρ => rw [eg] at e; cases e
  | ct ρ => rw [eg] at e; cases e
  | stuck => rw [eg] at e; cases e
theorem FunD.kbn {x qual : Str} {params : Arguments} {body : List Stmt} {scope : PySem.Scope} {kws : List (Str × V)} {f : Addr} {fd : FuncData} {ps : List Str} {n : Nat} {ks : List Str} (F : FunD K x qual params body scope [] kws f fd)
    (h : ∀ (kV doc pm : Value) (an : Option Addr) (cdv ct : Value) (us ws : List Value), us.length = n → ws.length = ks.length → bindArgs (PySem.W.fnOf x qual params body scope .none kV doc pm an cdv ct) ⟨us, ks.zip ws⟩ = pure (ps.zip (us ++ ws))) :
    KBn K fd ps n ks (fun us ws => us ++ ws) (fun vs zs => vs ++ zs) := by
  obtain ⟨oc, od, dV, kV, doc, pm, an, cdv, ct, osl, rfl, _, _, hd, _⟩ := F.ex
  rcases hd with ⟨_, rfl⟩ | ⟨z, _⟩
  · refine ⟨fun s us ws _ hu hw M A E Q q => ?_, fun a b => ?_⟩
    · rw [h kV doc pm an cdv ct us ws hu hw]
      exact wpAny_pure q
    · exact Vals.append a b
  · exact absurd rfl z
end
section
variable {X : Cx} {e a b : Expr} {es : List Expr} {f fa fb : DE1} {fs gs : DEnv → Option (List D)} {pos p kpos : Pos} {kws : List Keyword} {nm : Option Str}
def DK (X : Cx) (kws : List Keyword) (f : DEnv → Option (List D)) : Prop := PK X kws (tDA X.K f)
theorem PK.imp {t t' : TA} (h : PK X kws t) (k : ∀ σ H Q, t' σ H Q → t σ H Q) : PK X kws t' := ⟨fun pos pins s σ H Q I q => h.run pos pins s σ H Q I (k _ _ _ q)⟩
theorem dk_nil : DK X [] aNil := PK.imp pk_nil fun σ H Q ⟨O0, ow, ρ, S, d, e, k⟩ => by cases e; exact k _ _ (.refl _) .nil
theorem dk_cons (h : DE X e f) (hr : DK X kws fs) : DK X (⟨nm, e, kpos⟩ :: kws) (aCons f fs) := PK.imp (pk_cons h hr) fun σ H Q ⟨O0, ow, ρ, S, d, e, k⟩ => by
  obtain ⟨x, xs, e1, e2, rfl⟩ := aCons_some e
  exact ⟨O0, ow, ρ, S, x, e1, fun v H1 s1 r1 => ⟨O0, ow, ρ, S.same s1, xs, e2, fun vs H2 s2 r2 => k _ H2 (s1.trans s2) (.cons (r1.same (hide_same s2)) r2)⟩⟩
def eCallK (n m : Nat) (F : List D → Option D) (fs gs : DEnv → Option (List D)) : DE1 := fun ρ => (fs ρ).bind fun ds => (gs ρ).bind fun es => if ds.length = n ∧ es.length = m then F (ds ++ es) else none
theorem de_callK {fa : Addr} {fd : FuncData} {ps ks : List Str} {k n m N : Nat} {x : Str} {F : List D → Option D} (Fk : FnOk X.prog X.w X.K X.mg X.base CX0 k fa fd ps (spD X.K N F)) (hr : Room k X.A) (hg : Gl X x) (hm : X.mg x = some (.ref fa)) (hk : PySem.W.keepIn X.K (.ref fa) = true) (hb : KBn X.K fd ps n ks (fun us ws => us ++ ws) (fun vs zs => vs ++ zs))
    (ha : DA X (e :: es) fs) (hkw : DK X kws gs) (hm1 : ks.length = m) (hN : n + m = N)
    (h1 : ((backToKw pos (keywordEach kws X.env)).all fun x => x.1.isSome) = true := by rfl)
    (h2 : (backToKw pos (keywordEach kws X.env)).filterMap (fun x => x.1) = ks := by rfl)
    (hdb : (x == ("__debug__" : Str)) = false := by decide) (he : starEach (e :: es) X.env = (false, eval e X.env) :: starEach es X.env := by rfl)
    (hpl : (((backTo pos (starEach (e :: es) X.env)).any (·.1)) || (backToKw pos (keywordEach kws X.env)).any fun x => x.1.isNone) = false := by rfl) :
    DE X (.Call (.Name x p) (e :: es) kws pos) (eCallK n m F fs gs) := PE.imp (pe_callN Fk hr hg hm hk hb pass0 ha hkw h1 h2 hdb he hpl) fun σ H Q ⟨O0, ow, ρ, S, d, e, q⟩ => by
  unfold eCallK at e
  simp only [Option.bind_eq_some_iff] at e
  obtain ⟨ds, e1, es', e2, e⟩ := e
  split at e
  · rename_i hl
    subst hm1; subst hN
    refine ⟨O0, ow, ρ, S, ds, e1, fun vs H1 s1 r1 => ⟨O0, ow, ρ, S.same s1, es', e2, fun zs H2 s2 r2 => ⟨by rw [r1.length]; exact hl.1, by rw [r2.length]; exact hl.2, ?_, hid O0 ow, _, (S.same (s1.trans s2)).trk, (r1.same (hide_same s2)).append r2, d, e, fun v H3 s3 r => q v H3 ((s1.trans s2).trans s3) r⟩⟩⟩
    rw [List.length_append, r1.length, r2.length, hl.1, hl.2]
  · cases e
/-- a call that leaves the keyword-only parameters at what they are -/
def eCallD (n : Nat) (F : List D → Option D) (dd : List D) (fs : DEnv → Option (List D)) : DE1 := fun ρ => (fs ρ).bind fun ds => if ds.length = n then F (ds ++ dd) else none
theorem de_callD {fa : Addr} {fd : FuncData} {ps : List Str} {k n m N : Nat} {x : Str} {F : List D → Option D} {dvs : List V} {dd : List D} (Fk : FnOk X.prog X.w X.K X.mg X.base CX0 k fa fd ps (spD X.K N F)) (hr : Room k X.A) (hg : Gl X x) (hm : X.mg x = some (.ref fa)) (hk : PySem.W.keepIn X.K (.ref fa) = true) (hb : ∃ ds, Vals dvs ds ∧ Binds X.K fd ps ds)
    (ha : DA X (e :: es) fs) (hm1 : dd.length = m) (hN : n + m = N) (hd : ∀ h, Reps X.K h dvs dd)
    (hdb : (x == ("__debug__" : Str)) = false := by decide) (he : starEach (e :: es) X.env = (false, eval e X.env) :: starEach es X.env := by rfl) (hpl : (backTo pos (starEach es X.env)).any (·.1) = false := by rfl) :
    DE X (.Call (.Name x p) (e :: es) [] pos) (eCallD n F dd fs) := by
  obtain ⟨dvals, hv, hb⟩ := hb
  refine PE.imp (pe_call Fk hr hg hm hk hb hv pass0 ha hdb he hpl) fun σ H Q ⟨O0, ow, ρ, S, d, e, q⟩ => ?_
  unfold eCallD at e
  simp only [Option.bind_eq_some_iff] at e
  obtain ⟨ds, e1, e⟩ := e
  split at e
  · rename_i hl
    subst hm1; subst hN
    refine ⟨O0, ow, ρ, S, ds, e1, fun vs H1 s1 r1 => ⟨?_, hid O0 ow, _, (S.same s1).trk, r1.append (hd _), d, e, fun v H3 s3 r => q v H3 (s1.trans s3) r⟩⟩
    rw [List.length_append, r1.length, (hd (fun _ => none)).length, hl]
  · cases e
end
end DL

set_option maxHeartbeats 4000000
namespace DL
open PySem PySem.Spec PyProof.Rows L2
variable [CT]
/-! ### dicts -/
section
variable {X : Cx} {pins : List (Addr × Obj)} {σ : L2.St} {H Hh : Hp} {s : Shared}
mutual
theorem rep_key (I : L2.Inv X pins σ H s) (e : Same Hh H) : ∀ {v : V} {d : D} {k : NestedKey} {u : Value}, Rep X.K Hh v d → keyD d = some k → RelV v u → NestedIs s.heap k u ∧ DK.plain k = true
  | _, _, _, _, .non, hk, r => by
    simp [keyD] at hk; subst hk
    cases (show _ = Value.none from r)
    exact ⟨.none, by simp [DK.plain]⟩
  | _, _, _, _, .int i, hk, r => by
    simp [keyD] at hk; subst hk
    obtain ⟨t, rfl⟩ := r
    exact ⟨.int i t, by simp [DK.plain]⟩
  | _, _, _, _, .bl b, hk, r => by simp [keyD] at hk
  | _, _, _, _, .str b, hk, r => by simp [keyD] at hk
  | _, _, _, _, .lst _ _, hk, r => by simp [keyD] at hk
  | _, _, _, _, .scr _, hk, r => by simp [keyD] at hk
  | _, _, _, _, .ins _ _, hk, r => by simp [keyD] at hk
  | _, _, _, _, .dic _ _ _, hk, r => by simp [keyD] at hk
  | _, _, _, _, .tup sq rs, hk, r => by
    rw [keyD] at hk
    obtain ⟨ks, hks, rfl⟩ := Option.map_eq_some_iff.mp hk
    cases DK.ref_of r
    obtain ⟨its, rv, ⟨o, h1, h2, n, h3⟩, _⟩ := I.tuple (Same.sqT e sq)
    obtain ⟨q1, q2⟩ := reps_key I e rs hks rv
    exact ⟨.tup h1 h2 h3 (by simpa using q1), by simpa [DK.plain] using q2⟩
theorem reps_key (I : L2.Inv X pins σ H s) (e : Same Hh H) : ∀ {vs : List V} {ds : List D} {ks : List NestedKey} {us : List Value}, Reps X.K Hh vs ds → keyDs ds = some ks → Vals vs us → NestedAll s.heap ks us ∧ DK.plains ks = true
  | _, _, _, _, .nil, hk, .nil => by
    simp [keyDs] at hk; subst hk
    exact ⟨.nil, by simp [DK.plains]⟩
  | _, _, _, _, .cons (d := d) (ds := ds) r rs, hk, .cons rv rvs => by
    rw [keyDs] at hk
    cases h1 : keyD d with
    | none => rw [h1] at hk; simp at hk
    | some k =>
      cases h2 : keyDs ds with
      | none => rw [h1, h2] at hk; simp at hk
      | some ks =>
        rw [h1, h2] at hk
        simp at hk; subst hk
        obtain ⟨a1, a2⟩ := rep_key I e r h1 rv
        obtain ⟨b1, b2⟩ := reps_key I e rs h2 rvs
        exact ⟨.cons a1 b1, by simp [DK.plains, a2, b2]⟩
end
theorem rep_k1 (I : L2.Inv X pins σ H s) (e : Same Hh H) {v : V} {d : D} {k : NestedKey} (r : Rep X.K Hh v d) (hk : keyD d = some k) (dp : k.depth ≤ 8) : DK.K1 (DK.flat k) s.heap k v := by
  cases r with
  | non => simp [keyD] at hk; subst hk; exact ⟨rfl, rfl⟩
  | int i => simp [keyD] at hk; subst hk; exact ⟨rfl, rfl⟩
  | bl b => simp [keyD] at hk
  | str b => simp [keyD] at hk
  | lst _ _ => simp [keyD] at hk
  | scr _ => simp [keyD] at hk
  | ins _ _ => simp [keyD] at hk
  | dic _ _ _ => simp [keyD] at hk
  | tup sq rs =>
    rename_i a vs ds
    obtain ⟨n, pl⟩ := rep_key (u := .ref a) I e (Rep.tup sq rs) hk rfl
    have hk2 := hk
    rw [keyD] at hk
    obtain ⟨ks, hks, rfl⟩ := Option.map_eq_some_iff.mp hk
    exact ⟨a, rfl, n, dp, pl⟩
theorem ents_ks (I : L2.Inv X pins σ H s) (e : Same Hh H) {b : Bool} : ∀ {es : List DK.Ent} {ds : List (D × D)}, RepE X.K Hh es ds → (∀ x ∈ es, DK.flat x.1 = b ∧ x.1.depth ≤ 8) → DK.Ks b s.heap es
  | _, _, .nil, _ => fun _ z => nomatch z
  | _, _, .cons hk r q t, h => fun x hx => by
    rcases List.mem_cons.mp hx with hx | hx
    · subst hx
      obtain ⟨rfl, dp⟩ := h _ (List.mem_cons_self ..)
      exact rep_k1 I e r hk dp
    · exact ents_ks I e t (fun y hy => h y (List.mem_cons_of_mem _ hy)) x hx
end
def lookD (ds : List (D × D)) (k : NestedKey) : Option D := (ds.find? fun p => decide (keyD p.1 = some k)).map (·.2)
def putDD (ds : List (D × D)) (x : D) (k : NestedKey) (d : D) : List (D × D) :=
  if (lookD ds k).isSome then ds.map (fun p => if keyD p.1 = some k then (p.1, d) else p) else ds ++ [(x, d)]
/-- a key that can be asked of this dict -/
def okKey (ds : List (D × D)) (k : NestedKey) : Bool := decide (k.depth ≤ 8) && ds.all fun p => (keyD p.1).map DK.flat == some (DK.flat k)
section
variable {K : PySem.W.Frag} {H : Hp} {es : List DK.Ent} {ds : List (D × D)} {k : NestedKey} {kv v : V} {x d : D} {b : Bool}
theorem lookD_cons {p : D × D} : lookD (p :: ds) k = if keyD p.1 = some k then some p.2 else lookD ds k := by
  unfold lookD
  by_cases h : keyD p.1 = some k <;> simp [List.find?_cons, h]
theorem rep_at : ∀ {es : List DK.Ent} {ds : List (D × D)}, RepE K H es ds → (match lookD ds k with
    | some d => ∃ v, DK.atE es k = some v ∧ Rep K H v d
    | none => DK.atE es k = none)
  | _, _, .nil => rfl
  | _, _, .cons (k := j) hk r q t => by
    have ih := rep_at t
    rw [lookD_cons, DK.atE_cons, hk]
    by_cases h : j = k
    · rw [if_pos (by rw [h]), if_pos h]; exact ⟨_, rfl, q⟩
    · rw [if_neg (fun z => h (Option.some.inj z)), if_neg h]; exact ih
theorem rep_put (r : RepE K H es ds) (rk : Rep K H kv x) (hk : keyD x = some k) (rv : Rep K H v d) : RepE K H (DK.putE es k kv v) (putDD ds x k d) := by
  have e : (DK.atE es k).isSome = (lookD ds k).isSome := by
    have h := rep_at (k := k) r
    split at h
    · rename_i d' h'
      obtain ⟨v', h1, _⟩ := h
      rw [h1, h']; rfl
    · rename_i h'
      rw [h, h']; rfl
  unfold DK.putE putDD
  rw [DK.anyE, e]
  split
  · clear e
    rename_i hh
    clear hh
    have go : ∀ {es : List DK.Ent} {ds : List (D × D)}, RepE K H es ds → RepE K H (es.map fun e => if e.1 = k then (e.1, e.2.1, v) else e) (ds.map fun p => if keyD p.1 = some k then (p.1, d) else p) := by
      intro es
      induction es with
      | nil => intro ds r; cases r; exact .nil
      | cons e es ih =>
        intro ds r
        cases r with
        | @cons j kv' v' es' x' d' ds' hj r1 r2 t =>
          rw [List.map_cons, List.map_cons]
          by_cases h : j = k
          · rw [if_pos (show (j, kv', v').1 = k from h), if_pos (show keyD (x', d').1 = some k by rw [← h]; exact hj)]
            exact .cons hj r1 rv (ih t)
          · rw [if_neg (show ¬ (j, kv', v').1 = k from h), if_neg (show ¬ keyD (x', d').1 = some k by show ¬ keyD x' = some k; rw [hj]; exact fun z => h (Option.some.inj z))]
            exact .cons hj r1 r2 (ih t)
    exact go r
  · have go : ∀ {es : List DK.Ent} {ds : List (D × D)}, RepE K H es ds → RepE K H (es ++ [(k, kv, v)]) (ds ++ [(x, d)]) := by
      intro es
      induction es with
      | nil => intro ds r; cases r; exact .cons hk rk rv .nil
      | cons e es ih =>
        intro ds r
        cases r with
        | cons hj r1 r2 t => exact .cons hj r1 r2 (ih t)
    exact go r
theorem repE_keys : ∀ {es : List DK.Ent} {ds : List (D × D)}, RepE K H es ds → ds.map (fun p => keyD p.1) = es.map fun e => some e.1
  | _, _, .nil => rfl
  | _, _, .cons hk _ _ t => by rw [List.map_cons, List.map_cons, repE_keys t, hk]
theorem Keys.ok (q : Keys b es) (r : RepE K H es ds) (h : okKey ds k = true) : Keys (DK.flat k) es ∧ k.depth ≤ 8 := by
  unfold okKey at h
  rw [Bool.and_eq_true] at h
  refine ⟨⟨q.nd, fun e he => ⟨?_, (q.kind e he).2⟩⟩, of_decide_eq_true h.1⟩
  have h2 := h.2
  rw [List.all_eq_true] at h2
  have hm : (some e.1) ∈ ds.map fun p => keyD p.1 := by rw [repE_keys r]; exact List.mem_map.mpr ⟨e, he, rfl⟩
  obtain ⟨p, hp, ep⟩ := List.mem_map.mp hm
  have := h2 p hp
  rw [ep] at this
  simpa using this
theorem Keys.put (q : Keys b es) (h : DK.flat k = b) (dp : k.depth ≤ 8) : Keys b (DK.putE es k kv v) := by
  unfold DK.putE
  split
  · refine ⟨?_, fun e he => ?_⟩
    · have : (es.map fun e => if e.1 = k then (e.1, e.2.1, v) else e).map (·.1) = es.map (·.1) := by
        rw [List.map_map]
        refine List.map_congr_left fun e _ => ?_
        show (if e.1 = k then (e.1, e.2.1, v) else e).1 = e.1
        split <;> rfl
      rw [this]; exact q.nd
    · obtain ⟨x, hx, rfl⟩ := List.mem_map.mp he
      have := q.kind x hx
      split <;> exact this
  · rename_i hh
    refine ⟨?_, fun e he => ?_⟩
    · rw [List.map_append, List.map_cons, List.map_nil]
      refine nd_snoc q.nd fun z => hh ?_
      obtain ⟨e, he, rfl⟩ := List.mem_map.mp z
      exact List.any_eq_true.mpr ⟨e, he, decide_eq_true rfl⟩
    · rcases List.mem_append.mp he with he | he
      · exact q.kind e he
      · rw [List.mem_singleton] at he; subst he; exact ⟨h, dp⟩
end

/-! ### what dicts answer -/
theorem BV.dic {K : PySem.W.Frag} {O : Addr → Prop} {H : Hp} {v : V} {ds : List (D × D)} (h : BV K (hide O H) H v (.dic ds)) : ∃ p o es b, v = .ref p ∧ H p = some (DK.tab p o es) ∧ RepE K (hide O H) es ds ∧ Keys b es := by
  rcases h with h | ⟨a, rfl, t⟩
  · cases h with
    | dic q r k => exact ⟨_, _, _, _, rfl, hide_le _ _ q, r, k⟩
  · cases t with
    | dic q r k => exact ⟨_, _, _, _, rfl, q, r, k⟩
theorem BV.key {K : PySem.W.Frag} {Hh H : Hp} {v : V} {d : D} {k : NestedKey} (h : BV K Hh H v d) (hk : keyD d = some k) : Rep K Hh v d := by
  rcases h with h | ⟨a, rfl, t⟩
  · exact h
  · cases t <;> simp [keyD] at hk
def Asked (X : Cx) (es : List DK.Ent) (k : NestedKey) (y : V) (H : Hp) : Prop := (es.map (·.1)).Nodup ∧ ∃ b, ∀ pins σ s, L2.Inv X pins σ H s → DK.Ks b s.heap es ∧ DK.K1 b s.heap k y
theorem asked {X : Cx} {O : Addr → Prop} {H : Hp} {es : List DK.Ent} {ds : List (D × D)} {b : Bool} {k : NestedKey} {y : V} {d : D} (r : RepE X.K (hide O H) es ds) (q : Keys b es) (o : okKey ds k = true) (ry : Rep X.K (hide O H) y d) (hk : keyD d = some k) : Asked X es k y H := by
  obtain ⟨q', dp⟩ := q.ok r o
  exact ⟨q.nd, DK.flat k, fun pins σ s I => ⟨ents_ks I hide_le r q'.kind, rep_k1 I hide_le ry hk dp⟩⟩
def rTGet (X : Cx) : R2 := fun x y H Q => ∃ p o es k v, x = .ref p ∧ Rd H p (DK.tab p o es) ∧ Asked X es k y H ∧ DK.atE es k = some v ∧ Q v H
def rTIn (X : Cx) (neg : Bool) : R2 := fun y x H Q => ∃ p o es k, x = .ref p ∧ Rd H p (DK.tab p o es) ∧ Asked X es k y H ∧ Q (.bl (neg != (DK.atE es k).isSome)) H
section
variable {X : Cx}
theorem ix_tab (hu : X.A.units + 64 < cLine) : IxR X (rTGet X) := by
  intro value slice pins s σ H x y v u Q I rx ry h hs
  obtain ⟨p, ob, es, k, v', rfl, e, ⟨hn, b, hk⟩, l, q⟩ := h
  cases DK.ref_of rx
  obtain ⟨T, kk⟩ := hk _ _ _ I
  obtain ⟨_, _, _, _, ho, hc, _⟩ := DK.tab_at I e
  exact tail_any ⟨ob, ho, hc.1⟩ slot_dict_getitem.lookup (DK.t_get (by omega) I e T hn kk ry l fun w' s' I' rw' => ⟨v', H, I', rw', q⟩) hs
theorem op_tin (hu : X.A.units + 64 < cLine) : OpR X (compareOp .In) (rTIn X false) := by
  intro pins s σ H x y v u Q I rx ry h
  obtain ⟨p, ob, es, k, rfl, e, ⟨hn, b, hk⟩, q⟩ := h
  cases DK.ref_of ry
  obtain ⟨T, kk⟩ := hk _ _ _ I
  exact DK.t_in (by omega) I e T hn kk rx fun s' I' => ⟨.bl (DK.atE es k).isSome, H, I', rfl, by simpa using q⟩
theorem op_tnotIn (hu : X.A.units + 64 < cLine) : OpR X (compareOp .NotIn) (rTIn X true) := by
  intro pins s σ H x y v u Q I rx ry h
  obtain ⟨p, ob, es, k, rfl, e, ⟨hn, b, hk⟩, q⟩ := h
  cases DK.ref_of ry
  obtain ⟨T, kk⟩ := hk _ _ _ I
  exact DK.t_notIn (by omega) I e T hn kk rx fun s' I' => ⟨.bl (!(DK.atE es k).isSome), H, I', rfl, by simpa using q⟩
def rTSet (X : Cx) : TSet := fun o i v H Q => ∃ p ob es k, o = .ref p ∧ H p = some (DK.tab p ob es) ∧ Asked X es k i H ∧ es.length < sizeLine ∧ ∀ o', Q (upd H p (DK.tab p o' (DK.putE es k i v)))
theorem set_tab (hu : X.A.units + 64 < cLine) : PSet X (rTSet X) := by
  intro pins s σ H o i v ov iv u Q I ro ri rv h
  obtain ⟨p, ob, es, k, rfl, e, ⟨hn, b, hk⟩, hl, q⟩ := h
  cases DK.ref_of ro
  obtain ⟨T, kk⟩ := hk _ _ _ I
  exact DK.t_set (by omega) I e T hn kk ri rv hl fun s' o' I' => ⟨_, I', q o'⟩
/-! as data -/
def gIxD : D → D → Option D := fun x y => match x with
  | .dic ds => (keyD y).bind fun k => if okKey ds k then lookD ds k else none
  | _ => none
def gInD (neg : Bool) : D → D → Option D := fun y x => match x with
  | .dic ds => (keyD y).bind fun k => if okKey ds k then some (.bl (neg != (lookD ds k).isSome)) else none
  | _ => none
variable {a b e : Expr} {fa fb f : DE1} {pos : Pos}
theorem de_ixD (hu : X.A.units + 64 < cLine) (ha : DB X a fa) (hb : DB X b fb) (hs : PlainIx b := by exact fun _ _ => rfl) : DE X (.Subscript a b pos) (e2 gIxD fa fb) := PE.imp (pe_ix (ix_tab hu) ha hb hs) fun σ H Q ⟨O0, ow, ρ, S, d, e, k⟩ => by
  obtain ⟨p, q, ea, eb, eg⟩ := e2_some e
  refine ⟨O0, ow, ρ, S, p, ea, fun x H1 s1 r1 => ⟨O0, ow, ρ, S.same s1, q, eb, fun y H2 s2 r2 => ?_⟩⟩
  replace r1 := r1.same (hide_same s2) s2
  unfold gIxD at eg
  split at eg
  · rename_i ds
    rw [Option.bind_eq_some_iff] at eg
    obtain ⟨kk, ek, eg⟩ := eg
    split at eg
    · rename_i ok
      obtain ⟨l, ob, es, bb, rfl, hl, rs, qs⟩ := r1.dic
      have h := rep_at (k := kk) rs
      rw [eg] at h
      obtain ⟨v, hv, rv⟩ := h
      exact ⟨l, ob, es, kk, v, rfl, .inl hl, asked rs qs ok (r2.key ek) ek, hv, k v H2 (s1.trans s2) rv⟩
    · cases eg
  · cases eg
theorem in_D {neg : Bool} {O : Addr → Prop} {H : Hp} {x y : V} {p q d : D} {Q : VK} (hx : BV X.K (hide O H) H x p) (hy : BV X.K (hide O H) H y q) (e : gInD neg p q = some d) (c : ∀ v H', Same H H' → Rep X.K (hide O H') v d → Q v H') : rTIn X neg x y H Q := by
  unfold gInD at e
  split at e
  · rename_i ds
    rw [Option.bind_eq_some_iff] at e
    obtain ⟨kk, ek, eg⟩ := e
    split at eg
    · rename_i ok
      obtain ⟨l, ob, es, bb, rfl, hl, rs, qs⟩ := hy.dic
      have h := rep_at (k := kk) rs
      have he : (DK.atE es kk).isSome = (lookD ds kk).isSome := by
        split at h
        · rename_i d' h'
          obtain ⟨v', h1, _⟩ := h
          rw [h1, h']; rfl
        · rename_i h'
          rw [h, h']; rfl
      refine ⟨l, ob, es, kk, rfl, .inl hl, asked rs qs ok (hx.key ek) ek, ?_⟩
      rw [he]
      cases eg
      exact c _ _ (.refl _) (.bl _)
    · cases eg
  · cases e
theorem od_inD (hu : X.A.units + 64 < cLine) : OpD X (compareOp .In) (gInD false) := ⟨_, op_tin hu, fun O H x y p q d Q hx hy e c _ => in_D hx hy e c⟩
theorem od_notInD (hu : X.A.units + 64 < cLine) : OpD X (compareOp .NotIn) (gInD true) := ⟨_, op_tnotIn hu, fun O H x y p q d Q hx hy e c _ => in_D hx hy e c⟩
theorem df_dic0 : DF X (.Dict [] [] pos) (eC (.dic [])) := PE.imp DK.pe_tabNew fun σ H Q ⟨O0, ow, ρ, S, d, e, k⟩ => by
  cases e
  exact fun p o np => k _ _ (same_upd np) np (.dic (b := true) upd_same .nil ⟨List.nodup_nil, fun _ z => nomatch z⟩)
def gSetD (i : Nat) (fi f : DE1) : DS1 := fun ρ => match f ρ, fi ρ, ρ[i]? with
  | some d, some x, some (some (true, .dic ds)) => match keyD x with
    | some k => if okKey ds k = true ∧ ds.length < 1000 then .nx (ρ.set i (some (true, .dic (putDD ds x k d)))) else .stuck
    | none => .stuck
  | _, _, _ => .stuck
theorem ds_setD (hu : X.A.units + 64 < cLine) (i : Nat) {x : Str} {p1 spos tpos : Pos} {ie : Expr} {fi : DE1} (hv : PE X (.Name x p1) (tVar i)) (hi : DE X ie fi) (he : DE X e f)
    (h : PS X (.Assign [.Subscript (.Name x p1) ie tpos] e spos) (tAsg (tDE X.K f) (gSub (tVar i) (tDE X.K fi) (rTSet X)))) : DS X (.Assign [.Subscript (.Name x p1) ie tpos] e spos) (gSetD i fi f) := PS.imp h fun N σ H ⟨H0, O0, ρ, ⟨s, ow, S, hn⟩, p⟩ => by
  unfold gSetD at p
  split at p
  · rename_i d dx ds ef efi ei
    split at p
    · rename_i k hk
      split at p
      · rename_i ok
        obtain ⟨o, h1, l, hw, rfl, t⟩ := S.sl i _ ei
        cases t with
        | dic hL rs qs =>
          rename_i ob es b
          refine ⟨O0, ow, ρ, S, d, ef, fun v H1 s1 r1 => ⟨.ref l, h1, O0, ow, ρ, S.same s1, _, efi, fun vi H2 s2 r2 => ?_⟩⟩
          have s12 := s1.trans s2
          have hL1 := s12 _ _ hL
          have rs2 := rs.same (hide_same s12)
          have hlen : es.length = ds.length := by simpa using (congrArg List.length (repE_keys rs2)).symm
          have qk := qs.ok rs2 ok.1
          refine ⟨l, ob, es, k, rfl, hL1, asked rs2 qs ok.1 r2 hk, by have := small1000' (n := es.length) (by omega); have := ok.2; unfold sizeLine at *; omega, fun o' => p _ _ ⟨fun b u q => ?_, ow, (S.same s12).wr ei hw fun Hh sm => .dic upd_same ((rep_put rs2 r2 hk (r1.same (hide_same s2))).same sm) (qk.1.put rfl qk.2), hn⟩⟩
          have := hn i l hw
          rw [upd_ne (fun z => by subst z; rw [this] at q; cases q)]
          exact s12 _ _ (s _ _ q)
      · exact p.elim
    · exact p.elim
  · exact p.elim
end
end DL

set_option maxHeartbeats 4000000
/-! walks over tables: their keys; their pairs -/
namespace DK
open PySem PySem.Spec PyProof.Rows L2
theorem ents_get : ∀ {es : List Ent} {ds : List DictEntry} {i : Nat} {e : Ent}, Paired EntOk es ds → es[i]? = some e → ∃ d, ds[i]? = some d ∧ EntOk e d
  | _, _, _, _, .nil, h => by simp at h
  | _, _, 0, _, .cons r _, h => by simp at h; subst h; exact ⟨_, rfl, r⟩
  | _, _, i + 1, e, .cons _ t, h => by
    obtain ⟨d, g1, g2⟩ := ents_get (i := i) (e := e) t (by simpa using h)
    exact ⟨d, by simpa using g1, g2⟩
/-- the keys of the table -/
def ItK (d : Addr) (o : Obj) (es : List Ent) : It where
  go := fun i H => H d = some (tab d o es) ∧ i < es.length
  yld := fun i H x H' => H' = H ∧ ∃ e, es[i]? = some e ∧ x = e.2.1
  stop := fun i H => H d = some (tab d o es) ∧ es.length ≤ i
/-- the pairs of the table, in tuples that are made for it -/
def ItP (d : Addr) (o : Obj) (es : List Ent) : It where
  go := fun i H => H d = some (tab d o es) ∧ i < es.length
  yld := fun i H x H' => ∃ T e, es[i]? = some e ∧ x = .ref T ∧ H T = none ∧ H' = upd H T (.tup [e.2.1, e.2.2])
  stop := fun i H => H d = some (tab d o es) ∧ es.length ≤ i
/-- what a table's place tells of its object -/
structure Lies (h : Heap) (d : Addr) (o : Obj) (ds : Array DictEntry) (ep : Nat) (es : List Ent) : Prop where
  sys : (d == sysModules) = false
  obj : h.get? d = some o
  exact : o.ExactDict
  data : o.data = .dict ds ep
  size : ds.size = es.length
  row : ∀ i e, es[i]? = some e → ∃ hi : i < ds.size, EntOk e ds[i]
theorem Lies.raw {h : Heap} {d : Addr} {o : Obj} {ds : Array DictEntry} {ep : Nat} {es : List Ent} (l : Lies h d o ds ep es) : h.DictRaw d ds ep := ⟨o, l.obj, l.exact, l.data⟩
theorem tab_lies {h : Heap} {d : Addr} {o : Obj} {es : List Ent} (t : TabP d o es h) : ∃ ds ep, Lies h d o ds ep es := by
  obtain ⟨_, y, ds, ep, g, x, dt, p⟩ := t
  have n : ds.size = es.length := by rw [← Array.length_toList]; exact (Paired.length p).symm
  refine ⟨ds, ep, y, g, x, dt, n, fun i e he => ?_⟩
  obtain ⟨en, h1, h2⟩ := ents_get p he
  rw [Array.getElem?_toList] at h1
  obtain ⟨hi, rfl⟩ := Array.getElem?_eq_some_iff.mp h1
  exact ⟨hi, h2⟩
section
variable {X : Cx} {pins : List (Addr × Obj)} {σ : L2.St} {H : Hp} {s : Shared} {d it : Addr} {o : Obj} {ds : Array DictEntry} {ep : Nat} {es : List Ent}
theorem lies (I : L2.Inv X pins σ H s) (hd : H d = some (tab d o es)) (hod : o.data = .dict ds ep) : Lies s.heap d o ds ep es := by
  obtain ⟨ds', ep', l⟩ := tab_lies (tab_at I (.inl hd))
  have z := l.data
  rw [hod] at z
  injection z with z1 z2
  subst z1 z2
  exact l
/-- only the iterator has moved -/
theorem moved (I : L2.Inv X pins σ H s) (f : FpOk X pins H it) {h' : Heap} (k : ∀ b q, b ≠ it → s.heap.get? b = some q → h'.get? b = some q) : L2.Inv X pins σ H { s with heap := h' } :=
  have ⟨a0, a1, a2, a3, a4, a5⟩ := f
  I.turned (t' := s.toks) k a0 a1 a3 a4 a5
end
section
variable {P : Program} {w : World} {K : PySem.W.Frag} {tg : Expr} {d : Addr} {o : Obj} {ds : Array DictEntry} {ep : Nat} {es : List Ent}
theorem mem_one {b it : Addr} (h : b ∈ [it]) : b = it := List.mem_singleton.mp h
theorem turn_tkeys (it : Addr) (hod : o.data = .dict ds ep) : Turn P w K tg (ItK d o es) [it] it fun i h => h.IsKeyIter it d i es.length ep := by
  refine ⟨List.mem_singleton.mpr rfl, fun i h st b hb => ?_, fun i h h' st k => st.at fun q z => k it (List.mem_singleton.mpr rfl) q z, ?_, ?_, fun A i s Q E st q => wpAny_pyIter_keyiter st q⟩
  · cases mem_one hb
    obtain ⟨q, g, _, dt⟩ := st
    exact ⟨q, g, fun v z => nomatch dt.symm.trans z⟩
  · rintro X rfl rfl rfl hc i pins s σ H E I hf st ⟨hd, hi⟩
    have l := lies I hd hod
    have f := hf it (List.mem_singleton.mpr rfl)
    obtain ⟨e, he⟩ : ∃ e, es[i]? = some e := ⟨_, List.getElem?_eq_getElem hi⟩
    obtain ⟨hs, r⟩ := l.row i e he
    refine next_key_item st l.obj l.data l.size (Array.getElem?_eq_getElem hs) fun h' st' sb => ⟨_, rfl, ?_⟩
    have ⟨q, g, cq, dq⟩ := st'
    exact go_of (s := { s with heap := h' }) g cq dq (by decide) ⟨e.2.1, H, moved I f fun b q hb z => (sb.2 b hb).trans z, r.2.1, ⟨rfl, e, he, rfl⟩, st', fun b hb => (hf b hb).1⟩
  · rintro X rfl rfl rfl hc i pins s σ H E I hf st ⟨hd, hi⟩
    have l := lies I hd hod
    exact next_key_end (I.ok.hd hc) st l.obj l.data l.size hi fun h' eb => ⟨rfl, moved I (hf it (List.mem_singleton.mpr rfl)) fun b q hb z => eb b q hb z⟩
theorem turn_titems {elts : List Expr} {kk : Nat} {tpos : Pos} (it : Addr) (hod : o.data = .dict ds ep) :
    Turn P w K (.Tuple elts kk tpos) (ItP d o es) [it] it fun i h => ∃ a b, IsItemIter h it d i es.length ep a b := by
  refine ⟨List.mem_singleton.mpr rfl, fun i h st b hb => ?_, fun i h h' ⟨a, c, z⟩ k => ⟨a, c, k it (List.mem_singleton.mpr rfl) _ z⟩, ?_, ?_, fun A i s Q E ⟨_, _, z⟩ q => PySem.W.kcp_self z q⟩
  · cases mem_one hb
    obtain ⟨a, c, z⟩ := st
    exact ⟨_, z, fun v y => nomatch y⟩
  · rintro X rfl rfl rfl hc i pins s σ H E I hf ⟨a, c, hit⟩ ⟨hd, hi⟩
    have l := lies I hd hod
    obtain ⟨e, he⟩ : ∃ e, es[i]? = some e := ⟨_, List.getElem?_eq_getElem hi⟩
    obtain ⟨hs, r⟩ := l.row i e he
    rw [← l.size] at hit
    have low : it < s.heap.objs.size := Heap.lt_size hit
    refine wpAny_pyNext_items_item_raw hit l.raw hs fun h1 out hT _ k1 => ⟨_, rfl, wpAny_letOwnedTupleGo_items (s := { s with heap := h1 }) out fun h2 inn sb => ?_⟩
    have new : ObjOk X.prog X.w (upd H s.heap.objs.size (.tup [e.2.1, e.2.2])) h2 s.heap.objs.size (.tup [e.2.1, e.2.2]) :=
      ⟨(by decide : 2 ≤ sizeLine), [ds[i].key, ds[i].val], .cons r.2.1 (.cons r.2.2 .nil), _, (sb.2 _ (Nat.ne_of_gt low)).trans hT, rfl, _, rfl⟩
    refine ⟨.ref s.heap.objs.size, _, I.turnedNew (t' := s.toks) (ch := [it]) (fun b q hb z => ?_) hf (Nat.le_refl _) new, rfl, ⟨_, e, he, rfl, I.hok.fresh (Nat.le_refl _), rfl⟩, ⟨_, _, by rw [← l.size]; exact inn⟩, fun b hb => ?_⟩
    · have hb' : b ≠ it := fun y => hb (List.mem_singleton.mpr y)
      exact (sb.2 b hb').trans (k1 b q hb' z)
    · cases mem_one hb
      rw [upd_ne (Nat.ne_of_lt low)]
      exact (hf it (List.mem_singleton.mpr rfl)).1
  · rintro X rfl rfl rfl hc i pins s σ H E I hf ⟨a, c, hit⟩ ⟨hd, hi⟩
    have l := lies I hd hod
    rw [← l.size] at hit hi
    exact wpAny_pyNext_items_end_raw (I.ok.hd hc) hit l.raw hi fun h' eb => ⟨rfl, moved I (hf it (List.mem_singleton.mpr rfl)) fun b q hb z => eb b q hb z⟩
end
/-! for k in d; for k, v in d.items() -/
def iKeysT (td : TE) : TI := fun σ H R => td σ H fun x H1 => ∃ d o es, x = .ref d ∧ H1 d = some (tab d o es) ∧ R (ItK d o es) H1
def iItemsT (td : TE) : TI := fun σ H R => td σ H fun x H1 => ∃ d o es, x = .ref d ∧ H1 d = some (tab d o es) ∧ R (ItP d o es) H1
section
variable {X : Cx} {tg e : Expr} {td : TE} {ap cp : Pos}
theorem pi_tkeys (he : PE X e td) : PI X tg e (iKeysT td) := ⟨fun pins s σ H R I h => thn (he.run pins s σ H _ I h) fun u s1 ⟨x, H1, I1, rx, d, o, es, ex, hd, q⟩ => by
  subst ex
  cases ref_of rx
  obtain ⟨ds, ep, l⟩ := tab_lies (tab_at I1 (.inl hd))
  refine iter_keys l.sys l.obj l.exact l.data (pi_one (tk := s1.toks) I1 _ (turn_tkeys _ l.data) ⟨_, Heap.get?_push_size _ rfl, rfl, ?_⟩ q)
  rw [l.size] <;> rfl⟩
theorem pi_titems {elts : List Expr} {kk : Nat} {tp : Pos} (he : PE X e td) (hbase : attributeBase e "items" X.env (eval e X.env) = eval e X.env := by rfl) (hline : (ap.endLine == cp.line) = true := by rfl) :
    PI X (.Tuple elts kk tp) (.Call (.Attribute e "items" ap) [] [] cp) (iItemsT td) := ⟨fun pins s σ H R I h =>
  wpAny_Call_method (T := "dict") (id := "dict.items") hbase rfl hline F.plainAttrs_dict F.slot_dict_items F.type_dict_items (thn (he.run pins s σ H _ I h) fun u s1 ⟨x, H1, I1, rx, d, o, es, ex, hd, q⟩ => by
  subst ex
  cases ref_of rx
  obtain ⟨ds, ep, l⟩ := tab_lies (tab_at I1 (.inl hd))
  refine ⟨l.raw.typeIs, fun b z => by cases z; exact ⟨o, l.obj, l.exact.2.1⟩, ?_⟩
  generalize hv : ({ cls := .type "dict_items", data := .fields #[.ref d] } : Obj) = view
  have I2 : L2.Inv X pins σ H1 { s1 with heap := s1.heap.push view } := I1.kept (t' := s1.toks) fun b q z => Heap.get?_push_of_some _ z
  refine (show wpAny _ _ (callWith cp (.builtin "dict.items") [.ref d] [] []) _ X.xe s1 from method_meetsIn F.slot_dict_items F.entry_dict_items rfl (PySem.evalArgs_none ⟨rfl, l.raw.typeIs, F.args_dict_items_1 _, _, meets_dict_items_raw d l.sys, ⟨⟨ds, ep, l.raw⟩, ?_⟩⟩))
  rw [hv]
  have vw : (s1.heap.push view).IsItemsView s1.heap.objs.size d := by subst hv; exact ⟨_, Heap.get?_push_size _ rfl, rfl, rfl⟩
  refine wpAny_pyIter_items_raw (s := { s1 with heap := s1.heap.push view }) vw (l.raw.at fun q z => Heap.get?_push_of_some _ z) (pi_one (tk := s1.toks) I2 _ (turn_titems _ l.data) ⟨.none, .none, ?_⟩ q)
  rw [← l.size]
  exact Heap.get?_push_size _ rfl)⟩
end
end DK

set_option maxHeartbeats 4000000
namespace DL
open PySem PySem.Spec PyProof.Rows L2
variable [CT]
/-! ### walks over dicts -/
section
variable {K : PySem.W.Frag} {H : Hp}
theorem repE_get : ∀ {es : List DK.Ent} {ds : List (D × D)} {i : Nat} {p : D × D}, RepE K H es ds → ds[i]? = some p → ∃ e, es[i]? = some e ∧ keyD p.1 = some e.1 ∧ Rep K H e.2.1 p.1 ∧ Rep K H e.2.2 p.2
  | _, _, _, _, .nil, h => by simp at h
  | _, _, 0, _, .cons hk r q _, h => by simp at h; subst h; exact ⟨_, rfl, hk, r, q⟩
  | _, _, i + 1, p, .cons _ _ _ t, h => by
    obtain ⟨e, h1, h2⟩ := repE_get (i := i) (p := p) t (by simpa using h)
    exact ⟨e, by simpa using h1, h2⟩
theorem repE_len {es : List DK.Ent} {ds : List (D × D)} (h : RepE K H es ds) : es.length = ds.length := by simpa using (congrArg List.length (repE_keys h)).symm
end
section
variable {X : Cx} {tg e : Expr} {f : DE1} {apos cpos tpos : Pos}
def iKD (f : DE1) : DEnv → Option (List D) := fun ρ => match f ρ with
  | some (.dic ds) => some (ds.map (·.1))
  | _ => none
def iPD (f : DE1) : DEnv → Option (List D) := fun ρ => match f ρ with
  | some (.dic ds) => some (ds.map fun p => .tup [p.1, p.2])
  | _ => none
theorem di_keysD (h : DE X e f) : DI X tg e (iKD f) := PI.imp (DK.pi_tkeys h) fun σ H R ⟨O0, ow, ρ, S, ds, q, k⟩ => by
  unfold iKD at q
  split at q
  · rename_i ds' ef
    cases q
    refine ⟨O0, ow, ρ, S, _, ef, fun v H1 s r => ?_⟩
    cases r with
    | dic sq rs kq =>
      rename_i a o es b
      have ln := repE_len rs
      refine ⟨a, o, es, rfl, hide_le _ _ sq, k _ H1 s ⟨fun H2 e2 => ⟨e2 _ _ sq, by rw [List.length_map]; omega⟩, fun i d H2 e2 hd => ?_, fun i d H2 x H3 e2 hd y => ?_⟩⟩
      · rw [List.getElem?_map] at hd
        obtain ⟨p, hp, _⟩ := Option.map_eq_some_iff.mp hd
        obtain ⟨hi, _⟩ := List.getElem?_eq_some_iff.mp hp
        exact ⟨e2 _ _ sq, by omega⟩
      · rw [List.getElem?_map] at hd
        obtain ⟨p, hp, rfl⟩ := Option.map_eq_some_iff.mp hd
        obtain ⟨en, he, _, r1, _⟩ := repE_get rs hp
        obtain ⟨rfl, e', he', rfl⟩ := y
        rw [he] at he'; cases he'
        exact ⟨.refl _, fun O' h1 h2 => r1.same (keepO e2 h1)⟩
  · cases q
theorem di_itemsD {elts : List Expr} {kk : Nat} (h : DE X e f) (hbase : attributeBase e "items" X.env (eval e X.env) = eval e X.env := by rfl) (hline : (apos.endLine == cpos.line) = true := by rfl) :
    DI X (.Tuple elts kk tpos) (.Call (.Attribute e "items" apos) [] [] cpos) (iPD f) := PI.imp (DK.pi_titems h hbase hline) fun σ H R ⟨O0, ow, ρ, S, ds, q, k⟩ => by
  unfold iPD at q
  split at q
  · rename_i ds' ef
    cases q
    refine ⟨O0, ow, ρ, S, _, ef, fun v H1 s r => ?_⟩
    cases r with
    | dic sq rs kq =>
      rename_i a o es b
      have ln := repE_len rs
      refine ⟨a, o, es, rfl, hide_le _ _ sq, k _ H1 s ⟨fun H2 e2 => ⟨e2 _ _ sq, by rw [List.length_map]; omega⟩, fun i d H2 e2 hd => ?_, fun i d H2 x H3 e2 hd y => ?_⟩⟩
      · rw [List.getElem?_map] at hd
        obtain ⟨p, hp, _⟩ := Option.map_eq_some_iff.mp hd
        obtain ⟨hi, _⟩ := List.getElem?_eq_some_iff.mp hp
        exact ⟨e2 _ _ sq, by omega⟩
      · rw [List.getElem?_map] at hd
        obtain ⟨p, hp, rfl⟩ := Option.map_eq_some_iff.mp hd
        obtain ⟨en, he, _, r1, r2⟩ := repE_get rs hp
        obtain ⟨T, e', he', rfl, nT, rfl⟩ := y
        rw [he] at he'; cases he'
        exact ⟨same_upd nT, fun O' h1 h2 => pair_rep e2 nT h1 h2 r1 r2⟩
  · cases q
end
end DL

set_option maxHeartbeats 4000000
namespace DK
open PySem PySem.Spec PyProof.Rows L2
section
variable {X : Cx} {pins : List (Addr × Obj)} {σ : L2.St} {H : Hp} {s : Shared} {a : Addr} {o : Obj} {es : List Ent} {k : NestedKey} {kv v : V} {u r : Value} {A : Around} {E : Value → Shared → Prop} {b : Bool}
theorem t_dset {Q : Unit → Shared → Prop} (hu : A.units + 9 < cLine) (I : L2.Inv X pins σ H s) (e : H a = some (tab a o es)) (T : Ks b s.heap es) (hn : (es.map (·.1)).Nodup) (kk : K1 b s.heap k kv) (ry : RelV kv u) (rv : RelV v r) (hl : es.length < sizeLine)
    (h : ∀ s' o', L2.Inv X pins σ (upd H a (tab a o' (putE es k kv v))) s' → Q () s') : wpAny (model X.prog X.w) A (dictSet a u r) Q E s := by
  have t := tab_at I (.inl e)
  obtain ⟨z, y, _, _, _⟩ := id t
  have hz := putE_len es k kv v
  have mu : Mut (H a) := by rw [e]; exact True.intro
  cases b with
  | true =>
    obtain ⟨fk, rfl⟩ := kk
    obtain ⟨vs, dd, rel⟩ := dictOf (P := X.prog) (w := X.w) t T.flat hn
    have hv : vs.length ≤ sizeLine := by rw [← rel.length]; unfold okv; rw [List.length_map]; omega
    refine wpAny_dictSet_pairs (hsz := hv) (flat_is fk ry) dd fun h' dd' hs => ?_
    have he : ∃ q, h'.get? a = some q := let ⟨q, _, _, hq, _⟩ := dd'; ⟨q, hq⟩
    have F' : Flat (putE es k (vK k) v) := fun x hx => Ks.put (b := true) T ⟨fk, rfl⟩ x hx
    obtain ⟨o', t'⟩ := tab_of (by omega) y F' dd' (by rw [flat_put T.flat fk]; exact rel.put _ rv)
    exact h _ o' (d_write I mu hs he (tab_obj t'))
  | false =>
    obtain ⟨p, rfl, n, dp, pl⟩ := kk
    cases ref_of ry
    obtain ⟨xs, dd, rel⟩ := dictOfH (P := X.prog) (w := X.w) t T hn
    have hv : xs.length ≤ sizeLine := by rw [← Paired.length rel]; omega
    refine wpAny_dictSet_heap (knd := nestedKind X.prog X.w) (k := k) (hsz := hv) (show A.units + 8 < cLine by omega) ⟨n, dp⟩ dd fun h' dd' hs => ?_
    obtain ⟨q, ds, ep, hq, h2, h3, h4, _, h5⟩ := dd'
    refine h _ q (d_write I mu hs ⟨q, hq⟩ (tab_obj ⟨by omega, y, ds, ep, hq, h2, h3, ?_⟩))
    rw [h4]
    exact tab_back (fun x hx => Ks.put (b := false) T ⟨p, rfl, n, dp, pl⟩ x hx) (ex_put rel k rv)

def Ask (X : Cx) (es : List Ent) (k : NestedKey) (y : V) (H : Hp) : Prop := (es.map (·.1)).Nodup ∧ ∃ b, ∀ pins σ s, L2.Inv X pins σ H s → Ks b s.heap es ∧ K1 b s.heap k y
/-- the pairs are stored, one after another -/
def Stores (X : Cx) (p : Addr) : List (V × V) → Hp → (Hp → Prop) → Prop
  | [], H, Q => Q H
  | (x, y) :: r, H, Q => ∃ o es k, H p = some (tab p o es) ∧ Ask X es k x H ∧ es.length < sizeLine ∧ ∀ o', Stores X p r (upd H p (tab p o' (putE es k x y))) Q
theorem store_all (hu : A.units + 9 < cLine) : ∀ {ps : List (V × V)} {vs : List (Value × Value)} {H : Hp} {s : Shared} {Q : Hp → Prop} {R : PUnit → Shared → Prop}, L2.Inv X pins σ H s → VV ps vs → Stores X a ps H Q → (∀ H' s', L2.Inv X pins σ H' s' → Q H' → R PUnit.unit s') →
    wpAny (model X.prog X.w) A (forIn vs PUnit.unit fun (x : Value × Value) (_ : PUnit) => (do dictSet a x.1 x.2; pure (ForInStep.yield PUnit.unit) : Sem (ForInStep PUnit))) R E s
  | [], _, H, s, Q, R, I, .nil, q, k => by
    rw [List.forIn_nil]
    exact wpAny_pure (k H s I q)
  | (x, y) :: ps, _, H, s, Q, R, I, .cons (b := v) h t, q, k => by
    obtain ⟨o, es, kk, e, ⟨hn, b, hk⟩, hl, q⟩ := q
    obtain ⟨T, k1⟩ := hk _ _ _ I
    rw [List.forIn_cons]
    refine wpAny_bind (wpAny_bind (t_dset (b := b) hu I e T hn k1 h.1 h.2 hl fun s' o' I' => wpAny_pure ?_))
    exact store_all hu I' t (q o') k
end
section
variable {X : Cx} {pos : Pos}
def tDispT (X : Cx) (trs : List (TE × TE)) : TE := fun σ H Q => ∀ p o, H p = none → tPairs trs σ (upd H p (tab p o [])) fun ps H2 => Stores X p ps H2 fun H3 => Q (.ref p) H3
theorem pe_tdisp {keys : List (Option Expr)} {values : List Expr} {trs : List (TE × TE)} (hu : X.A.units + 64 < cLine) (h : PPs X pos keys values trs) (hall : keys.all (·.isSome) = true) (hl : keys.length = values.length) (h0 : keys ≠ [])
    (h15 : keys.length ≤ 15) : PE X (.Dict keys values pos) (tDispT X trs) := by
  refine ⟨fun pins s σ H Q I q => ?_⟩
  have hn := I.hok.fresh (Nat.le_refl s.heap.objs.size)
  have I1 := I.laid (a := s.heap.objs.size) (o := tab s.heap.objs.size { cls := .type "dict", data := .dict #[] } []) (h' := s.heap.push { cls := .type "dict", data := .dict #[] }) (t' := s.toks) (fun _ _ q => Heap.get?_push_of_some _ q) (Nat.le_refl _) (tab_obj (tab_empty s.heap I.big))
  have hp := pairTrees_length keys values X.env pos hall hl
  rw [arm_eval_Dict, zip_pairTrees keys values X.env pos hall hl, dictDisplay_pairs (pairTrees keys values X.env pos) (fun he => h0 (List.length_eq_zero_iff.mp (by rw [he] at hp; exact hp.symm))) (by rw [hp]; omega)]
  refine wpAny_bind (wpAny_standAt (wpAny_bind ?_))
  unfold subDict
  refine wpAny_bind (wpAny_alloc ?_)
  refine wpAny_bind (wpAny_holding ?_)
  rw [if_pos (by rw [hp]; exact h15)]
  refine wpAny_bind (wpAny_mono (h.run pins _ σ _ _ I1 (q _ _ hn)) (fun ws s2 h2 => ?_) fun _ _ e => e)
  obtain ⟨ps, H2, I2, rel, q2⟩ := h2
  refine wpAny_holding ?_
  exact wpAny_bind (store_all (by omega) I2 rel q2 fun H3 s3 I3 q3 => wpAny_pure (wpAny_pure (wpAny_pure ⟨.ref s.heap.objs.size, H3, I3, rfl, q3⟩)))
end
end DK

set_option maxHeartbeats 4000000
namespace DL
open PySem PySem.Spec PyProof.Rows L2
variable [CT]
/-! ### {k: v, ..} -/
abbrev RepP (K : PySem.W.Frag) (H : Hp) : List (V × V) → List (D × D) → Prop := Paired fun v p => Rep K H v.1 p.1 ∧ Rep K H v.2 p.2
theorem RepP.same {K : PySem.W.Frag} {H H' : Hp} (e : Same H H') {vs : List (V × V)} {ps : List (D × D)} (h : RepP K H vs ps) : RepP K H' vs ps := Paired.mapP h fun _ _ z => ⟨z.1.same e, z.2.same e⟩
def tDPs (K : PySem.W.Frag) (gs : DEnv → Option (List (D × D))) (σ : L2.St) (H : Hp) (Q : List (V × V) → Hp → Prop) : Prop := ∃ O0 ow ρ, Sl K O0 H σ ρ ow ∧ ∃ ps, gs ρ = some ps ∧ ∀ vs H', Same H H' → RepP K (hide (hid O0 ow) H') vs ps → Q vs H'
def DPs (X : Cx) (pos : Pos) (keys : List (Option Expr)) (values : List Expr) (gs : DEnv → Option (List (D × D))) : Prop := ∃ trs, PPs X pos keys values trs ∧ ∀ σ H Q, tDPs X.K gs σ H Q → tPairs trs σ H Q
def pNil : DEnv → Option (List (D × D)) := fun _ => some []
def pCons (fk fv : DE1) (gs : DEnv → Option (List (D × D))) : DEnv → Option (List (D × D)) := fun ρ => (fk ρ).bind fun x => (fv ρ).bind fun y => (gs ρ).map ((x, y) :: ·)
section
variable {X : Cx} {pos : Pos} {keys : List (Option Expr)} {values : List Expr} {gs : DEnv → Option (List (D × D))} {k v : Expr} {fk fv : DE1}
theorem dps_nil : DPs X pos [] [] pNil := ⟨[], pps_nil, fun σ H Q ⟨O0, ow, ρ, S, ps, e, q⟩ => by cases e; exact q _ _ (.refl _) .nil⟩
theorem dps_cons (hk : DE X k fk) (hv : DE X v fv) (hr : DPs X pos keys values gs) : DPs X pos (some k :: keys) (v :: values) (pCons fk fv gs) := by
  obtain ⟨trs, h, t⟩ := hr
  refine ⟨_, pps_cons hk hv h, fun σ H Q ⟨O0, ow, ρ, S, ps, e, q⟩ => ?_⟩
  unfold pCons at e
  simp only [Option.bind_eq_some_iff, Option.map_eq_some_iff] at e
  obtain ⟨x, ex, y, ey, r, er, rfl⟩ := e
  exact ⟨O0, ow, ρ, S, x, ex, fun vx H1 s1 r1 => ⟨O0, ow, ρ, S.same s1, y, ey, fun vy H2 s2 r2 => t _ _ _ ⟨O0, ow, ρ, S.same (s1.trans s2), r, er, fun vs H3 s3 r3 => q _ H3 ((s1.trans s2).trans s3) (.cons ⟨r1.same (hide_same (s2.trans s3)), r2.same (hide_same s3)⟩ r3)⟩⟩⟩
end
def storeD : List (D × D) → List (D × D) → Option (List (D × D))
  | [], acc => some acc
  | (x, d) :: r, acc => match keyD x with
    | some k => if okKey acc k = true ∧ acc.length < 1000 then storeD r (putDD acc x k d) else none
    | none => none
theorem Sl.fresh {K : PySem.W.Frag} {O0 : Addr → Prop} {H : Hp} {σ : L2.St} {ρ : DEnv} {ow : Nat → Option Addr} {p : Addr} {o : HO} (S : Sl K O0 H σ ρ ow) (n : H p = none) : Sl K (fun b => O0 b ∨ b = p) (upd H p o) σ ρ ow := by
  have own : ∀ i a, ow i = some a → a ≠ p := fun i a h z => by
    subst z
    obtain ⟨o, q⟩ := S.trk a (.inr ⟨i, h⟩)
    rw [n] at q; cases q
  have e : Same (hide (hid O0 ow) H) (hide (hid (fun b => O0 b ∨ b = p) ow) (upd H p o)) := fun b u q => by
    rw [hide_some] at q ⊢
    have hb : b ≠ p := fun z => by subst z; rw [n] at q; cases q.2
    refine ⟨fun z => ?_, by rw [upd_ne hb]; exact q.2⟩
    rcases z with (z | z) | z
    · exact q.1 (.inl z)
    · exact hb z
    · exact q.1 (.inr z)
  refine ⟨S.len, S.inj, fun i a h z => ?_, fun a z => ?_, fun i s h => ?_⟩
  · rcases z with z | z
    · exact S.out i a h z
    · exact own i a h z
  · by_cases hp : a = p
    · subst hp; exact ⟨o, upd_same⟩
    · have : hid O0 ow a := by
        rcases z with (z | z) | z
        · exact .inl z
        · exact absurd z hp
        · exact .inr z
      obtain ⟨u, q⟩ := S.trk a this
      exact ⟨u, by rw [upd_ne hp]; exact q⟩
  · obtain ⟨u, h1, h2⟩ := S.sl i s h
    refine ⟨u, h1, ?_⟩
    match s, h2 with
    | none, _ => trivial
    | some (false, d), ⟨v, e1, r⟩ => exact ⟨v, e1, r.same e⟩
    | some (true, d), ⟨a, e1, e2, t⟩ => exact ⟨a, e1, e2, t.same e (upd_ne (own i a e1))⟩
section
variable {X : Cx}
theorem stores_of {p : Addr} {O : Addr → Prop} (hO : O p) : ∀ {ps : List (D × D)} {vs : List (V × V)} {acc ds : List (D × D)} {H : Hp} {o : Obj} {es : List DK.Ent} {b : Bool} {Q : Hp → Prop}, RepP X.K (hide O H) vs ps → H p = some (DK.tab p o es) → RepE X.K (hide O H) es acc → Keys b es → storeD ps acc = some ds →
    (∀ H3, (∀ c, c ≠ p → H3 c = H c) → TopR X.K (hide O H3) H3 p (.dic ds) → Q H3) → DK.Stores X p vs H Q
  | [], _, acc, ds, H, o, es, b, Q, .nil, hp, re, kq, e, q => by
    simp only [storeD, Option.some.injEq] at e
    subst e
    exact q H (fun _ _ => rfl) (.dic hp re kq)
  | (x, d) :: ps, _, acc, ds, H, o, es, b, Q, .cons (a := v) r t, hp, re, kq, e, q => by
    rw [storeD] at e
    split at e
    · rename_i k hk
      split at e
      · rename_i ok
        have hl := repE_len re
        obtain ⟨k1, k2⟩ := kq.ok re ok.1
        refine ⟨o, es, k, hp, asked re kq ok.1 r.1 hk, by have := small1000' (n := es.length) (by omega); have := ok.2; unfold sizeLine at *; omega, fun o' => ?_⟩
        have sm : Same (hide O H) (hide O (upd H p (DK.tab p o' (DK.putE es k v.1 v.2)))) := hide_upd hO
        refine stores_of hO (RepP.same sm t) upd_same ((rep_put re r.1 hk r.2).same sm) (k1.put rfl k2) e fun H3 h3 tt => q H3 (fun c hc => by rw [h3 c hc, upd_ne hc]) tt
      · cases e
    · cases e
def eDisp (gs : DEnv → Option (List (D × D))) : DE1 := fun ρ => (gs ρ).bind fun ps => (storeD ps []).map .dic
theorem df_disp {pos : Pos} {keys : List (Option Expr)} {values : List Expr} {gs : DEnv → Option (List (D × D))} (hu : X.A.units + 64 < cLine) (h : DPs X pos keys values gs) (hall : keys.all (·.isSome) = true := by rfl) (hl : keys.length = values.length := by rfl) (h0 : keys ≠ [] := by exact fun z => nomatch z) (h15 : keys.length ≤ 15 := by decide) :
    DF X (.Dict keys values pos) (eDisp gs) := by
  obtain ⟨trs, hp, t⟩ := h
  refine PE.imp (DK.pe_tdisp hu hp hall hl h0 h15) fun σ H Q ⟨O0, ow, ρ, S, d, e, k⟩ => ?_
  unfold eDisp at e
  simp only [Option.bind_eq_some_iff, Option.map_eq_some_iff] at e
  obtain ⟨ps, e1, ds, e2, rfl⟩ := e
  intro p o np
  refine t _ _ _ ⟨_, ow, ρ, S.fresh np, ps, e1, fun vs H2 s2 rp => ?_⟩
  have hp2 := s2 _ _ (upd_same (H := H) (a := p))
  refine stores_of (O := hid (fun b => O0 b ∨ b = p) ow) (.inl (.inr rfl)) rp hp2 .nil (b := true) ⟨List.nodup_nil, fun _ z => nomatch z⟩ e2 fun H3 h3 tt => k p H3 (fun c u hc => ?_) np (tt.same (hide_sub fun c z => ?_) rfl)
  · have hcp : c ≠ p := fun z => by subst z; rw [np] at hc; cases hc
    rw [h3 c hcp]
    exact s2 _ _ (same_upd np _ _ hc)
  · rcases z with (z | z) | z
    · exact .inl (.inl z)
    · exact .inr z
    · exact .inl (.inr z)
end
end DL

set_option maxHeartbeats 4000000
namespace DL
open PySem PySem.Spec PyProof.Rows L2
variable [CT]
/-! ### len of a dict -/
section
variable {X : Cx}
def rTLen (X : Cx) : List V → Hp → VK → Prop := fun xs H Q => ∃ p o es, xs = [.ref p] ∧ H p = some (DK.tab p o es) ∧ es.length ≤ 1000 ∧ (es.map (·.1)).Nodup ∧ (∃ b, ∀ pins σ s, L2.Inv X pins σ H s → DK.Ks b s.heap es) ∧ Q (.int es.length) H
theorem call_lenT : CallR X (.builtin "len") (rTLen X) := fun pins s σ H xs us Q I r ⟨p, o, es, hx, e, hz, hn, ⟨b, hk⟩, q⟩ => by
  subst hx
  obtain ⟨u, rfl, ru⟩ := vals1 r
  cases DK.ref_of ru
  have t := DK.tab_at I (.inl e)
  have T := hk _ _ _ I
  cases b with
  | true =>
    obtain ⟨vs, dd, rel⟩ := DK.dictOf (P := X.prog) (w := X.w) t T.flat hn
    have n : vs.length = es.length := by rw [← rel.length]; unfold DK.okv; rw [List.length_map]
    exact call_len_dict t.2.1 dd (by rw [n]; omega) ⟨.int es.length, H, I.tok _, ⟨_, by rw [n]⟩, q⟩
  | false =>
    obtain ⟨ys, dd, rel⟩ := DK.dictOfH (P := X.prog) (w := X.w) t T hn
    have n : ys.length = es.length := (Paired.length rel).symm
    exact call_len_dictH t.2.1 dd (by rw [n]; omega) ⟨.int es.length, H, I.tok _, ⟨_, by rw [n]⟩, q⟩
def gLenD : List D → Option D
  | [.dic ds] => if ds.length ≤ 1000 then some (.int ds.length) else none
  | _ => none
theorem cd_lenD : CallD X (.builtin "len") gLenD := ⟨_, call_lenT, fun O H xs ds d Q r e k _ => by
  unfold gLenD at e
  split at e
  · split at e
    · rename_i kvs hz
      cases e
      obtain ⟨v, rfl, h⟩ := r.one
      obtain ⟨p, o, es, b, rfl, hp, re, kq⟩ := h.dic
      have n := repE_len re
      exact ⟨p, o, es, rfl, hp, by omega, kq.nd, ⟨b, fun pins σ s I => ents_ks I hide_le re kq.kind⟩, k _ _ (.refl _) (by rw [n]; exact .int _)⟩
    · cases e
  · cases e⟩
end

/-! ### list(d) -/
section
variable {X : Cx}
theorem paired_at {α β : Type} {F : α → β → Prop} : ∀ {as : List α} {bs : List β}, as.length = bs.length → (∀ (i : Nat) (a : α) (b : β), as[i]? = some a → bs[i]? = some b → F a b) → Paired F as bs
  | [], [], _, _ => .nil
  | [], _ :: _, h, _ => by simp at h
  | _ :: _, [], h, _ => by simp at h
  | a :: as, b :: bs, h, k => .cons (k 0 a b rfl rfl) (paired_at (by simpa using h) fun i x y hx hy => k (i + 1) x y (by simpa using hx) (by simpa using hy))
theorem call_listT (hc : X.calm = true) : CallR X (.type "list") (fun xs H Q => ∃ p o es, xs = [.ref p] ∧ H p = some (DK.tab p o es) ∧ ∀ q, H q = none → Q (.ref q) (upd H q (.lst (es.map (·.2.1))))) := fun pins s σ H xs us Q I r ⟨p, o, es, hx, e, q⟩ => by
  subst hx
  obtain ⟨u, rfl, ru⟩ := vals1 r
  cases DK.ref_of ru
  have t := DK.tab_at I (.inl e)
  have hz : es.length ≤ sizeLine := t.1
  obtain ⟨ds, ep, l⟩ := DK.tab_lies t
  refine PySem.W.kdl_call (kdl_raw l.sys l.exact l.data) (I.ok.hd hc) l.obj (by rw [l.size]; exact hz) fun h' tk acc c kp g it => ?_
  have rv : Vals (es.map (·.2.1)) acc.toList := by
    have n1 : acc.size = ds.size := it.1
    have n2 : acc.toList.length = acc.size := Array.length_toList
    have n3 := l.size
    refine paired_at (by rw [List.length_map]; omega) fun i x v hx hv => ?_
    rw [List.getElem?_map] at hx
    obtain ⟨en, he, rfl⟩ := Option.map_eq_some_iff.mp hx
    obtain ⟨dn, hd, rfl⟩ := it.2 i v (by rw [← Array.getElem?_toList]; exact hv)
    obtain ⟨hi, k⟩ := l.row i en he
    rw [Array.getElem?_eq_getElem hi] at hd
    cases hd
    exact k.2.1
  refine ⟨.ref s.heap.objs.size, _, I.laid (t' := tk) (o := .lst (es.map (·.2.1))) kp (Nat.le_refl _) ⟨by rw [List.length_map]; exact hz, acc.toList, c, rv, by rw [Array.toArray_toList]; exact g⟩, rfl, q _ (I.hok.fresh (Nat.le_refl _))⟩
def gListD : List D → Option D
  | [.dic ds] => if ds.length ≤ 1000 then some (.lst (ds.map (·.1))) else none
  | _ => none
theorem repE_fst {K : PySem.W.Frag} {H : Hp} : ∀ {es : List DK.Ent} {ds : List (D × D)}, RepE K H es ds → Reps K H (es.map (·.2.1)) (ds.map (·.1))
  | _, _, .nil => .nil
  | _, _, .cons _ r _ t => .cons r (repE_fst t)
theorem cf_listD (hc : X.calm = true) : CallF X (.type "list") gListD := ⟨_, call_listT hc, fun O H xs ds d Q r e k _ => by
  unfold gListD at e
  split at e
  · split at e
    · rename_i kvs hz
      cases e
      obtain ⟨v, rfl, h⟩ := r.one
      obtain ⟨p, o, es, b, rfl, hp, re, kq⟩ := h.dic
      refine ⟨p, o, es, rfl, hp, fun q nq => k q _ (same_upd nq) nq (.lst upd_same (fresh_reps nq (repE_fst re)))⟩
    · cases e
  · cases e⟩
end
end DL

set_option maxHeartbeats 4000000
/-! comprehensions that make tables -/
namespace DK
open PySem PySem.Spec PyProof.Rows L2
/-- what is asked of a key before it is stored, whatever the block -/
def AskA (K : PySem.W.Frag) (es : List Ent) (k : NestedKey) (y : V) (H : Hp) : Prop := (es.map (·.1)).Nodup ∧ ∃ b, ∀ (X : Cx) pins σ s, X.K = K → L2.Inv X pins σ H s → Ks b s.heap es ∧ K1 b s.heap k y
/-- the turns of the walk store pairs in the table at D -/
def tTc (K : PySem.W.Frag) (wi : TI) (g : TG) (tt : TT) (tk tv : TE) (vs : List Nat) : TE := fun σ H Q => wi σ H fun J H1 => ∀ D o0, H1 D = none → ∃ W : Nat → Nat → Hp → Prop, (∃ m, W 0 m (upd H1 D (tab D o0 []))) ∧
  ∀ i m H, W i m H → (J.stop i H ∧ Q (.ref D) H) ∨ (J.go i H ∧ ∃ Nx : Hp → Prop, (∀ H', Nx H' → ∃ m', m' < m ∧ W (i + 1) m' H') ∧
    ∀ x H', J.yld i H x H' → g x (wipe σ vs) H' fun σ2 H2 => wipe σ2 vs = wipe σ vs ∧ tt σ2 H2 fun b H3 => if b = true then tk σ2 H3 fun y H4 => tv σ2 H4 fun z H5 =>
      ∃ o es k, H5 D = some (tab D o es) ∧ AskA K es k y H5 ∧ es.length < sizeLine ∧ ∀ o', Nx (upd H5 D (tab D o' (putE es k y z))) else Nx H3)
section
variable {X : Cx}
abbrev Blks (X : Cx) (scope : Scope) (F : Cx → Prop) : Prop := ∀ (s : Shared) (H : Hp) (C : Addr) (cl : List (Str × Addr)) (fp : List Addr), F (X.blk s H scope (compEnvC scope cl C X.env) fp)
theorem tc_core {pins : List (Addr × Obj)} {s : Shared} {σ : L2.St} {H : Hp} {Q : VK} {kx vx tg iter : Expr} {ifs : List Expr} {scope : Scope} {own : List (Str × Nat)} {pos pos' : Pos} {wi : TI} {g : TG} {tt : TT} {tk tv : TE} {use : Option (Value → Sem Unit)} {Qf : Value → Shared → Prop}
    (hu : X.A.units + 9 < cLine) (hc : X.calm = true) (hN : X.N.Nodup) (I : L2.Inv X pins σ H s) (hi : PI X tg iter wi) (ok : BlkOk X.N X.env.scope scope own)
    (hg : Blks X scope fun Y => PG Y tg g) (ht : Blks X scope fun Y => PTs Y ifs tt) (hk : Blks X scope fun Y => PE Y kx tk) (he : Blks X scope fun Y => PE Y vx tv)
    (hs : ∀ x, foldedSetIterable iter X.env x = pure x) (h : tTc X.K wi g tt tk tv (own.map (·.2)) σ H Q)
    (hE : ∀ D C s' m H', L2.Inv X pins σ H' s' → Q (.ref D) H' → s'.heap.Ns C m → FpOk X pins H' C → compPost (model X.prog X.w) X.A X.xe use Qf (.ref D) C (.ok .next) s') :
    wpAny (model X.prog X.w) X.A (comprehension (.DictComp kx vx [⟨tg, iter, ifs, 0⟩] scope pos) scope X.env pos' newDict false (eval iter X.env) use) Qf X.xe s := by
  have free : ∀ y ∈ scope.names, y.2 = .free → ∃ c, X.env.cells.lookup y.1 = some c := fun y hy e => (ok.free y hy e).elim (fun z => I.ok.has _ (.inl z)) fun z => I.ok.has _ (.inr z)
  refine wpAny_comprehension_free (use := use) rfl hs (closure_ok free) ok.kind (fun y hy e => by rw [ok.uniq y hy, e]) (thn (hi.run pins s σ H _ I h) fun xv s1 hx => thn hx fun itv s2 h2 => ?_)
  obtain ⟨it, fp, tn, J, H2, e, I2, T, st2, f2, q⟩ := h2
  subst e
  refine wpAny_newObj_type (newEnv_comp ?_)
  generalize hD : s2.heap.objs.size = D
  have nD : H2 D = none := I2.hok.fresh (Nat.le_of_eq hD)
  obtain ⟨W, ⟨m0, w0⟩, turn⟩ := q D { cls := .type "dict", data := .dict #[] } nD
  generalize e3 : ({ s2 with heap := s2.heap.push { cls := .type "dict", data := .dict #[] } } : Shared) = s3
  generalize eH3 : upd H2 D (tab D { cls := .type "dict", data := .dict #[] } []) = H3 at w0
  have I3 : L2.Inv X pins σ H3 s3 := by
    subst e3 eH3 hD
    exact I2.laid (t' := s2.toks) (fun _ _ z => Heap.get?_push_of_some _ z) (Nat.le_refl _) (tab_obj (tab_empty s2.heap I2.big))
  have h3 : s3.heap = s2.heap.push { cls := .type "dict", data := .dict #[] } := by rw [← e3]
  have f3 : ∀ b ∈ fp, FpOk X pins H3 b ∧ b < s3.heap.objs.size := fun b hb => by
    obtain ⟨o, ho, _⟩ := T.obj _ _ st2 b hb
    have lt := Heap.lt_size ho
    refine ⟨⟨?_, (f2 b hb).2⟩, by rw [h3, Heap.size_push]; exact Nat.lt_succ_of_lt lt⟩
    rw [← eH3, upd_ne (by rw [← hD]; exact Nat.ne_of_lt lt)]
    exact (f2 b hb).1
  have st3 : tn 0 s3.heap := T.keep _ _ _ st2 fun b _ o z => by rw [h3]; exact Heap.get?_push_of_some _ z
  have I4 := block_start I3 ok hN f3
  generalize ecl : cellsFrom (s3.heap.objs.size + 1) scope.names (cloFrom X.env.cells scope.names []) = cl at I4
  have pg := hg s3 H3 s3.heap.objs.size cl fp
  have pt := ht s3 H3 s3.heap.objs.size cl fp
  have pk := hk s3 H3 s3.heap.objs.size cl fp
  have pv := he s3 H3 s3.heap.objs.size cl fp
  show codeAny _ _ (.compStart (.DictComp kx vx [⟨tg, iter, ifs, 0⟩] scope pos) 0 (.ref it) (.ref D) (compEnvC scope cl s3.heap.objs.size X.env)) (compPost (model X.prog X.w) X.A X.xe use Qf (.ref D) s3.heap.objs.size) { s3 with heap := pushCells (s3.heap.push { cls := .type "dict", data := .dict #[] }) scope.names }
  generalize ece : compEnvC scope cl s3.heap.objs.size X.env = ce at I4 pg pt pk pv ⊢
  have cL : ce.locals = s3.heap.objs.size := by subst ece; rfl
  generalize e4 : ({ s3 with heap := pushCells (s3.heap.push { cls := .type "dict", data := .dict #[] }) scope.names } : Shared) = s4 at I4 ⊢
  have st4 : tn 0 s4.heap := T.keep _ _ _ st3 fun b _ o z => by rw [← e4]; exact pushCells_keeps _ _ _ _ (Heap.get?_push_of_some _ z)
  generalize eY : X.blk s3 H3 scope ce fp = Y at I4 pg pt pk pv
  have still : ∀ {σ' : L2.St} {H' : Hp} {s' : Shared}, L2.Inv Y [] σ' H' s' → (∀ b ∈ fp, H' b = none) → ∀ b ∈ fp, FpOk Y [] H' b := by
    subst eY
    exact fun {σ' H' s'} I' hn b hb => ⟨hn b hb, (I'.ok.exf b hb).1, I'.ok.exfs b hb, .inl hb, fun x c z => (I'.ok.exf b hb).2 x c z, fun p hp => absurd (show p ∈ ([] : List (Addr × Obj)) ++ [] from hp) (by simp)⟩
  have loop : codeAny (model X.prog X.w) X.A (.compLoop (.DictComp kx vx [⟨tg, iter, ifs, 0⟩] scope pos) 0 (.ref it) (.ref D) ce) (compPost (model X.prog X.w) X.A X.xe use Qf (.ref D) s3.heap.objs.size) s4 := by
    refine compLoop_anyD (fun n s' => ∃ i H', L2.Inv Y [] (wipe σ (own.map (·.2))) H' s' ∧ tn i s'.heap ∧ (∀ b ∈ fp, H' b = none) ∧ W i n H') ?_ m0 ⟨0, H3, I4, st4, fun b hb => (f3 b hb).1.1, w0⟩
    rintro n s5 ⟨i, H5, I5, st5, n5, w5⟩
    rcases turn i n H5 w5 with ⟨stop, qq⟩ | ⟨go, Nx, hNx, step⟩
    · have td := T.done Y (by subst eY; rfl) (by subst eY; rfl) (by subst eY; rfl) (by subst eY; exact hc) i [] s5 _ H5 (fun _ _ => False) I5 (still I5 n5) st5 stop
      subst eY
      refine thnF td fun r s6 ⟨hr, I6⟩ => ?_
      subst hr
      have I7 : L2.Inv X pins σ H5 s6 := I3.call' (ch := fp) I6.os I6.base I6.hok I6.bare fun b hb => ⟨(f3 b hb).1.2.2.2.1, (f3 b hb).1.2.1, (f3 b hb).1.2.2.2.2.1, (f3 b hb).1.2.2.2.2.2⟩
      have nC : H5 s3.heap.objs.size = none := by rw [← cL]; exact I6.free
      obtain ⟨m, hn, _⟩ := I6.loc
      have hn : s6.heap.Ns s3.heap.objs.size m := by rw [← cL]; exact hn
      exact hE D s3.heap.objs.size s6 m H5 I7 qq hn (I3.fpOk (Nat.le_refl _) nC)
    · have ti := T.item Y (by subst eY; rfl) (by subst eY; rfl) (by subst eY; rfl) (by subst eY; exact hc) i [] s5 _ H5 (fun _ _ => False) I5 (still I5 n5) st5 go
      subst eY
      refine thnF ti fun r s6 ⟨u, hr, h6⟩ => ?_
      subst hr
      refine thnF h6 fun _ s7 ⟨x, H7, I7, r7, y7, st7, n7⟩ => ?_
      refine thnF (pg.run _ s7 _ H7 x u _ (I7.pinned (still I7 n7) (T.obj _ _ st7)) r7 (step x H7 y7)) fun _ s8 ⟨σ8, H8, I8, hw8, q8⟩ => ?_
      refine thnF (pt.run _ s8 σ8 H8 _ I8 q8) fun b s9 ⟨H9, I9, q9⟩ => ?_
      have fin : ∀ {s' : Shared} {H' : Hp}, L2.Inv (X.blk s3 H3 scope ce fp) ([] ++ pinsAt fp s7.heap) σ8 H' s' → Nx H' → ∃ m, m < n ∧ ∃ i H', L2.Inv (X.blk s3 H3 scope ce fp) [] (wipe σ (own.map (·.2))) H' s' ∧ tn i s'.heap ∧ (∀ b ∈ fp, H' b = none) ∧ W i m H' := fun {s' H'} I' nx => by
        obtain ⟨m', hm, w'⟩ := hNx H' nx
        have pin : ∀ b ∈ fp, ∀ o, s7.heap.get? b = some o → s'.heap.get? b = some o ∧ H' b = none := fun b hb o z =>
          have y := I'.pin (b, o) (List.mem_append_right _ (List.mem_append_right _ (mem_pinsAt hb z)))
          ⟨y.1, y.2.1⟩
        have hl : (wipe σ (own.map (·.2))).length = σ8.length := by rw [← hw8, wipe_length]
        refine ⟨m', hm, i + 1, H', (I'.unpinned (pins := [])).weak hl (fun j v z => ?_), T.keep _ _ _ st7 fun b hb o z => (pin b hb o z).1, fun b hb => ?_, w'⟩
        · rw [← hw8] at z
          exact (wipe_some z).1
        · obtain ⟨o, z, _⟩ := T.obj _ _ st7 b hb
          exact (pin b hb o z).2
      cases b with
      | false =>
        simp only [Bool.false_eq_true, if_false] at q9 ⊢
        exact fin I9 q9
      | true =>
        simp only [if_true] at q9 ⊢
        refine thnF (pk.run _ s9 σ8 H9 _ I9 q9) fun z s10 ⟨yk, H10, I10, r10, q10⟩ => ?_
        refine thnF (pv.run _ s10 σ8 H10 _ I10 q10) fun z2 s11 ⟨yv, H11, I11, r11, o, es, k, hD11, ⟨nd, b, ask⟩, hz, nx⟩ => ?_
        obtain ⟨T1, kk⟩ := ask (X.blk s3 H3 scope ce fp) _ _ _ rfl I11
        exact t_dset (X := X.blk s3 H3 scope ce fp) hu I11 hD11 T1 nd kk r10 r11 hz fun s12 o' I12 => fin I12 (nx o')
  exact codeAny_compStart_dict loop (T.self X.A 0 _ _ _ st4 loop)
theorem pe_tc {kx vx tg iter : Expr} {ifs : List Expr} {scope : Scope} {own : List (Str × Nat)} {pos : Pos} {wi : TI} {g : TG} {tt : TT} {tk tv : TE} (hu : X.A.units + 9 < cLine) (hc : X.calm = true) (hN : X.N.Nodup) (hi : PI X tg iter wi) (ok : BlkOk X.N X.env.scope scope own)
    (hg : Blks X scope fun Y => PG Y tg g) (ht : Blks X scope fun Y => PTs Y ifs tt) (hk : Blks X scope fun Y => PE Y kx tk) (he : Blks X scope fun Y => PE Y vx tv) (hs : ∀ x, foldedSetIterable iter X.env x = pure x := by intro _; rfl) :
    PE X (.DictComp kx vx [⟨tg, iter, ifs, 0⟩] scope pos) (tTc X.K wi g tt tk tv (own.map (·.2))) := ⟨fun pins s σ H Q I h => by
  rw [arm_eval_DictComp]
  refine tc_core hu hc hN I hi ok hg ht hk he hs h fun D C s' m H' I' q hn f => ⟨m, hn, fun h'' sb => ?_⟩
  obtain ⟨a0, a1, a2, a3, a4, a5⟩ := f
  exact ⟨.ref D, H', I'.turned (t' := s'.toks) (fun b o hb z => (sb.2 b hb).trans z) a0 a1 a3 a4 a5, rfl, q⟩⟩
/-- a name that gets the table on its own line -/
theorem ps_tc {i : Nat} {y : Str} {py : Pos} {kx vx tg iter : Expr} {ifs : List Expr} {scope : Scope} {own : List (Str × Nat)} {pos spos : Pos} {wi : TI} {g : TG} {tt : TT} {tk tv : TE} (hu : X.A.units + 9 < cLine) (hc : X.calm = true) (hN : X.N.Nodup) (hy : X.N[i]? = some y) (hyl : X.env.scope.names.lookup y = some .local)
    (hsw : swapsWith (.DictComp kx vx [⟨tg, iter, ifs, 0⟩] scope pos) (some (.Name y py)) spos.line X.env = pure true) (hi : PI X tg iter wi) (ok : BlkOk X.N X.env.scope scope own)
    (hg : Blks X scope fun Y => PG Y tg g) (ht : Blks X scope fun Y => PTs Y ifs tt) (hk : Blks X scope fun Y => PE Y kx tk) (he : Blks X scope fun Y => PE Y vx tv) (hs : ∀ x, foldedSetIterable iter X.env x = pure x := by intro _; rfl) :
    PS X (.Assign [.Name y py] (.DictComp kx vx [⟨tg, iter, ifs, 0⟩] scope pos) spos) (tAsg (tTc X.K wi g tt tk tv (own.map (·.2))) (gName i)) := ⟨fun pins s σ H N I h => by
  rw [exec_Assign_Name_used _ _ _ _ hsw]
  refine wpAny_bind (wpAny_standAt (wpAny_bind ?_))
  show wpAny _ X.A (do let _ ← comprehension (.DictComp kx vx [⟨tg, iter, ifs, 0⟩] scope pos) scope X.env (firstIterPos [⟨tg, iter, ifs, 0⟩] pos) newDict false (eval iter X.env) (some (assign (.Name y py) X.env))) _ _ s
  have h : tTc X.K wi g tt tk tv (own.map (·.2)) σ H (fun x H1 => gName i x σ H1 N.nx) := h
  refine wpAny_bind (thn (tc_core (Qf := fun _ s' => SP X pins N .next s') hu hc hN I hi ok hg ht hk he hs h fun D C s' m H' I' q hn f => ?_) fun _ s' hq => wpAny_pure (wpAny_pure hq))
  show wpAny _ _ (assign (.Name y py) X.env (.ref D)) _ _ _
  refine wpAny_assign_Name (store_ok2 (v := V.ref D) I' hN hy (.inl hyl) rfl (fun s2 I2 ⟨a, sb, ha⟩ => ?_) (.inr hyl))
  obtain ⟨a0, a1, a2, a3, a4, a5⟩ := f
  have ne : C ≠ a := by
    rcases ha with z | z
    · rw [z]; exact a1
    · exact fun w => a4 y a z w.symm
  exact ⟨m, hn.sameBut sb ne, fun h3 sb3 => ⟨_, H', I2.turned (t' := s2.toks) (fun b o hb z => (sb3.2 b hb).trans z) a0 a1 a3 a4 a5, q⟩⟩⟩
end
theorem sw_dc {kx vx : Expr} {gs : List Comprehension} {scope : Scope} {pos py : Pos} {y : Str} {l : Nat} {env : Env} (hk : env.scope.kind = .function) (hy : env.scope.names.lookup y = some .local) (hl : (py.line == pos.line) = true)
    (ha : (scope.names.any fun (n, k) => n == y && (k == .local || k == .cell)) = false) : swapsWith (.DictComp kx vx gs scope pos) (some (.Name y py)) l env = pure true := by
  have ky : env.kindOf y = some .local := hy
  have hb : env.blockKind = .function := by unfold Env.blockKind; rw [hk]; rfl
  unfold swapsWith
  simp only [hb, ky, ha, Expr.pos, hl]
  rfl
end DK

set_option maxHeartbeats 4000000
namespace DL
open PySem PySem.Spec PyProof.Rows L2
variable [CT]
theorem _root_.L2.Room.units5 {k : Nat} {A : Around} (r : Room k A) : A.units + 65 < cLine := by have := r.un; omega
/-! ### x in l -/
section
variable {X : Cx}
def gInL (neg : Bool) : D → D → Option D
  | x, .lst ys => (toPy x).bind fun a => (toPys ys).bind fun bs => if SeqAt.shaped a && SeqAt.shaped (.list bs) then some (.bl (neg != bs.any fun z => PyData.eqv z a)) else none
  | _, _ => none
theorem gInL_some {neg : Bool} {x y d : D} (e : gInL neg x y = some d) : ∃ ys a bs, y = .lst ys ∧ toPy x = some a ∧ toPys ys = some bs ∧ SeqAt.shaped a = true ∧ SeqAt.shaped (.list bs) = true ∧ d = .bl (neg != bs.any fun z => PyData.eqv z a) := by
  unfold gInL at e
  split at e
  · rename_i ys
    simp only [Option.bind_eq_some_iff] at e
    obtain ⟨a, ea, bs, eb, e⟩ := e
    split at e
    · rename_i h
      rw [Bool.and_eq_true] at h
      cases e
      exact ⟨ys, a, bs, rfl, ea, eb, h.1, h.2, rfl⟩
    · cases e
  · cases e
theorem od_inL (hu : X.A.units + 65 < cLine) : OpD X (compareOp .In) (gInL false) := ⟨_, op_inD hu, fun O H x y p q d Q hx hy e c _ => by
  obtain ⟨ys, a, bs, rfl, ea, eb, h1, h2, rfl⟩ := gInL_some e
  exact ⟨a, bs, hx.dp hide_le ea, hy.dp hide_le (by simp [toPy, eb]), h1, h2, c _ _ (.refl _) (by simpa using Rep.bl _)⟩⟩
theorem od_notInL (hu : X.A.units + 65 < cLine) : OpD X (compareOp .NotIn) (gInL true) := ⟨_, op_notInD hu, fun O H x y p q d Q hx hy e c _ => by
  obtain ⟨ys, a, bs, rfl, ea, eb, h1, h2, rfl⟩ := gInL_some e
  exact ⟨a, bs, hx.dp hide_le ea, hy.dp hide_le (by simp [toPy, eb]), h1, h2, c _ _ (.refl _) (by simpa using Rep.bl _)⟩⟩
end
/-! ### l[::-1] -/
section
variable {X : Cx} {e o a : Expr} {es : List Expr} {f : DE1} {fs gs : DEnv → Option (List D)} {pos : Pos}
theorem Reps.rev {K : PySem.W.Frag} {H : Hp} : ∀ {vs : List V} {ds : List D}, Reps K H vs ds → Reps K H vs.reverse ds.reverse
  | _, _, .nil => .nil
  | _, _, .cons r t => by
    rw [List.reverse_cons, List.reverse_cons]
    exact (Reps.rev t).append (.cons r .nil)
def eRv (f : DE1) : DE1 := fun ρ => match f ρ with
  | some (.lst xs) => some (.lst xs.reverse)
  | _ => none
theorem df_rev {k : Nat} {p1 p2 p3 : Pos} (he : DE X e f) : DF X (.Subscript e (.Slice none none (some (.UnaryOp .USub (.Constant (.int 1) k p1) p2)) p3) pos) (eRv f) := PE.imp (pe_revL he) fun σ H Q ⟨O0, ow, ρ, S, d, e, k⟩ => by
  unfold eRv at e
  split at e
  · rename_i xs ef
    cases e
    refine ⟨O0, ow, ρ, S, _, ef, fun v H1 s1 r1 => ?_⟩
    cases r1 with
    | lst ha rs => exact ⟨_, _, rfl, SqL.of (hide_le _ _ ha), fun p np => k p _ (s1.trans (same_upd np)) (Same.free s1 np) (.lst upd_same (fresh_reps np rs.rev))⟩
  · cases e
/-! ### list(d.values()) -/
def tVw (te : TE) : TE := fun σ H Q => te σ H fun x H1 => ∃ d o es, x = .ref d ∧ H1 d = some (DK.tab d o es) ∧ ∀ p, H1 p = none → Q (.ref p) (upd H1 p (viewO "dict_values" p d))
theorem pe_vw {te : TE} {ap cp : Pos} (he : PE X e te) (hbase : attributeBase e "values" X.env (eval e X.env) = eval e X.env := by rfl) (hline : (ap.endLine == cp.line) = true := by rfl) :
    PE X (.Call (.Attribute e "values" ap) [] [] cp) (tVw te) := ⟨fun pins s σ H Q I h =>
  wpAny_Call_method (T := "dict") (id := "dict.values") hbase rfl hline F.plainAttrs_dict F.slot_dict_values F.type_dict_values (thn (he.run pins s σ H _ I h) fun u s1 ⟨x, H1, I1, rx, d, o, es, ex, hd, q⟩ => by
  subst ex
  cases DK.ref_of rx
  obtain ⟨ds, ep, l⟩ := DK.tab_lies (DK.tab_at I1 (.inl hd))
  refine ⟨l.raw.typeIs, fun b z => by cases z; exact ⟨o, l.obj, l.exact.2.1⟩, ?_⟩
  refine (show wpAny _ _ (callWith cp (.builtin "dict.values") [.ref d] [] []) _ X.xe s1 from method_meetsIn F.slot_dict_values F.entry_dict_values rfl (PySem.evalArgs_none ⟨rfl, l.raw.typeIs, F.args_dict_values_1 _, _, meets_dict_values_raw d l.sys, ⟨⟨ds, ep, l.raw⟩, ?_⟩⟩))
  exact ⟨.ref s1.heap.objs.size, _, I1.laid (t' := s1.toks) (fun b o q => Heap.get?_push_of_some _ q) (Nat.le_refl _) (viewO_ok (T := "dict_values") (d := d) (Heap.get?_push_size _ rfl)), rfl, q _ (I1.hok.fresh (Nat.le_refl _))⟩)⟩
theorem call_listV (hc : X.calm = true) : CallR X (.type "list") (fun xs H Q => ∃ p d o es, xs = [.ref p] ∧ H p = some (viewO "dict_values" p d) ∧ H d = some (DK.tab d o es) ∧ ∀ q, H q = none → Q (.ref q) (upd H q (.lst (es.map (·.2.2))))) := fun pins s σ H xs us Q I r ⟨p, d, o, es, hx, hp, e, q⟩ => by
  subst hx
  obtain ⟨u, rfl, ru⟩ := vals1 r
  cases DK.ref_of ru
  have hv : s.heap.get? p = some (DSub.viewOb "dict_values" d) := (show ObjOk X.prog X.w H s.heap p (viewO "dict_values" p d) from I.hok p _ hp).1
  have t := DK.tab_at I (.inl e)
  have hz : es.length ≤ sizeLine := t.1
  obtain ⟨ds, ep, l⟩ := DK.tab_lies t
  refine PySem.W.kdl_call (PySem.KdlSrc.rawValues (r := p) (d := d) (es := ds) (ep := ep)) (I.ok.hd hc) ⟨⟨_, hv, rfl, rfl⟩, l.raw⟩ (by rw [l.size]; exact hz) fun h' tk acc c kp g it => ?_
  have rv : Vals (es.map (·.2.2)) acc.toList := by
    have n1 : acc.size = ds.size := it.1
    have n2 : acc.toList.length = acc.size := Array.length_toList
    have n3 := l.size
    refine paired_at (by rw [List.length_map]; omega) fun i x v hx hv => ?_
    rw [List.getElem?_map] at hx
    obtain ⟨en, he, rfl⟩ := Option.map_eq_some_iff.mp hx
    obtain ⟨hi, hd⟩ := it.2 i v (by rw [← Array.getElem?_toList]; exact hv)
    obtain ⟨hj, k⟩ := l.row i en he
    rw [hd]
    exact k.2.2
  exact ⟨.ref s.heap.objs.size, _, I.laid (t' := tk) (o := .lst (es.map (·.2.2))) kp (Nat.le_refl _) ⟨by rw [List.length_map]; exact hz, acc.toList, c, rv, by rw [Array.toArray_toList]; exact g⟩, rfl, q _ (I.hok.fresh (Nat.le_refl _))⟩
def eVals (f : DE1) : DE1 := fun ρ => match f ρ with
  | some (.dic ds) => some (.lst (ds.map (·.2)))
  | _ => none
theorem repE_snd {K : PySem.W.Frag} {H : Hp} : ∀ {es : List DK.Ent} {ds : List (D × D)}, RepE K H es ds → Reps K H (es.map (·.2.2)) (ds.map (·.2))
  | _, _, .nil => .nil
  | _, _, .cons _ _ q t => .cons q (repE_snd t)
theorem df_vals {p ap cp : Pos} (hc : X.calm = true) (hg : Gl X "list") (hm : X.mg "list" = none) (he : DE X e f) (hbase : attributeBase e "values" X.env (eval e X.env) = eval e X.env := by rfl) (hline : (ap.endLine == cp.line) = true := by rfl)
    (hst : starEach [.Call (.Attribute e "values" ap) [] [] cp] X.env = (false, eval (.Call (.Attribute e "values" ap) [] [] cp) X.env) :: starEach [] X.env := by rfl) (hpl : (backTo pos (starEach [] X.env)).any (·.1) = false := by rfl) :
    DF X (.Call (.Name "list" p) [.Call (.Attribute e "values" ap) [] [] cp] [] pos) (eVals f) := PE.imp (pe_callTy (call_listV hc) hg hm (by decide +kernel) (pa_cons (pe_vw he hbase hline) pa_nil hst) (by decide) (by decide) hst hpl) fun σ H Q ⟨O0, ow, ρ, S, d, e, k⟩ => by
  unfold eVals at e
  split at e
  · rename_i ds ef
    cases e
    refine ⟨O0, ow, ρ, S, _, ef, fun v H1 s1 r1 => ?_⟩
    cases r1 with
    | dic ha rs kq =>
      rename_i tb oo ees bb
      have ha' := hide_le _ _ ha
      refine ⟨_, _, _, rfl, ha', fun p np => ?_⟩
      have s2 : Same H1 (upd H1 p (viewO "dict_values" p tb)) := same_upd np
      refine ⟨p, _, _, _, rfl, upd_same, s2 _ _ ha', fun q nq => k q _ ((s1.trans s2).trans (same_upd nq)) (Same.free (s1.trans s2) nq) (.lst upd_same (fresh_reps nq ((repE_snd rs).same (hide_same s2))))⟩
  · cases e
end
/-! ### methods, by the class of the object -/
section
variable {X : Cx} {e o a : Expr} {es : List Expr} {f : DE1} {fs gs : DEnv → Option (List D)} {pos : Pos}
abbrev MTab := List (Nat × (List D → Option D))
def eMth (tbl : MTab) (m : Str) (n : Nat) (dd : List D) (f : DE1) (fs : DEnv → Option (List D)) : DE1 := fun ρ => match f ρ with
  | some (.ins k flds) => match tbl.lookup k with
    | some F => if (flds.lookup m).isNone then (fs ρ).bind fun ds => if ds.length = n then F (.ins k flds :: (ds ++ dd)) else none else none
    | none => none
  | _ => none
/-- the methods of the classes in the table, the last parameters left at dd -/
def MthD (P : Program) (w : World) (K : PySem.W.Frag) (mg : Str → Option Value) (base : Heap) (lev : Nat) (m : Str) (n : Nat) (dd : List D) (tbl : MTab) : Prop := ∀ k F, tbl.lookup k = some F → ∃ lv g fd ps, lv ≤ lev ∧ Cls K (CT.ct k) ∧ Meth K (CT.ct k) m g ∧ FnOk P w K mg base CX0 lv g fd ps (spD K (n + dd.length + 1) F) ∧
  ∃ dvs ds, (∀ h, Reps K h dvs dd) ∧ Vals dvs ds ∧ Binds K fd ps ds
theorem de_mth {tbl : MTab} {m : Str} {n lev : Nat} {dd : List D} {apos : Pos} {pl : Sem Bool} (hM : MthD X.prog X.w X.K X.mg X.base lev m n dd tbl) (hr : Room lev X.A) (he : DE X o f) (ha : DA X (a :: es) fs)
    (hst : starEach (a :: es) X.env = (false, eval a X.env) :: starEach es X.env := by rfl) (hpl : (backTo pos (starEach es X.env)).any (·.1) = false := by rfl)
    (ht : eval (.Call (.Attribute o m apos) (a :: es) [] pos) X.env = (do
      let ov ← eval o X.env
      standAt apos.atName
      let (f, first) ← holding [ov] (getMethod ov m pl)
      callWith pos f first (backTo pos (starEach (a :: es) X.env)) (backToKw pos (keywordEach [] X.env))) := by rfl) :
    DE X (.Call (.Attribute o m apos) (a :: es) [] pos) (eMth tbl m n dd f fs) := ⟨fun pins s σ H Q I ⟨O0, ow, ρ, S, d, e, q⟩ => by
  unfold eMth at e
  split at e
  · rename_i k flds ef
    split at e
    · rename_i F hF
      split at e
      · rename_i hno
        simp only [Option.bind_eq_some_iff] at e
        obtain ⟨ds, efs, e⟩ := e
        split at e
        · rename_i hn
          obtain ⟨lv, g, fd, ps, hlv, cl, me, fn, dvs, dvals, rd, vd, hb⟩ := hM k F hF
          refine PySem.W.methodCall_KW (pl := pl) (thn (he.run pins s σ H (fun x H1 => Same H H1 ∧ Rep X.K (hide (hid O0 ow) H1) x (.ins k flds)) I ⟨O0, ow, ρ, S, _, ef, fun v H' s r => ⟨s, r⟩⟩) fun u s1 ⟨x, H1, I1, rx, s01, r1⟩ => ?_) ht
          have r1' := r1
          cases r1 with
          | ins hI rf =>
            rename_i a dx vs
            obtain rfl : u = Value.ref a := rx
            refine getmeth_ok I1 (hide_le _ _ hI) cl me (rf.none (Option.isNone_iff_eq_none.mp hno)) ?_
            refine PySem.W.callWith_K (first := [.ref a]) (h₀ := X.base) I.ok.mod.kin me.kp (thn (ha.run pos pins s1 σ H1 (fun vs H2 => Same H1 H2 ∧ Reps X.K (hide (hid O0 ow) H2) vs ds) I1 ⟨O0, ow, ρ, S.same s01, ds, efs, fun v H' s r => ⟨s, r⟩⟩) fun us s2 ⟨vs, H2, I2, r, s12, rs⟩ => ⟨I2.kIn, ?_⟩) hst hpl
            refine run_fn (us := .ref a :: us) (vs := .ref a :: vs) fn (hr.mono hlv) hb vd pass0 I2 (.cons rfl r) ?_
            have l1 := rs.length
            have l2 := (rd (fun _ => none)).length
            exact ⟨by simp only [List.cons_append, List.length_cons, List.length_append]; omega, hid O0 ow, _, (S.same (s01.trans s12)).trk, .cons (r1'.same (hide_same s12)) (rs.append (rd _)), d, e, fun v H' s r => q v H' ((s01.trans s12).trans s) r⟩
        · cases e
      · cases e
    · cases e
  · cases e⟩
def eMthK (tbl : MTab) (m : Str) (n mk : Nat) (f : DE1) (fs gs : DEnv → Option (List D)) : DE1 := fun ρ => match f ρ with
  | some (.ins k flds) => match tbl.lookup k with
    | some F => if (flds.lookup m).isNone then (fs ρ).bind fun ds => (gs ρ).bind fun es => if ds.length = n ∧ es.length = mk then F (.ins k flds :: (ds ++ es)) else none else none
    | none => none
  | _ => none
def MthK (P : Program) (w : World) (K : PySem.W.Frag) (mg : Str → Option Value) (base : Heap) (lev : Nat) (m : Str) (n : Nat) (ks : List Str) (tbl : MTab) : Prop := ∀ k F, tbl.lookup k = some F → ∃ lv g fd ps, lv ≤ lev ∧ Cls K (CT.ct k) ∧ Meth K (CT.ct k) m g ∧ FnOk P w K mg base CX0 lv g fd ps (spD K (n + ks.length + 1) F) ∧
  KBn K fd ps (n + 1) ks (fun us ws => us ++ ws) (fun vs zs => vs ++ zs)
theorem de_mthK {tbl : MTab} {m : Str} {n mk lev : Nat} {ks : List Str} {kws : List Keyword} {apos : Pos} {pl : Sem Bool} (hM : MthK X.prog X.w X.K X.mg X.base lev m n ks tbl) (hr : Room lev X.A) (he : DE X o f) (ha : DA X (a :: es) fs) (hkw : DK X kws gs) (hmk : ks.length = mk)
    (h1 : ((backToKw pos (keywordEach kws X.env)).all fun x => x.1.isSome) = true := by rfl) (h2 : (backToKw pos (keywordEach kws X.env)).filterMap (fun x => x.1) = ks := by rfl)
    (hst : starEach (a :: es) X.env = (false, eval a X.env) :: starEach es X.env := by rfl)
    (hpl : (((backTo pos (starEach (a :: es) X.env)).any (·.1)) || (backToKw pos (keywordEach kws X.env)).any fun x => x.1.isNone) = false := by rfl)
    (ht : eval (.Call (.Attribute o m apos) (a :: es) kws pos) X.env = (do
      let ov ← eval o X.env
      standAt apos.atName
      let (f, first) ← holding [ov] (getMethod ov m pl)
      callWith pos f first (backTo pos (starEach (a :: es) X.env)) (backToKw pos (keywordEach kws X.env))) := by rfl) :
    DE X (.Call (.Attribute o m apos) (a :: es) kws pos) (eMthK tbl m n mk f fs gs) := ⟨fun pins s σ H Q I ⟨O0, ow, ρ, S, d, e, q⟩ => by
  unfold eMthK at e
  split at e
  · rename_i k flds ef
    split at e
    · rename_i F hF
      split at e
      · rename_i hno
        simp only [Option.bind_eq_some_iff] at e
        obtain ⟨ds, efs, es', egs, e⟩ := e
        split at e
        · rename_i hn
          obtain ⟨lv, g, fd, ps, hlv, cl, me, fn, hb⟩ := hM k F hF
          refine PySem.W.methodCall_KW (pl := pl) (thn (he.run pins s σ H (fun x H1 => Same H H1 ∧ Rep X.K (hide (hid O0 ow) H1) x (.ins k flds)) I ⟨O0, ow, ρ, S, _, ef, fun v H' s r => ⟨s, r⟩⟩) fun u s1 ⟨x, H1, I1, rx, s01, r1⟩ => ?_) ht
          have r1' := r1
          cases r1 with
          | ins hI rf =>
            rename_i a dx vs
            obtain rfl : u = Value.ref a := rx
            refine getmeth_ok I1 (hide_le _ _ hI) cl me (rf.none (Option.isNone_iff_eq_none.mp hno)) ?_
            refine PySem.W.callWith_KW (first := [.ref a]) (h₀ := X.base) I.ok.mod.kin me.kp h1 (thn (ha.run pos pins s1 σ H1 (fun vs H2 => Same H1 H2 ∧ Reps X.K (hide (hid O0 ow) H2) vs ds) I1 ⟨O0, ow, ρ, S.same s01, ds, efs, fun v H' s r => ⟨s, r⟩⟩) fun us s2 ⟨vs, H2, I2, r, s12, rs⟩ => ?_) hpl hst
            refine thn (hkw.run pos pins s2 σ H2 (fun zs H3 => Same H2 H3 ∧ Reps X.K (hide (hid O0 ow) H3) zs es') I2 ⟨O0, ow, ρ, S.same (s01.trans s12), es', egs, fun v H' s r => ⟨s, r⟩⟩) fun ws s3 ⟨zs, H3, I3, rz, s23, rz'⟩ => ⟨I3.kIn, ?_⟩
            rw [h2]
            have l1 := rs.length
            have l2 := rz'.length
            refine run_fnN (us := .ref a :: us) (vs := .ref a :: vs) fn (hr.mono hlv) hb pass0 I3 (.cons rfl r) rz (by simp; omega) (by omega) ?_
            have s13 := s12.trans s23
            exact ⟨by simp only [List.cons_append, List.length_cons, List.length_append]; omega, hid O0 ow, _, (S.same (s01.trans s13)).trk, .cons (r1'.same (hide_same s13)) ((rs.same (hide_same s23)).append rz'), d, e, fun v H' s r => q v H' ((s01.trans s13).trans s) r⟩
        · cases e
      · cases e
    · cases e
  · cases e⟩
end
end DL

set_option maxHeartbeats 4000000
namespace DL
open PySem PySem.Spec PyProof.Rows L2
variable [CT]
/-! ### {k: v for .. in ..} -/
def compD (b : D → DEnv → Option DEnv) (t fk fv : DE1) (ρ : DEnv) : List D → List (D × D) → Option (List (D × D))
  | [], acc => some acc
  | d :: ds, acc => match b d ρ with
    | none => none
    | some ρ1 => match t ρ1 with
      | some (.bl true) => match fk ρ1, fv ρ1 with
        | some x, some z => match keyD x with
          | some k => if okKey acc k = true ∧ acc.length < 1000 then compD b t fk fv ρ ds (putDD acc x k z) else none
          | none => none
        | _, _ => none
      | some (.bl false) => compD b t fk fv ρ ds acc
      | _ => none
def eDc (it : DEnv → Option (List D)) (vs : List Nat) (b : D → DEnv → Option DEnv) (t fk fv : DE1) : DE1 := fun ρ => match it ρ with
  | some ds => if ds.length ≤ 1000 then (compD b t fk fv (wipeD ρ vs) ds []).map D.dic else none
  | none => none
theorem askedA {K : PySem.W.Frag} {O : Addr → Prop} {H : Hp} {es : List DK.Ent} {ds : List (D × D)} {b : Bool} {k : NestedKey} {y : V} {d : D} (r : RepE K (hide O H) es ds) (q : Keys b es) (o : okKey ds k = true) (ry : Rep K (hide O H) y d) (hk : keyD d = some k) : DK.AskA K es k y H := by
  obtain ⟨q', dp⟩ := q.ok r o
  exact ⟨q.nd, DK.flat k, fun X pins σ s e I => by subst e; exact ⟨ents_ks I hide_le r q'.kind, rep_k1 I hide_le ry hk dp⟩⟩
section
variable {X : Cx} {tg iter kx vx : Expr} {it : DEnv → Option (List D)} {b : D → DEnv → Option DEnv} {t fk fv : DE1} {is : List Nat} {pos : Pos}
theorem tTc_D {K : PySem.W.Frag} {vs : List Nat} (his : ∀ i ∈ is, i ∈ vs) : ∀ σ H Q, tDF K (eDc it vs b t fk fv) σ H Q → DK.tTc K (tDI K it) (tDG K is b) (tDT K t) (tDE K fk) (tDE K fv) vs σ H Q := fun σ H Q ⟨O0, ow, ρ, S, d, e, k⟩ => by
  unfold eDc at e
  cases ei : it ρ with
  | none => rw [ei] at e; cases e
  | some ds =>
    rw [ei] at e
    simp only at e
    split at e
    · rename_i hlen
      rw [Option.map_eq_some_iff] at e
      obtain ⟨out, ec, rfl⟩ := e
      refine ⟨O0, ow, ρ, S, ds, ei, fun J H1 s1 Wk Dd o0 nD => ?_⟩
      have SW := (S.same s1).wipe vs
      refine ⟨fun i m H => m = ds.length - i ∧ i ≤ ds.length ∧ Same H1 H ∧ ∃ o es acc bb, H Dd = some (DK.tab Dd o es) ∧ RepE K (hide (hid (fun b => O0 b ∨ b = Dd) ow) H) es acc ∧ Keys bb es ∧ compD b t fk fv (wipeD ρ vs) (ds.drop i) acc = some out,
        ⟨ds.length, by simp, Nat.zero_le _, same_upd nD, _, [], [], true, upd_same, .nil, ⟨List.nodup_nil, fun _ z => nomatch z⟩, ec⟩, ?_⟩
      rintro i m H2 ⟨rfl, hi, sm, o, es, acc, bb, hD, re, kq, er⟩
      have hsm : Same (hide (hid O0 ow) H1) H2 := Same.trans hide_le sm
      by_cases hlt : i < ds.length
      · obtain ⟨d, hd⟩ : ∃ d, ds[i]? = some d := ⟨_, List.getElem?_eq_getElem hlt⟩
        have hdr : ds.drop i = d :: ds.drop (i + 1) := by
          rw [List.getElem?_eq_getElem hlt] at hd; cases hd
          exact List.drop_eq_getElem_cons hlt
        rw [hdr] at er
        rw [compD] at er
        cases eb : b d (wipeD ρ vs) with
        | none => rw [eb] at er; cases er
        | some ρ1 =>
          rw [eb] at er
          refine .inr ⟨Wk.go i d H2 hsm hd, fun H' => i + 1 ≤ ds.length ∧ Same H1 H' ∧ ∃ o es acc bb, H' Dd = some (DK.tab Dd o es) ∧ RepE K (hide (hid (fun b => O0 b ∨ b = Dd) ow) H') es acc ∧ Keys bb es ∧ compD b t fk fv (wipeD ρ vs) (ds.drop (i + 1)) acc = some out,
            fun H' h' => ⟨_, by omega, rfl, h'⟩, fun x H3 y => ?_⟩
          obtain ⟨s3, rp⟩ := Wk.yld i d H2 x H3 hsm hd y
          have SM := SW.more sm nD ⟨_, hD⟩
          have rx := rp (hid (fun b => O0 b ∨ b = Dd) ow) (fun b z => by
            rcases z with (z | z) | z
            · exact .inl (.inl z)
            · subst z; exact .inr nD
            · exact .inl (.inr z)) SM.trk
          refine ⟨_, ow, _, d, SM.same s3, rx, ρ1, eb, fun σ2 S2 hw => ⟨(hw vs his).trans (wipe_wipe (fun _ h => h)), ?_⟩⟩
          simp only at er
          split at er
          · rename_i et
            refine ⟨_, ow, ρ1, S2, true, et, fun H4 s4 => iteT ?_⟩
            split at er
            · rename_i xk zv ek ev
              split at er
              · rename_i kk hkk
                split at er
                · rename_i ok
                  refine ⟨_, ow, ρ1, S2.same s4, xk, ek, fun v H5 s5 rk => ⟨_, ow, ρ1, S2.same (s4.trans s5), zv, ev, fun u H6 s6 rv => ?_⟩⟩
                  have s26 : Same H2 H6 := ((s3.trans s4).trans s5).trans s6
                  have re6 := re.same (hide_same s26)
                  have rk6 := rk.same (hide_same s6)
                  have hl := repE_len re
                  obtain ⟨k1, k2⟩ := kq.ok re ok.1
                  have hh : hid (fun b => O0 b ∨ b = Dd) ow Dd := .inl (.inr rfl)
                  refine ⟨o, es, kk, s26 _ _ hD, askedA re6 kq ok.1 rk6 hkk, by have := small1000' (n := es.length) (by omega); have := ok.2; unfold sizeLine at *; omega, fun o' => ⟨hlt, fun c q hc => ?_, o', _, _, _, upd_same, (rep_put re6 rk6 hkk rv).same (hide_upd hh), k1.put rfl k2, er⟩⟩
                  rw [upd_ne (ne_of_none hc nD)]
                  exact s26 _ _ (sm _ _ hc)
                · cases er
              · cases er
            · cases er
          · rename_i et
            refine ⟨_, ow, ρ1, S2, false, et, fun H4 s4 => iteF ?_⟩
            have s24 : Same H2 H4 := s3.trans s4
            exact ⟨hlt, sm.trans s24, o, es, acc, bb, s24 _ _ hD, re.same (hide_same s24), kq, er⟩
          · cases er
      · have e : i = ds.length := by omega
        subst e
        rw [List.drop_length, compD] at er
        cases er
        exact .inl ⟨Wk.stop H2 hsm, k Dd H2 (s1.trans sm) (Same.free s1 nD) (.dic hD (re.same (hide_sub fun c z => by
          rcases z with z | z
          · rcases z with z | z
            · exact .inl (.inl z)
            · exact .inr z
          · exact .inl (.inr z))) kq)⟩
    · cases e
theorem df_dc {scope : Scope} (own : List (Str × Nat)) (hu : X.A.units + 64 < cLine) (hc : X.calm = true) (hN : X.N.Nodup) (hi : DI X tg iter it) {ifs : List Expr} (ok : BlkOk X.N X.env.scope scope own)
    (hg : DK.Blks X scope fun Y => DG Y tg is b) (ht : DK.Blks X scope fun Y => DTs Y ifs t) (hk : DK.Blks X scope fun Y => DE Y kx fk) (he : DK.Blks X scope fun Y => DE Y vx fv)
    (his : ∀ i ∈ is, i ∈ own.map (·.2) := by decide) (hs : ∀ x, foldedSetIterable iter X.env x = pure x := by intro _; rfl) :
    DF X (.DictComp kx vx [⟨tg, iter, ifs, 0⟩] scope pos) (eDc it (own.map (·.2)) b t fk fv) := PE.imp (DK.pe_tc (g := tDG X.K is b) (tt := tDT X.K t) (tk := tDE X.K fk) (tv := tDE X.K fv) (by omega) hc hN hi ok hg ht hk he hs) (tTc_D his)
theorem ds_setDc (i : Nat) {y : Str} {py spos : Pos} {scope : Scope} (own : List (Str × Nat)) (hu : X.A.units + 64 < cLine) (hc : X.calm = true) (hN : X.N.Nodup) (hy : X.N[i]? = some y) (hyl : X.env.scope.names.lookup y = some .local) {ifs : List Expr}
    (hsw : swapsWith (.DictComp kx vx [⟨tg, iter, ifs, 0⟩] scope pos) (some (.Name y py)) spos.line X.env = pure true) (hi : DI X tg iter it) (ok : BlkOk X.N X.env.scope scope own)
    (hg : DK.Blks X scope fun Y => DG Y tg is b) (ht : DK.Blks X scope fun Y => DTs Y ifs t) (hk : DK.Blks X scope fun Y => DE Y kx fk) (he : DK.Blks X scope fun Y => DE Y vx fv)
    (his : ∀ i ∈ is, i ∈ own.map (·.2) := by decide) (hs : ∀ x, foldedSetIterable iter X.env x = pure x := by intro _; rfl) :
    DS X (.Assign [.Name y py] (.DictComp kx vx [⟨tg, iter, ifs, 0⟩] scope pos) spos) (gSet i (eDc it (own.map (·.2)) b t fk fv)) := PS.imp (DK.ps_tc (g := tDG X.K is b) (tt := tDT X.K t) (tk := tDE X.K fk) (tv := tDE X.K fv) (by omega) hc hN hy hyl hsw hi ok hg ht hk he hs) fun N σ H h => by
  have z := set_post (K := X.K) (i := i) (f := eDc it (own.map (·.2)) b t fk fv) N σ H h
  exact tTc_D his σ H _ (tDE_F σ H _ z)
end
/-! ### == of two dicts with flat keys -/
def flats (ds : List (D × D)) : Bool := ds.all fun p => (keyD p.1).map DK.flat == some true
def hitsD (ys : List (D × D)) : List (D × D) → Option Bool
  | [] => some true
  | (x, v) :: r => (keyD x).bind fun k => match lookD ys k with
    | none => some false
    | some w => (toPy v).bind fun a => (toPy w).bind fun c => if SeqAt.shaped a && SeqAt.shaped c then (hitsD ys r).map fun b => PyData.eqv a c && b else none
def eqDic (neg : Bool) : D → D → Option D
  | .dic xs, .dic ys => if flats xs && flats ys && decide (xs.length ≤ 1000) then
      (if xs.length = ys.length then (hitsD ys xs).map fun r => .bl (neg != r) else some (.bl neg)) else none
  | _, _ => none
section
variable {X : Cx} {pins : List (Addr × Obj)} {σ : L2.St} {H Hh : Hp} {s : Shared}
theorem flats_keys {K : PySem.W.Frag} {es : List DK.Ent} {ds : List (D × D)} {b : Bool} (r : RepE K Hh es ds) (kq : Keys b es) (f : flats ds = true) : Keys true es := by
  refine ⟨kq.nd, fun e he => ⟨?_, (kq.kind e he).2⟩⟩
  have hm : (some e.1) ∈ ds.map fun p => keyD p.1 := by rw [repE_keys r]; exact List.mem_map.mpr ⟨e, he, rfl⟩
  obtain ⟨p, hp, ep⟩ := List.mem_map.mp hm
  have := (List.all_eq_true.mp f) p hp
  rw [ep] at this
  simpa using this
theorem rep_flat {K : PySem.W.Frag} {v : V} {d : D} {k : NestedKey} (r : Rep K Hh v d) (hk : keyD d = some k) (f : DK.flat k = true) : v = DK.vK k := by
  cases r with
  | non => simp [keyD] at hk; subst hk; rfl
  | int i => simp [keyD] at hk; subst hk; rfl
  | tup sq rs =>
    rw [keyD] at hk
    obtain ⟨ks, _, rfl⟩ := Option.map_eq_some_iff.mp hk
    simp [DK.flat] at f
  | _ => simp [keyD] at hk
theorem flats_flat {K : PySem.W.Frag} : ∀ {es : List DK.Ent} {ds : List (D × D)}, RepE K Hh es ds → (∀ x ∈ es, DK.flat x.1 = true ∧ x.1.depth ≤ 8) → DK.Flat es
  | _, _, .nil, _ => fun _ z => nomatch z
  | _, _, .cons hk r q t, h => fun x hx => by
    rcases List.mem_cons.mp hx with hx | hx
    · subst hx
      have f := (h _ (List.mem_cons_self ..)).1
      exact ⟨f, rep_flat r hk f⟩
    · exact flats_flat t (fun y hy => h y (List.mem_cons_of_mem _ hy)) x hx
theorem hits_of (I : L2.Inv X pins σ H s) (le : Same Hh H) (hu : X.A.units + 65 < cLine) {fs : List DK.Ent} {ys : List (D × D)} {vb : List (Option Key × Value)} (rf : RepE X.K Hh fs ys) (Ff : DK.Flat fs) (rb : KV (DK.okv fs) vb) :
    ∀ {es : List DK.Ent} {xs : List (D × D)} {va : List (Option Key × Value)} {r : Bool}, RepE X.K Hh es xs → DK.Flat es → KV (DK.okv es) va → hitsD ys xs = some r → PySem.W.KeqHits X.A.in1 s vb va r
  | [], _, va, r, .nil, _, ra, e => by
    cases ra
    simp only [hitsD, Option.some.injEq] at e
    subst e
    exact .nil
  | (k, kv, v) :: es, (x, d) :: xs, va, r, .cons hk rk rv t, F, ra, e => by
    have ra : KV ((DK.keyO k, v) :: DK.okv es) va := ra
    cases ra with
    | @cons _ q _ qs h tt =>
      obtain ⟨j, u⟩ := q
      obtain ⟨h1, h2⟩ := h
      have h1 : DK.keyO k = j := h1
      have h2 : RelV v u := h2
      subst h1
      simp only [hitsD, hk, Option.bind_some] at e
      have at_ := rep_at (k := k) rf
      have look : RelO (DK.atE fs k) (PySem.valueAt vb (DK.keyO k)) := by
        have := rb.val (DK.keyO k)
        rwa [DK.flat_at Ff (F _ (List.mem_cons_self ..)).1] at this
      cases el : lookD ys k with
      | none =>
        rw [el] at e at_
        simp only [Option.some.injEq] at e
        subst e
        simp only at at_
        rw [at_] at look
        exact .miss look.none_of
      | some w =>
        rw [el] at e at_
        simp only [Option.bind_eq_some_iff] at e
        obtain ⟨a, ea, c, ec, e⟩ := e
        split at e
        · rename_i hs
          rw [Bool.and_eq_true] at hs
          rw [Option.map_eq_some_iff] at e
          obtain ⟨b, eb, rfl⟩ := e
          obtain ⟨v', hv', rv'⟩ := at_
          rw [hv'] at look
          obtain ⟨y, hy, ry⟩ := look.some_of
          obtain ⟨as, r1⟩ := Dp.reads I a v u ((rv.same le).dp ea) h2
          obtain ⟨bs, r2⟩ := Dp.reads I c v' y ((rv'.same le).dp ec) ry
          refine .hit hy (SeqAt.eqAt_reads a c X.A.in1 s u y as bs r1 r2 (SeqAt.canLay_of_shaped hs.1) (SeqAt.canLay_of_shaped hs.2) (SeqAt.room_of_shaped hs.1 ?_)) (hits_of I le hu rf Ff rb t (fun z hz => F z (List.mem_cons_of_mem _ hz)) tt eb)
          show X.A.units + 1 + 64 < cLine
          omega
        · cases e
def rTEq (X : Cx) (neg : Bool) : R2 := fun x y H Q => ∃ a b o p es fs, x = .ref a ∧ y = .ref b ∧ Rd H a (DK.tab a o es) ∧ Rd H b (DK.tab b p fs) ∧ (es.map (·.1)).Nodup ∧ (fs.map (·.1)).Nodup ∧ DK.Flat es ∧ DK.Flat fs ∧
  ∃ r, (∀ pins σ s va vb, L2.Inv X pins σ H s → KV (DK.okv es) va → KV (DK.okv fs) vb → es.length = fs.length → PySem.W.KeqHits X.A.in1 s vb va r) ∧ Q (.bl (neg != (es.length == fs.length && r))) H
theorem tab_pair (I : L2.Inv X pins σ H s) {a b : Addr} {o p : Obj} {es fs : List DK.Ent} (ha : Rd H a (DK.tab a o es)) (hb : Rd H b (DK.tab b p fs)) (ne : (es.map (·.1)).Nodup) (nf : (fs.map (·.1)).Nodup) (Fe : DK.Flat es) (Ff : DK.Flat fs) {r : Bool}
    (hh : ∀ pins σ s va vb, L2.Inv X pins σ H s → KV (DK.okv es) va → KV (DK.okv fs) vb → es.length = fs.length → PySem.W.KeqHits X.A.in1 s vb va r) :
    ∃ va vb, (a == sysModules) = false ∧ (b == sysModules) = false ∧ s.heap.DictOf (noneKind X.prog X.w) a va ∧ s.heap.DictOf (noneKind X.prog X.w) b vb ∧ (va.length = vb.length → PySem.W.KeqHits X.A.in1 s vb va r) ∧ (va.length == vb.length) = (es.length == fs.length) := by
  have ta := DK.tab_at I ha
  have tb := DK.tab_at I hb
  obtain ⟨va, da, ra⟩ := DK.dictOf (P := X.prog) (w := X.w) ta Fe ne
  obtain ⟨vb, db, rb⟩ := DK.dictOf (P := X.prog) (w := X.w) tb Ff nf
  have la : va.length = es.length := by rw [← ra.length]; unfold DK.okv; rw [List.length_map]
  have lb : vb.length = fs.length := by rw [← rb.length]; unfold DK.okv; rw [List.length_map]
  exact ⟨va, vb, ta.2.1, tb.2.1, da, db, fun h => hh _ _ _ va vb I ra rb (by omega), by rw [la, lb]⟩
theorem op_eqT (hu : X.A.units < cLine) : OpR X (compareOp .Eq) (rTEq X false) := by
  intro pins s σ H x y v u Q I rx ry h
  obtain ⟨a, b, o, p, es, fs, rfl, rfl, ha, hb, ne, nf, Fe, Ff, r, hh, q⟩ := h
  cases DK.ref_of rx
  cases DK.ref_of ry
  obtain ⟨va, vb, ya, yb, da, db, hits, hl⟩ := tab_pair I ha hb ne nf Fe Ff hh
  exact PySem.W.keq_eq (r := r) ya yb da db hu hits (fin_bl I q (by rw [hl]; simp))
theorem op_neT (hu : X.A.units < cLine) : OpR X (compareOp .NotEq) (rTEq X true) := by
  intro pins s σ H x y v u Q I rx ry h
  obtain ⟨a, b, o, p, es, fs, rfl, rfl, ha, hb, ne, nf, Fe, Ff, r, hh, q⟩ := h
  cases DK.ref_of rx
  cases DK.ref_of ry
  obtain ⟨va, vb, ya, yb, da, db, hits, hl⟩ := tab_pair I ha hb ne nf Fe Ff hh
  exact PySem.W.keq_ne (r := r) ya yb da db hu hits (fin_bl I q (by rw [hl]; simp))
theorem eqDic_to (hu : X.A.units + 65 < cLine) {neg : Bool} {O : Addr → Prop} {x y : V} {p q d : D} {Q : VK} (hx : BV X.K (hide O H) H x p) (hy : BV X.K (hide O H) H y q) (e : eqDic neg p q = some d) (c : ∀ v H', Same H H' → Rep X.K (hide O H') v d → Q v H') : rTEq X neg x y H Q := by
  unfold eqDic at e
  split at e
  · rename_i xs ys
    split at e
    · rename_i hf
      rw [Bool.and_eq_true, Bool.and_eq_true] at hf
      obtain ⟨a, o, es, b1, rfl, ha, re, ka⟩ := hx.dic
      obtain ⟨b, o', fs, b2, rfl, hb, rf, kb⟩ := hy.dic
      have Ke := flats_keys re ka hf.1.1
      have Kf := flats_keys rf kb hf.1.2
      have Ff := flats_flat rf Kf.kind
      have Fe := flats_flat re Ke.kind
      have l1 := repE_len re
      have l2 := repE_len rf
      split at e
      · rename_i hl
        rw [Option.map_eq_some_iff] at e
        obtain ⟨r, er, rfl⟩ := e
        exact ⟨a, b, o, o', es, fs, rfl, rfl, .inl ha, .inl hb, ka.nd, kb.nd, Fe, Ff, r, fun pins σ s va vb I ra rb _ => hits_of I hide_le hu rf Ff rb re Fe ra er, by
          have z : (es.length == fs.length) = true := by rw [l1, l2, hl]; simp
          rw [z, Bool.true_and]; exact c _ _ (.refl _) (.bl _)⟩
      · rename_i hl
        cases e
        exact ⟨a, b, o, o', es, fs, rfl, rfl, .inl ha, .inl hb, ka.nd, kb.nd, Fe, Ff, true, fun pins σ s va vb I ra rb z => absurd (by omega) hl, by
          have z : (es.length == fs.length) = false := by rw [l1, l2]; simpa using hl
          rw [z, Bool.false_and]; simpa using c _ _ (.refl _) (.bl _)⟩
    · cases e
  · cases e
theorem od_eqDic (hu : X.A.units + 65 < cLine) : OpD X (compareOp .Eq) (eqDic false) := ⟨_, op_eqT (by omega), fun O H x y p q d Q hx hy e c _ => eqDic_to hu hx hy e c⟩
theorem od_neDic (hu : X.A.units + 65 < cLine) : OpD X (compareOp .NotEq) (eqDic true) := ⟨_, op_neT (by omega), fun O H x y p q d Q hx hy e c _ => eqDic_to hu hx hy e c⟩
end
end DL

set_option maxHeartbeats 4000000
/-! rules that serve several kinds of data at once -/
namespace DL
open PySem PySem.Spec PyProof.Rows L2
variable [CT]
section
variable {X : Cx} {tg e a b c : Expr} {es : List Expr} {f g fa fb k : DE1} {fs : DEnv → Option (List D)} {pos p : Pos}
theorem DE.two (h1 : DE X e f) (h2 : DE X e g) (hk : ∀ ρ d, k ρ = some d → f ρ = some d ∨ g ρ = some d) : DE X e k := ⟨fun pins s σ H Q I ⟨O0, ow, ρ, S, d, z, q⟩ =>
  (hk ρ d z).elim (fun z => h1.run pins s σ H Q I ⟨O0, ow, ρ, S, d, z, q⟩) fun z => h2.run pins s σ H Q I ⟨O0, ow, ρ, S, d, z, q⟩⟩
theorem DI.two {f g k : DEnv → Option (List D)} (h1 : DI X tg e f) (h2 : DI X tg e g) (hk : ∀ ρ d, k ρ = some d → f ρ = some d ∨ g ρ = some d) : DI X tg e k := ⟨fun pins s σ H Q I ⟨O0, ow, ρ, S, d, z, q⟩ =>
  (hk ρ d z).elim (fun z => h1.run pins s σ H Q I ⟨O0, ow, ρ, S, d, z, q⟩) fun z => h2.run pins s σ H Q I ⟨O0, ow, ρ, S, d, z, q⟩⟩
def gOr {α β : Type} (g g' : α → β → Option D) : α → β → Option D := fun x y => (g x y).or (g' x y)
theorem or_some {α : Type} {x y : Option α} {d : α} (h : x.or y = some d) : x = some d ∨ y = some d := by
  cases x with
  | none => exact .inr (by simpa using h)
  | some z => exact .inl (by simpa using h)
/-! what is walked: a list, a tuple, a dict's keys -/
def iA (f : DE1) : DEnv → Option (List D) := fun ρ => match f ρ with
  | some (.lst xs) => some xs
  | some (.tup xs) => some xs
  | some (.dic ds) => some (ds.map (·.1))
  | some (.scr ns) => (iL f ρ)
  | _ => none
theorem di_A (h : DE X e f) : DI X tg e (iA f) := DI.two (di_list h) (DI.two (di_tup h) (di_keysD h) (k := fun ρ => (iT f ρ).or (iKD f ρ)) fun ρ d z => or_some z) fun ρ d z => by
  unfold iA at z
  split at z
  · rename_i xs ef; cases z; left; unfold iL; rw [ef]
  · rename_i xs ef; cases z; right; unfold iT; rw [ef]; rfl
  · rename_i xs ef; cases z; right; unfold iT iKD; rw [ef]; rfl
  · exact .inl z
  · cases z
/-! subscripts -/
def gIxA : D → D → Option D := gOr gIx gIxD
theorem e2_or {g g' : D → D → Option D} {ρ : DEnv} {d : D} (z : e2 (gOr g g') fa fb ρ = some d) : e2 g fa fb ρ = some d ∨ e2 g' fa fb ρ = some d := by
  obtain ⟨x, y, h1, h2, h3⟩ := e2_some z
  rcases or_some h3 with h | h
  · left; unfold e2; rw [h1, h2]; exact h
  · right; unfold e2; rw [h1, h2]; exact h
theorem de_ixA (hu : X.A.units + 64 < cLine) (ha : DB X a fa) (hb : DB X b fb) (hs : PlainIx b := by exact fun _ _ => rfl) : DE X (.Subscript a b pos) (e2 gIxA fa fb) := DE.two (de_ix ha hb hs) (de_ixD hu ha hb hs) fun ρ d z => e2_or z
/-! operators -/
def gAddA : D → D → Option D := gOr gAddI (gOr gCat gCatT)
def gMulA : D → D → Option D := gOr gMulI (gOr gRep gRepT)
theorem od_addA : OpD X (binaryOp .Add) gAddA := OpD.or od_addI (OpD.or od_cat od_catT)
theorem OpD.of {f : Value → Value → Sem Value} {g : D → D → Option D} (h : OpF X f g) : OpD X f g := by
  obtain ⟨r, o, k⟩ := h
  exact ⟨r, o, fun O H x y p q d Q hx hy e c t => k O H x y p q d Q hx hy e (fun a H' s n tt => c (.ref a) H' s (tt.rep (hide_sub fun b z => .inl z) fun o q => hide_some.mpr ⟨fun z => (let ⟨u, w⟩ := t a z; by rw [n] at w; cases w), q⟩)) t⟩
theorem od_mulA : OpD X (binaryOp .Mult) gMulA := OpD.or od_mulI (OpD.or (OpD.of of_rep) od_repT)
def gEqA (neg : Bool) : D → D → Option D := gOr (eqD neg) (eqDic neg)
theorem od_eqA (h5 : X.A.units + 65 < cLine) : OpD X (compareOp .Eq) (gEqA false) := OpD.or (od_eq (by omega)) (od_eqDic h5)
theorem od_neA (h5 : X.A.units + 65 < cLine) : OpD X (compareOp .NotEq) (gEqA true) := OpD.or (od_ne (by omega)) (od_neDic h5)
def gInA (neg : Bool) : D → D → Option D := gOr (gInL neg) (gInD neg)
theorem od_inA (h5 : X.A.units + 65 < cLine) : OpD X (compareOp .In) (gInA false) := OpD.or (od_inL h5) (od_inD (by omega))
theorem od_notInA (h5 : X.A.units + 65 < cLine) : OpD X (compareOp .NotIn) (gInA true) := OpD.or (od_notInL h5) (od_notInD (by omega))
/-! len, list -/
def cOr (g g' : List D → Option D) : List D → Option D := fun x => (g x).or (g' x)
theorem CallF.or {v : Value} {g g' : List D → Option D} (h : CallF X v g) (h' : CallF X v g') : CallF X v (cOr g g') := by
  obtain ⟨r, o, k⟩ := h
  obtain ⟨r', o', k'⟩ := h'
  refine ⟨_, CallR.or2 o o', fun O H xs ds d Q hx e c t => ?_⟩
  rcases or_some e with z | z
  · exact .inl (k O H xs ds d Q hx z c t)
  · exact .inr (k' O H xs ds d Q hx z c t)
def gLenA : List D → Option D := cOr gLen gLenD
theorem cd_lenA : CallD X (.builtin "len") gLenA := CallD.or cd_len cd_lenD
def gListA : List D → Option D := cOr gListOf gListD
theorem cf_listA (hc : X.calm = true) : CallF X (.type "list") gListA := CallF.or cf_list (cf_listD hc)
/-! truth -/
def eTru (f : DE1) : DE1 := fun ρ => match f ρ with
  | some (.bl b) => some (.bl b)
  | some (.lst xs) => some (.bl (!xs.isEmpty))
  | some (.tup xs) => some (.bl (!xs.isEmpty))
  | _ => none
theorem dt_tru (h : DB X e f) (he : ∀ whole, isTrue e X.env whole = (do let v ← whole; standAt e.pos; holding [v] (truthy v)) := by intro _; rfl) : DT X e (eTru f) := PT.imp (pt_truth h he) fun σ H Q ⟨O0, ow, ρ, S, b, e, k⟩ => by
  unfold eTru at e
  split at e
  · rename_i b' ef
    cases e
    refine ⟨O0, ow, ρ, S, _, ef, fun v H1 s r => ?_⟩
    rcases r with r | ⟨a, rfl, t⟩
    · cases r; exact ⟨b, rfl, k _ s⟩
    · cases t
  · rename_i xs ef
    cases e
    refine ⟨O0, ow, ρ, S, _, ef, fun v H1 s r => ?_⟩
    obtain ⟨a, vs, rfl, ha, rs⟩ := r.lst hide_le
    have z : vs.isEmpty = xs.isEmpty := by cases rs <;> rfl
    exact ⟨_, .inl ⟨vs, SqL.of ha, rfl⟩, by rw [z]; exact k _ s⟩
  · rename_i xs ef
    cases e
    refine ⟨O0, ow, ρ, S, _, ef, fun v H1 s r => ?_⟩
    obtain ⟨a, vs, rfl, ha, rs⟩ := r.tup hide_le
    have z : vs.isEmpty = xs.isEmpty := by cases rs <;> rfl
    exact ⟨_, .inr (.inl ⟨vs, ha, rfl⟩), by rw [z]; exact k _ s⟩
  · cases e
/-! slices of tuples, not the whole -/
def eSlT (f : DE1) (l h : DEnv → Option (Option Int)) : DE1 := fun ρ => (f ρ).bind fun x => (l ρ).bind fun a => (h ρ).bind fun b => match x with
  | .tup xs => if HT.sIx xs.length 0 a = 0 ∧ HT.sIx xs.length xs.length b = xs.length then none else some (.tup (cutD xs a b))
  | _ => none
theorem de_slT {lo hi : Option Expr} {l h : DEnv → Option (Option Int)} {p2 : Pos} (he : DB X e f) (hl : DO X lo l) (hh : DO X hi h) : DE X (.Subscript e (.Slice lo hi none p2) pos) (eSlT f l h) := PE.imp (pe_slice sl_tup he hl hh) fun σ H Q ⟨O0, ow, ρ, S, d, e, k⟩ => by
  unfold eSlT at e
  simp only [Option.bind_eq_some_iff] at e
  obtain ⟨x, ex, lo', el, hi', eh, eg⟩ := e
  refine ⟨O0, ow, ρ, S, x, ex, fun v H1 s1 r1 => ⟨O0, ow, ρ, S.same s1, lo', el, fun H2 s2 => ⟨O0, ow, ρ, (S.same s1).same s2, hi', eh, fun H3 s3 => ?_⟩⟩⟩
  replace r1 := r1.same (hide_same (s2.trans s3)) (s2.trans s3)
  have s13 := s1.trans (s2.trans s3)
  split at eg
  · rename_i xs
    split at eg
    · cases eg
    · rename_i hw
      cases eg
      obtain ⟨a, vs, rfl, ha, rs⟩ := r1.tup hide_le
      have n := rs.length
      refine ⟨a, vs, rfl, ha, by rw [n]; exact hw, fun q nq => k _ _ (s13.trans (same_upd nq)) ?_⟩
      have nO := new_rep (K := X.K) ((S.same s13)).trk nq
      exact .tup (SqT.of (hide_some.mpr ⟨nO, upd_same⟩)) ((cut_reps rs lo' hi').same (hide_same (same_upd nq)))
  · cases eg
def oOr (f g : DE1) : DE1 := fun ρ => (f ρ).or (g ρ)
theorem de_slA {lo hi : Option Expr} {l h : DEnv → Option (Option Int)} {p2 : Pos} (he : DB X e f) (hl : DO X lo l) (hh : DO X hi h) : DE X (.Subscript e (.Slice lo hi none p2) pos) (oOr (eSl f l h) (eSlT f l h)) := DE.two (de_of (df_sl he hl hh)) (de_slT he hl hh) fun ρ d z => or_some z
/-! a call of nothing -/
theorem de_call0 {fa : Addr} {fd : FuncData} {ps : List Str} {k : Nat} {x : Str} {F : List D → Option D} (Fk : FnOk X.prog X.w X.K X.mg X.base CX0 k fa fd ps (spD X.K 0 F)) (hr : Room k X.A) (hg : Gl X x) (hm : X.mg x = some (.ref fa)) (hk : PySem.W.keepIn X.K (.ref fa) = true) (hb : Binds X.K fd ps [])
    (hdb : (x == ("__debug__" : Str)) = false := by decide) : DE X (.Call (.Name x p) [] [] pos) (eCall 0 F aNil) := PE.imp (pe_call0 Fk hr hg hm hk hb .nil pass0 hdb) fun σ H Q ⟨O0, ow, ρ, S, d, e, k⟩ =>
  ⟨rfl, hid O0 ow, [], S.trk, .nil, d, e, fun v H' s r => k v H' s r⟩
/-! a list that a name alone holds is lent: what comes back holds nothing -/
def flatD : D → Bool
  | .non => true
  | .bl _ => true
  | .int _ => true
  | .str _ => true
  | _ => false
def eLend (i : Nat) (f : DE1) : DE1 := fun ρ => match f (frz i ρ) with
  | some d => if flatD d then some d else none
  | none => none
theorem flat_rep {K : PySem.W.Frag} {H H' : Hp} {v : V} {d : D} (h : flatD d = true) (r : Rep K H v d) : Rep K H' v d := by
  cases r with
  | non => exact .non
  | bl b => exact .bl b
  | int b => exact .int b
  | str b => exact .str b
  | _ => cases h
theorem de_lend (i : Nat) (h : DE X e f) : DE X e (eLend i f) := PE.imp h fun σ H Q ⟨O0, ow, ρ, S, d, e, k⟩ => by
  unfold eLend at e
  split at e
  · split at e
    · rename_i hf
      cases e
      rename_i ef
      obtain ⟨ow', S', _⟩ := S.frz (i := i)
      exact ⟨O0, ow', _, S', d, ef, fun v H' s r => k v H' s (flat_rep hf r)⟩
    · cases e
  · cases e
/-! the table of methods -/
section
variable {P : Program} {w : World} {K : PySem.W.Frag} {mg : Str → Option Value} {base : Heap} {lev lv n kk : Nat} {m : Str} {dd : List D} {ks ps : List Str} {tbl : MTab} {F : List D → Option D} {g' : Addr} {fd : FuncData} {dvs : List V}
theorem MthD.nil : MthD P w K mg base lev m n dd [] := fun k F h => by simp at h
theorem MthD.cons (r : MthD P w K mg base lev m n dd tbl) (hlv : lv ≤ lev) (cl : Cls K (CT.ct kk)) (me : Meth K (CT.ct kk) m g') (fn : FnOk P w K mg base CX0 lv g' fd ps (spD K (n + dd.length + 1) F)) (rd : ∀ h, Reps K h dvs dd) (hb : ∃ ds, Vals dvs ds ∧ Binds K fd ps ds) : MthD P w K mg base lev m n dd ((kk, F) :: tbl) := fun k F' h => by
  rw [List.lookup_cons] at h
  by_cases e : k = kk
  · subst e
    simp at h
    subst h
    obtain ⟨ds, v, b⟩ := hb
    exact ⟨lv, g', fd, ps, hlv, cl, me, fn, dvs, ds, rd, v, b⟩
  · have : (k == kk) = false := by simpa using e
    rw [this] at h
    exact r k F' h
theorem MthK.nil : MthK P w K mg base lev m n ks [] := fun k F h => by simp at h
theorem MthK.cons (r : MthK P w K mg base lev m n ks tbl) (hlv : lv ≤ lev) (cl : Cls K (CT.ct kk)) (me : Meth K (CT.ct kk) m g') (fn : FnOk P w K mg base CX0 lv g' fd ps (spD K (n + ks.length + 1) F)) (hb : KBn K fd ps (n + 1) ks (fun us ws => us ++ ws) (fun vs zs => vs ++ zs)) : MthK P w K mg base lev m n ks ((kk, F) :: tbl) := fun k F' h => by
  rw [List.lookup_cons] at h
  by_cases e : k = kk
  · subst e
    simp at h
    subst h
    exact ⟨lv, g', fd, ps, hlv, cl, me, fn, hb⟩
  · have : (k == kk) = false := by simpa using e
    rw [this] at h
    exact r k F' h
end
end
end DL

set_option maxHeartbeats 4000000
/-! what the words do at an environment; fractions; the number drawn from a script -/
namespace DL
open PySem PySem.Spec PyProof.Rows L2
/-! ### fractions -/
abbrev Qp := Int × Int
def fr (a b : Int) : D := .tup [.int a, .int b]
def qd (p : Qp) : D := fr p.1 p.2
def low (t b : Int) : Qp := (t / (Nat.gcd t.natAbs b.natAbs : Nat), b / (Nat.gcd t.natAbs b.natAbs : Nat))
def qadd (p q : Qp) : Qp := low (p.1 * q.2 + q.1 * p.2) (p.2 * q.2)
def qsub (p q : Qp) : Qp := low (p.1 * q.2 - q.1 * p.2) (p.2 * q.2)
def qmul (p q : Qp) : Qp := low (p.1 * q.1) (p.2 * q.2)
def qlt (p q : Qp) : Bool := decide (p.1 * q.2 < q.1 * p.2)
structure Ok (n : Nat) (p : Qp) : Prop where
  pos : 0 < p.2
  cop : Nat.gcd p.1.natAbs p.2.natAbs = 1
  b1 : p.1.natAbs < 2 ^ n
  b2 : p.2.natAbs < 2 ^ n
theorem Ok.mono {n m : Nat} {p : Qp} (h : Ok n p) (l : n ≤ m) : Ok m p := ⟨h.pos, h.cop, Nat.lt_of_lt_of_le h.b1 (Nat.pow_le_pow_right (by decide) l), Nat.lt_of_lt_of_le h.b2 (Nat.pow_le_pow_right (by decide) l)⟩
theorem sz_of {a : Int} {n : Nat} (h : a.natAbs < 2 ^ n) (l : n ≤ 8000) : sz a = true := by
  unfold sz
  apply decide_eq_true
  by_cases h0 : a.natAbs = 0
  · rw [h0]; decide
  · exact (Nat.log2_lt h0).mpr (Nat.lt_of_lt_of_le h (Nat.pow_le_pow_right (by decide) l))
theorem g_pos {t b : Int} (h : 0 < b) : 0 < Nat.gcd t.natAbs b.natAbs := Nat.gcd_pos_of_pos_right _ (by omega)
theorem low_val {t b : Int} (h : 0 < b) : (low t b).1 * b = t * (low t b).2 := by
  unfold low
  have d1 : ((Nat.gcd t.natAbs b.natAbs : Nat) : Int) ∣ t := Int.ofNat_dvd_left.mpr (Nat.gcd_dvd_left _ _)
  have d2 : ((Nat.gcd t.natAbs b.natAbs : Nat) : Int) ∣ b := Int.ofNat_dvd_left.mpr (Nat.gcd_dvd_right _ _)
  generalize ((Nat.gcd t.natAbs b.natAbs : Nat) : Int) = g at *
  obtain ⟨x, rfl⟩ := d1
  obtain ⟨y, rfl⟩ := d2
  have hg : g ≠ 0 := by rintro rfl; simp at h
  show g * x / g * (g * y) = g * x * (g * y / g)
  rw [Int.mul_ediv_cancel_left _ hg, Int.mul_ediv_cancel_left _ hg]
  rw [Int.mul_left_comm, Int.mul_assoc]
theorem low_ok {t b : Int} {n : Nat} (h : 0 < b) (h1 : t.natAbs < 2 ^ n) (h2 : b.natAbs < 2 ^ n) : Ok n (low t b) := by
  have d1 : (Nat.gcd t.natAbs b.natAbs) ∣ t.natAbs := Nat.gcd_dvd_left _ _
  have d2 : (Nat.gcd t.natAbs b.natAbs) ∣ b.natAbs := Nat.gcd_dvd_right _ _
  have hg : 0 < Nat.gcd t.natAbs b.natAbs := g_pos h
  have e1 : (t / ((Nat.gcd t.natAbs b.natAbs : Nat) : Int)).natAbs = t.natAbs / Nat.gcd t.natAbs b.natAbs := by
    rw [Int.natAbs_ediv_of_dvd (Int.ofNat_dvd_left.mpr d1)]; rfl
  have e2 : (b / ((Nat.gcd t.natAbs b.natAbs : Nat) : Int)).natAbs = b.natAbs / Nat.gcd t.natAbs b.natAbs := by
    rw [Int.natAbs_ediv_of_dvd (Int.ofNat_dvd_left.mpr d2)]; rfl
  refine ⟨?_, ?_, ?_, ?_⟩
  · have := Nat.div_pos (Nat.le_of_dvd (by omega) d2) hg
    have h3 : 0 ≤ b / ((Nat.gcd t.natAbs b.natAbs : Nat) : Int) := Int.ediv_nonneg (by omega) (by omega)
    show 0 < b / ((Nat.gcd t.natAbs b.natAbs : Nat) : Int)
    omega
  · show Nat.gcd (t / ((Nat.gcd t.natAbs b.natAbs : Nat) : Int)).natAbs (b / ((Nat.gcd t.natAbs b.natAbs : Nat) : Int)).natAbs = 1
    rw [e1, e2]
    exact Nat.coprime_div_gcd_div_gcd hg
  · exact Nat.lt_of_le_of_lt (by show (t / ((Nat.gcd t.natAbs b.natAbs : Nat) : Int)).natAbs ≤ _; rw [e1]; exact Nat.div_le_self _ _) h1
  · exact Nat.lt_of_le_of_lt (by show (b / ((Nat.gcd t.natAbs b.natAbs : Nat) : Int)).natAbs ≤ _; rw [e2]; exact Nat.div_le_self _ _) h2
theorem mulb {a b : Int} {n m : Nat} (h1 : a.natAbs < 2 ^ n) (h2 : b.natAbs < 2 ^ m) : (a * b).natAbs < 2 ^ (n + m) := by
  rw [Int.natAbs_mul, Nat.pow_add]
  exact Nat.mul_lt_mul'' h1 h2
theorem addb {a b : Int} {n : Nat} (h1 : a.natAbs < 2 ^ n) (h2 : b.natAbs < 2 ^ n) : (a + b).natAbs < 2 ^ (n + 1) := by
  rw [Nat.pow_succ]; omega
theorem subb {a b : Int} {n : Nat} (h1 : a.natAbs < 2 ^ n) (h2 : b.natAbs < 2 ^ n) : (a - b).natAbs < 2 ^ (n + 1) := by
  rw [Nat.pow_succ]; omega
theorem qadd_ok {p q : Qp} {n m : Nat} (hp : Ok n p) (hq : Ok m q) : Ok (n + m + 1) (qadd p q) := by
  refine low_ok (Int.mul_pos hp.pos hq.pos) (addb (mulb hp.b1 hq.b2) ?_) (Nat.lt_of_lt_of_le (mulb hp.b2 hq.b2) (Nat.pow_le_pow_right (by decide) (Nat.le_succ _)))
  rw [Nat.add_comm]
  exact mulb hq.b1 hp.b2
theorem qsub_ok {p q : Qp} {n m : Nat} (hp : Ok n p) (hq : Ok m q) : Ok (n + m + 1) (qsub p q) := by
  refine low_ok (Int.mul_pos hp.pos hq.pos) (subb (mulb hp.b1 hq.b2) ?_) (Nat.lt_of_lt_of_le (mulb hp.b2 hq.b2) (Nat.pow_le_pow_right (by decide) (Nat.le_succ _)))
  rw [Nat.add_comm]
  exact mulb hq.b1 hp.b2
theorem qmul_ok {p q : Qp} {n m : Nat} (hp : Ok n p) (hq : Ok m q) : Ok (n + m) (qmul p q) := low_ok (Int.mul_pos hp.pos hq.pos) (mulb hp.b1 hq.b1) (mulb hp.b2 hq.b2)
/-- lowest terms tell a fraction -/
theorem q_ext {p q : Qp} {n m : Nat} (hp : Ok n p) (hq : Ok m q) (h : p.1 * q.2 = q.1 * p.2) : p = q := by
  have hn : p.1.natAbs * q.2.natAbs = q.1.natAbs * p.2.natAbs := by rw [← Int.natAbs_mul, ← Int.natAbs_mul, h]
  have d1 : p.2.natAbs ∣ q.2.natAbs := by
    have : p.2.natAbs ∣ p.1.natAbs * q.2.natAbs := ⟨q.1.natAbs, by rw [hn, Nat.mul_comm]⟩
    exact Nat.Coprime.dvd_of_dvd_mul_left (by rw [Nat.Coprime, Nat.gcd_comm]; exact hp.cop) this
  have d2 : q.2.natAbs ∣ p.2.natAbs := by
    have : q.2.natAbs ∣ q.1.natAbs * p.2.natAbs := ⟨p.1.natAbs, by rw [← hn, Nat.mul_comm]⟩
    exact Nat.Coprime.dvd_of_dvd_mul_left (by rw [Nat.Coprime, Nat.gcd_comm]; exact hq.cop) this
  have e2 : p.2 = q.2 := by
    have := Nat.dvd_antisymm d1 d2
    have := hp.pos; have := hq.pos
    omega
  have e1 : p.1 = q.1 := by
    rw [e2] at h
    exact Int.eq_of_mul_eq_mul_right (by have := hq.pos; omega) h
  exact Prod.ext e1 e2
/-- (x - y) + y is x -/
theorem sub_add {x y : Qp} {n m : Nat} (hx : Ok n x) (hy : Ok m y) : qadd (qsub x y) y = x := by
  have hs := qsub_ok hx hy
  refine q_ext (qadd_ok hs hy) hx ?_
  have v1 := low_val (t := x.1 * y.2 - y.1 * x.2) (Int.mul_pos hx.pos hy.pos)
  have v2 := low_val (t := (qsub x y).1 * y.2 + y.1 * (qsub x y).2) (Int.mul_pos hs.pos hy.pos)
  change (qsub x y).1 * (x.2 * y.2) = (x.1 * y.2 - y.1 * x.2) * (qsub x y).2 at v1
  change (qadd (qsub x y) y).1 * ((qsub x y).2 * y.2) = ((qsub x y).1 * y.2 + y.1 * (qsub x y).2) * (qadd (qsub x y) y).2 at v2
  generalize (qsub x y).1 = s1 at *
  generalize es2 : (qsub x y).2 = s2 at *
  generalize (qadd (qsub x y) y).1 = r1 at *
  generalize (qadd (qsub x y) y).2 = r2 at *
  have hs2 : 0 < s2 := by have := hs.pos; omega
  have hy2 := hy.pos
  obtain ⟨x1, x2⟩ := x
  obtain ⟨y1, y2⟩ := y
  try simp only at *
  have hne : s2 * y2 * y2 ≠ 0 := Int.ne_of_gt (Int.mul_pos (Int.mul_pos hs2 hy2) hy2)
  apply Int.eq_of_mul_eq_mul_right hne
  have w1 : s1 * y2 * (x2 * y2) = (x1 * y2 - y1 * x2) * s2 * y2 := by
    rw [← v1, Int.mul_right_comm]
  calc r1 * x2 * (s2 * y2 * y2) = (r1 * (s2 * y2)) * (x2 * y2) := by ac_rfl
    _ = ((s1 * y2 + y1 * s2) * r2) * (x2 * y2) := by rw [v2]
    _ = (s1 * y2 * (x2 * y2) + y1 * s2 * (x2 * y2)) * r2 := by rw [Int.add_mul, Int.add_mul, Int.add_mul]; ac_rfl
    _ = ((x1 * y2 - y1 * x2) * s2 * y2 + y1 * s2 * (x2 * y2)) * r2 := by rw [w1]
    _ = x1 * r2 * (s2 * y2 * y2) := by
      rw [Int.sub_mul, Int.sub_mul]
      have : y1 * x2 * s2 * y2 = y1 * s2 * (x2 * y2) := by ac_rfl
      rw [this, Int.sub_add_cancel]
      ac_rfl
/-! ### what each word does at an environment -/
section
variable {ρ : DEnv} {d : D} {i j n : Nat} {f g c fa fb : DE1} {fs : DEnv → Option (List D)} {s s' : DS1} {op op' : D → D → Option D} {F : List D → Option D}
theorem ap_C : eC d ρ = some d := rfl
theorem ap_V : eV i ρ = match ρ[i]? with | some (some (false, d)) => some d | _ => none := rfl
theorem ap_VB : eVB i ρ = match ρ[i]? with | some (some (_, d)) => some d | _ => none := rfl
theorem ap_2 : DL.e2 op fa fb ρ = (fa ρ).bind fun x => (fb ρ).bind fun y => op x y := rfl
theorem ap_Nil : aNil ρ = some [] := rfl
theorem ap_Cons : aCons f fs ρ = (f ρ).bind fun x => (fs ρ).map (x :: ·) := rfl
theorem ap_Tup : eTup fs ρ = (fs ρ).bind fun ds => if ds.length ≤ 1000 then some (.tup ds) else none := rfl
theorem ap_Lst : eLst fs ρ = (fs ρ).bind fun ds => if ds.length ≤ 1000 then some (.lst ds) else none := rfl
theorem ap_Call : eCall n F fs ρ = (fs ρ).bind fun ds => if ds.length = n then F ds else none := rfl
theorem ap_CB : eCB F fs ρ = (fs ρ).bind F := rfl
theorem ap_Not : eNot f ρ = match f ρ with | some (.bl b) => some (.bl (!b)) | _ => none := rfl
theorem ap_And : eAnd fa fb ρ = match fa ρ with | some (.bl true) => fb ρ | some (.bl false) => some (.bl false) | _ => none := rfl
theorem ap_Or : eOr fa fb ρ = match fa ρ with | some (.bl true) => some (.bl true) | some (.bl false) => fb ρ | _ => none := rfl
theorem ap_If : eIf c f g ρ = match c ρ with | some (.bl true) => f ρ | some (.bl false) => g ρ | _ => none := rfl
theorem ap_Ch : eCh op op' fa fb c ρ = (fa ρ).bind fun x => (fb ρ).bind fun y => match op x y with | some (.bl true) => (c ρ).bind fun z => op' y z | some (.bl false) => some (.bl false) | _ => none := rfl
theorem ap_Set : gSet i f ρ = match f ρ with | some d => .nx (ρ.set i (some (false, d))) | none => .stuck := rfl
theorem ap_SetF : gSetF i f ρ = match f ρ with | some d => .nx (ρ.set i (some (true, d))) | none => .stuck := rfl
theorem ap_Seq : gSeq s s' ρ = match s ρ with | .nx ρ1 => s' ρ1 | x => x := rfl
theorem ap_IfS : gIf c s s' ρ = match c ρ with | some (.bl true) => s ρ | some (.bl false) => s' ρ | _ => .stuck := rfl
theorem ap_Nx : gNx ρ = .nx ρ := rfl
theorem ap_Exp : gExp f ρ = match f ρ with | some _ => .nx ρ | none => .stuck := rfl
theorem ap_Par : gPar i j fs ρ = match fs ρ with | some [x, y] => .nx ((ρ.set i (some (false, x))).set j (some (false, y))) | _ => .stuck := rfl
theorem ap_ParF : gParF i j f g ρ = match f ρ, g ρ with | some x, some y => .nx ((ρ.set i (some (true, x))).set j (some (true, y))) | _, _ => .stuck := rfl
theorem ap_Wh {fu : DEnv → Nat} : gWh fu c s ρ = whL c s (fu ρ) ρ := rfl
theorem ap_For {it : DEnv → Option (List D)} {b : D → DEnv → Option DEnv} : gFor it b s ρ = match it ρ with | some ds => forL b s ds ρ | none => .stuck := rfl
theorem ap_iL : iL f ρ = match f ρ with | some (.lst ds) => some ds | _ => none := rfl
theorem ap_iT : iT f ρ = match f ρ with | some (.tup ds) => some ds | _ => none := rfl
theorem ap_iZX : iZX f g ρ = ((f ρ).bind seqD).bind fun xs => ((g ρ).bind seqD).map fun ys => zipD xs ys := rfl
theorem ap_iR1 : iR1 f ρ = match f ρ with | some (.int j) => if rngOk 0 j then some (rngD 0 j) else none | _ => none := rfl
theorem ap_Isi {n : String} : eIsi n f ρ = (f ρ).bind (gIsi n) := rfl
theorem ap_Fld {ks : List Nat} {x : Str} : eFld ks x f ρ = match f ρ with | some (.ins k fs) => if ks.contains k then fs.lookup x else none | _ => none := rfl
theorem ap_IsC {ks : List Nat} {C : Nat} : eIsC ks C f ρ = match f ρ with | some (.ins k _) => if ks.contains k then some (.bl (k == C)) else none | _ => none := rfl
theorem ap_App : gApp i f ρ = match f ρ, ρ[i]? with | some d, some (some (true, .lst ds)) => if ds.length < 1000 then .nx (ρ.set i (some (true, .lst (ds ++ [d])))) else .stuck | _, _ => .stuck := rfl
theorem ap_Make {C : Nat} {G : List D → Option (List (Str × D))} : eMake C n G fs ρ = (fs ρ).bind fun ds => if ds.length = n then (G ds).map (.ins C) else none := rfl
theorem ap_Asg {b : D → DEnv → Option DEnv} : gAsg f b ρ = match (f ρ).bind fun d => b d ρ with | some ρ' => .nx ρ' | none => .stuck := rfl
theorem back_ret (f : DE1) (ρ : DEnv) : backD (gRet f ρ) = f ρ := by unfold gRet; cases f ρ <;> rfl
theorem ap_Ret (h : f ρ = some d) : gRet f ρ = .rt d := by unfold gRet; rw [h]
theorem ap_bN : bN i d ρ = some (ρ.set i (some (false, d))) := rfl
theorem ap_bT {b : List D → DEnv → Option DEnv} {ds : List D} : bT b (.tup ds) ρ = b ds ρ := rfl
theorem ap_bC {b : D → DEnv → Option DEnv} {bs : List D → DEnv → Option DEnv} {ds : List D} : bCons b bs (d :: ds) ρ = (b d ρ).bind (bs ds) := rfl
theorem ap_b0 : bNil [] ρ = some ρ := rfl
end
theorem bind_s {α β : Type} (a : α) (f : α → Option β) : (some a).bind f = f a := rfl
theorem ix0 (a b : Int) : gIx (fr a b) (.int 0) = some (.int a) := rfl
theorem ix1 (a b : Int) : gIx (fr a b) (.int 1) = some (.int b) := rfl
theorem mMul_eq {a b : Int} (ha : sz a = true) (hb : sz b = true) : gMulI (.int a) (.int b) = some (.int (a * b)) := by
  show mMul a b = _; unfold mMul; rw [ha, hb]; rfl
theorem mDiv_eq {a b : Int} (h0 : 0 < b) (hb : sz b = true) : gDivI (.int a) (.int b) = some (.int (a / b)) := by
  show mDiv a b = _; unfold mDiv; rw [hb, decide_eq_true h0]; rfl
theorem mMod_eq {a b : Int} (h0 : 0 < b) : gModI (.int a) (.int b) = some (.int (a % b)) := by
  show mMod a b = _; unfold mMod; rw [if_pos h0]
theorem gAdd_eq (a b : Int) : gAddI (.int a) (.int b) = some (.int (a + b)) := rfl
theorem gSub_eq (a b : Int) : gSubI (.int a) (.int b) = some (.int (a - b)) := rfl
theorem gLt_eq (a b : Int) : gLt (.int a) (.int b) = some (.bl (decide (a < b))) := rfl
theorem gLe_eq (a b : Int) : gLe (.int a) (.int b) = some (.bl (decide (a ≤ b))) := rfl
theorem gGt_eq (a b : Int) : gGt (.int a) (.int b) = some (.bl (decide (b < a))) := rfl
theorem gGe_eq (a b : Int) : gGe (.int a) (.int b) = some (.bl (decide (b ≤ a))) := rfl
theorem gGcd_eq (a b : Int) : gGcd [.int a, .int b] = some (.int (Nat.gcd a.natAbs b.natAbs : Nat)) := rfl
theorem gInt_eq (a : Int) : gInt [.int a] = some (.int a) := rfl

theorem gAddA_eq (a b : Int) : gAddA (.int a) (.int b) = some (.int (a + b)) := rfl
theorem mMulA_eq {a b : Int} (ha : sz a = true) (hb : sz b = true) : gMulA (.int a) (.int b) = some (.int (a * b)) := by
  unfold gMulA gOr
  rw [mMul_eq ha hb]; rfl
theorem gLenA_lst (xs : List D) : gLenA [.lst xs] = some (.int xs.length) := rfl
theorem gLenA_tup (xs : List D) : gLenA [.tup xs] = some (.int xs.length) := rfl
theorem gEqA_int (a b : Int) : gEqA false (.int a) (.int b) = some (.bl (a == b)) := rfl
theorem gEqA_int' (a b : Int) : gEqA true (.int a) (.int b) = some (.bl (!(a == b))) := rfl
theorem ixA0 (a b : Int) : gIxA (fr a b) (.int 0) = some (.int a) := rfl
theorem ixA1 (a b : Int) : gIxA (fr a b) (.int 1) = some (.int b) := rfl
theorem or_left {f g : DE1} {ρ : DEnv} {d : D} (h : f ρ = some d) : oOr f g ρ = some d := by unfold oOr; rw [h]; rfl
theorem gOr_left {g g' : D → D → Option D} {x y d : D} (h : g x y = some d) : gOr g g' x y = some d := by unfold gOr; rw [h]; rfl
theorem intsOf_map : ∀ l : List Int, intsOf (l.map D.int) = some l
  | [] => rfl
  | x :: l => by simp only [List.map_cons, intsOf, intsOf_map l, Option.map_some]
theorem gSum_lst (l : List Int) : gSum [.lst (l.map .int)] = some (.int l.sum) := by
  show (intsOf _).map _ = _
  rw [intsOf_map]
  rfl
theorem at_map {α : Type} {f : α → D} {l : List α} {i : Nat} {x : α} (h : l[i]? = some x) : atI (l.map f) (i : Int) = some (f x) := atI_nat (by rw [List.getElem?_map, h]; rfl)
theorem ixA_lst_map {α : Type} {f : α → D} {l : List α} {i : Nat} {x : α} (h : l[i]? = some x) : gIxA (.lst (l.map f)) (.int i) = some (f x) := gOr_left (at_map h)
theorem ixA_tup_map {α : Type} {f : α → D} {l : List α} {i : Nat} {x : α} (h : l[i]? = some x) : gIxA (.tup (l.map f)) (.int i) = some (f x) := gOr_left (at_map h)
/-! ### numbers drawn from the script -/
theorem lay_ints : ∀ l : List Int, PyData.canLayAll0 (l.map .int) = true
  | [] => rfl
  | x :: l => by
    show (PyData.canLay0 (.int x) && PyData.canLayAll0 (l.map .int)) = true
    rw [lay_ints l]; rfl
theorem depth_ints : ∀ l : List Int, PyData.depthAll (l.map .int) = 0
  | [] => rfl
  | x :: l => by
    show max 0 (PyData.depthAll (l.map .int)) = 0
    rw [depth_ints l]; rfl
theorem shaped_ints (l : List Int) (h : l.length ≤ 1000) : SeqAt.shaped (.list (l.map .int)) = true := by
  unfold SeqAt.shaped
  rw [Bool.and_eq_true]
  constructor
  · have := lay_ints l
    simp only [PyData.canLay0, this]
  · show decide (PyData.depthAll (l.map .int) + 1 ≤ 64) = true
    rw [depth_ints]; rfl
theorem script_ne (ns : List Int) (h : ns.length ≤ 63) : eqD true (.scr ns) (.lst []) = some (.bl (!ns.isEmpty)) := by
  have h1 := shaped_ints ns (by omega)
  have h2 : SeqAt.shaped (.list []) = true := shaped_ints [] (by decide)
  show (if SeqAt.shaped (.list (ns.map .int)) && SeqAt.shaped (.list []) then some (D.bl (if true = true then !PyData.eqv (.list (ns.map .int)) (.list []) else _)) else none) = _
  rw [h1, h2]
  cases ns <;> rfl
theorem script_neA (ns : List Int) (h : ns.length ≤ 63) : gEqA true (.scr ns) (.lst []) = some (.bl (!ns.isEmpty)) := gOr_left (script_ne ns h)
/-- a number drawn from the script: the laws' own first def -/
def gNum : DS1 := (gSeq (gSet 2 (eIf (e2 (gEqA true) (eVB 0) (eLst aNil)) (oOr (eSl (eVB 0) oNone (oSome (eC (.int 63)))) (eSlT (eVB 0) oNone (oSome (eC (.int 63))))) (eLst (aCons (eC (.int 5)) aNil))))
  (gSeq (gSet 3 (e2 gAddA (e2 gIxA (eVB 2) (e2 gModI (eCB gInt (aCons (eVB 1) aNil)) (eCB gLenA (aCons (eVB 2) aNil)))) (e2 gMulA (eC (.int 13)) (e2 gDivI (eVB 1) (eCB gLenA (aCons (eVB 2) aNil))))))
  (gSeq (gPar 4 5 (aCons (e2 gModI (eCB gInt (aCons (eVB 3) aNil)) (eC (.int 1000003))) (aCons (e2 gModI (eCB gInt (aCons (e2 gDivI (eVB 3) (eC (.int 1000003))) aNil)) (eC (.int 999983))) aNil)))
  (gSeq (gSet 6 (e2 gModI (eCB gInt (aCons (e2 gAddA (e2 gAddA (e2 gMulA (e2 gAddA (eVB 4) (e2 gMulA (eC (.int 977)) (eVB 1))) (eC (.int 48271))) (e2 gMulA (eC (.int 31)) (eVB 5))) (e2 gModI (eCB gInt (aCons (eCB gSum (aCons (eVB 2) aNil)) aNil)) (eC (.int 65521)))) aNil)) (eC (.int 2147483647))))
  (gRet (e2 gAddA (e2 gMulA (e2 gModI (eCB gInt (aCons (e2 gMulA (eVB 6) (e2 gAddA (e2 gAddA (eVB 6) (e2 gMulA (eC (.int 31)) (eVB 1))) (eC (.int 7)))) aNil)) (eC (.int 2147483629))) (eC (.int 65537))) (eVB 5)))))))
theorem num_ex (ns : List Int) (h : ns.length ≤ 63) {i : Int} (h0 : 0 ≤ i) (h1 : i ≤ 100000) : ∃ n : Int, mkF 7 gNum [.scr ns, .int i] = some (.int n) := by
  obtain ⟨L, hL, hl, e⟩ : ∃ L : List Int, L ≠ [] ∧ L.length ≤ 63 ∧ eIf (DL.e2 (gEqA true) (eVB 0) (eLst aNil)) (oOr (eSl (eVB 0) oNone (oSome (eC (.int 63)))) (eSlT (eVB 0) oNone (oSome (eC (.int 63))))) (eLst (aCons (eC (.int 5)) aNil)) [some (false, .scr ns), some (false, .int i), none, none, none, none, none] = some (.lst (L.map .int)) := by
    cases ns with
    | nil => exact ⟨[5], by decide, by decide, by simp only [mkF, startD, ap_Seq, back_ret, ap_Set, ap_SetF, ap_Call, ap_CB, ap_Cons, ap_Nil, ap_2, ap_C, ap_V, ap_VB, ap_Tup, ap_Lst, ap_If, ap_Not, ap_Nx, ap_Exp, ap_Par, ap_ParF, ap_Wh, ap_For, ap_IfS, ap_bN, ap_bT, ap_bC, ap_b0, ix0, ix1, gAdd_eq, gAddA_eq, gEqA_int, gEqA_int', ixA0, ixA1, gSub_eq, List.map_cons, List.map_nil, List.length_cons, List.length_nil, List.cons_append, List.nil_append, List.replicate, List.getElem?_cons_zero, List.getElem?_cons_succ, List.set_cons_zero, List.set_cons_succ, bind_s, Option.map_some, if_true, Nat.reduceAdd, Nat.reduceSub, Nat.reduceLeDiff, reduceIte, script_neA [] (by decide)]; rfl⟩
    | cons x r =>
      refine ⟨x :: r, by simp, h, ?_⟩
      have e1 : DL.cutD (x :: r) none (some 63) = x :: r := by
        unfold DL.cutD
        rw [HT.sIx_none, show HT.sIx (x :: r).length (x :: r).length (some 63) = min 63 (x :: r).length from HT.sIx_nat _ _ 63]
        rw [List.drop_zero, Nat.sub_zero, Nat.min_eq_right h, List.take_length]
      have e2 : eSl (eVB 0) oNone (oSome (eC (.int 63))) [some (false, .scr (x :: r)), some (false, .int i), none, none, none, none, none] = some (.lst ((x :: r).map .int)) := by
        show gSl (.scr (x :: r)) none (some 63) = _
        show some (D.lst ((DL.cutD (x :: r) none (some 63)).map D.int)) = _
        rw [e1]
      have e3 := or_left (g := eSlT (eVB 0) oNone (oSome (eC (.int 63)))) e2
      simp only [mkF, startD, ap_Seq, back_ret, ap_Set, ap_SetF, ap_Call, ap_CB, ap_Cons, ap_Nil, ap_2, ap_C, ap_V, ap_VB, ap_Tup, ap_Lst, ap_If, ap_Not, ap_Nx, ap_Exp, ap_Par, ap_ParF, ap_Wh, ap_For, ap_IfS, ap_bN, ap_bT, ap_bC, ap_b0, ix0, ix1, gAdd_eq, gAddA_eq, gEqA_int, gEqA_int', ixA0, ixA1, gSub_eq, List.map_cons, List.map_nil, List.length_cons, List.length_nil, List.cons_append, List.nil_append, List.replicate, List.getElem?_cons_zero, List.getElem?_cons_succ, List.set_cons_zero, List.set_cons_succ, bind_s, Option.map_some, if_true, Nat.reduceAdd, Nat.reduceSub, Nat.reduceLeDiff, reduceIte, script_neA (x :: r) h, List.isEmpty_cons, Bool.not_false]
      exact e3
  have hp : (0 : Int) < L.length := by
    cases L with
    | nil => exact absurd rfl hL
    | cons x r => simp
  have el : gLenA [.lst (L.map D.int)] = some (.int L.length) := by rw [gLenA_lst, List.length_map]
  have hm0 := Int.emod_nonneg i (show (L.length : Int) ≠ 0 by omega)
  have hm1 := Int.emod_lt_of_pos i hp
  have hd0 : 0 ≤ i / (L.length : Int) := Int.ediv_nonneg h0 (by omega)
  have hd1 : i / (L.length : Int) ≤ i := Int.ediv_le_self _ h0
  obtain ⟨k, hk⟩ : ∃ k : Nat, i % (L.length : Int) = k := ⟨(i % (L.length : Int)).toNat, by omega⟩
  obtain ⟨x, hx⟩ : ∃ x, L[k]? = some x := ⟨_, List.getElem?_eq_getElem (show k < L.length by omega)⟩
  have ex : gIxA (.lst (L.map D.int)) (.int (i % (L.length : Int))) = some (.int x) := by rw [hk]; exact ixA_lst_map hx
  have s1 : sz (L.length : Int) = true := sz_of (n := 10) (by omega) (by omega)
  have s2 : sz 13 = true := by decide
  have s3 : sz (i / (L.length : Int)) = true := sz_of (n := 20) (by omega) (by omega)
  have s4 : sz 1000003 = true := by decide
  have bnd : ∀ (a m : Int), 0 < m → m ≤ 2147483647 → 0 ≤ a % m ∧ a % m < 2147483647 := fun a m hm hm2 => ⟨Int.emod_nonneg _ (by omega), Int.lt_of_lt_of_le (Int.emod_lt_of_pos _ hm) hm2⟩
  generalize hA : (x + 13 * (i / (L.length : Int))) % 1000003 = A
  generalize hB : (x + 13 * (i / (L.length : Int))) / 1000003 % 999983 = B
  have bA : 0 ≤ A ∧ A < 2147483647 := hA ▸ bnd _ 1000003 (by decide) (by decide)
  have bB : 0 ≤ B ∧ B < 2147483647 := hB ▸ bnd _ 999983 (by decide) (by decide)
  generalize hM : ((A + 977 * i) * 48271 + 31 * B + L.sum % 65521) % 2147483647 = M
  have bM : 0 ≤ M ∧ M < 2147483647 := hM ▸ bnd _ 2147483647 (by decide) (by decide)
  have t1 : sz 977 = true := by decide
  have t2 : sz i = true := sz_of (n := 20) (by omega) (by omega)
  have t3 : sz (A + 977 * i) = true := sz_of (n := 40) (by omega) (by omega)
  have t4 : sz 48271 = true := by decide
  have t5 : sz 31 = true := by decide
  have t6 : sz B = true := sz_of (n := 40) (by omega) (by omega)
  have t7 : sz M = true := sz_of (n := 40) (by omega) (by omega)
  have t8 : sz (M + 31 * i + 7) = true := sz_of (n := 40) (by omega) (by omega)
  have t9 : sz (M * (M + 31 * i + 7) % 2147483629) = true := by
    have := bnd (M * (M + 31 * i + 7)) 2147483629 (by decide) (by decide)
    exact sz_of (n := 40) (by omega) (by omega)
  have t10 : sz 65537 = true := by decide
  refine ⟨M * (M + 31 * i + 7) % 2147483629 * 65537 + B, ?_⟩
  simp only [gNum, mkF, startD, ap_Seq, ap_Set, List.map_cons, List.map_nil, List.length_cons, List.length_nil, List.cons_append, List.nil_append, List.replicate, Nat.reduceAdd, Nat.reduceSub, e, List.set_cons_zero, List.set_cons_succ]
  simp only [mkF, startD, ap_Seq, back_ret, ap_Set, ap_SetF, ap_Call, ap_CB, ap_Cons, ap_Nil, ap_2, ap_C, ap_V, ap_VB, ap_Tup, ap_Lst, ap_If, ap_Not, ap_Nx, ap_Exp, ap_Par, ap_ParF, ap_Wh, ap_For, ap_IfS, ap_bN, ap_bT, ap_bC, ap_b0, ix0, ix1, gAdd_eq, gAddA_eq, gEqA_int, gEqA_int', ixA0, ixA1, gSub_eq, List.map_cons, List.map_nil, List.length_cons, List.length_nil, List.cons_append, List.nil_append, List.replicate, List.getElem?_cons_zero, List.getElem?_cons_succ, List.set_cons_zero, List.set_cons_succ, bind_s, Option.map_some, if_true, Nat.reduceAdd, Nat.reduceSub, Nat.reduceLeDiff, reduceIte, gInt_eq, el, mMod_eq hp, ex, mDiv_eq hp s1, mMulA_eq s2 s3, mMod_eq (show (0 : Int) < 1000003 by decide), mMod_eq (show (0 : Int) < 999983 by decide), mDiv_eq (show (0 : Int) < 1000003 by decide) s4, hA, hB, mMulA_eq t1 t2, mMulA_eq t3 t4, mMulA_eq t5 t6, gSum_lst, mMod_eq (show (0 : Int) < 65521 by decide), mMod_eq (show (0 : Int) < 2147483647 by decide), hM, mMulA_eq t5 t2, mMulA_eq t7 t8, mMod_eq (show (0 : Int) < 2147483629 by decide), mMulA_eq t9 t10]
end DL

set_option maxHeartbeats 4000000
/-! defs that may raise -/
namespace DL
open PySem PySem.Spec PyProof.Rows L2
variable [CT]
/-- what a def gives: a value, or an exception of the class with this number -/
inductive Out where
  | v (d : D) | ex (c : Nat)
inductive Fx where
  | fl (f : Fl) | ex (c : Nat) (ρ : DEnv)
abbrev DX1 := DEnv → Fx
def PostX (K : PySem.W.Frag) (H0 : Hp) (O0 : Addr → Prop) (N : Ends) (W : WX) : Fx → Prop
  | .fl f => Post K H0 O0 N f
  | .ex c ρ => ∀ d σ H, Stt K H0 O0 σ H ρ → W (.ref (CT.ct c)) d σ H
def tDSX (K : PySem.W.Frag) (W : WX) (g : DX1) : TS := fun N σ H => ∃ H0 O0 ρ, Stt K H0 O0 σ H ρ ∧ PostX K H0 O0 N W (g ρ)
def DSX (X : Cx) (W : WX) (st : Stmt) (g : DX1) : Prop := PS X st (tDSX X.K W g)
def DSsX (X : Cx) (W : WX) (st : List Stmt) (g : DX1) : Prop := PSs X st (tDSX X.K W g)
section
variable {X : Cx} {W : WX} {st : Stmt} {sts rest : List Stmt} {g g' : DS1} {gx gx' : DX1} {c e : Expr} {es : List Expr} {fc : DE1} {fs : DEnv → Option (List D)} {pos p : Pos}
def xOf (g : DS1) : DX1 := fun ρ => .fl (g ρ)
theorem dsx_of (h : DS X st g) : DSX X W st (xOf g) := PS.imp h fun N σ H q => q
theorem dssx_of (h : DSs X sts g) : DSsX X W sts (xOf g) := PSs.imp h fun N σ H q => q
def xSeq (g g' : DX1) : DX1 := fun ρ => match g ρ with
  | .fl (.nx ρ1) => g' ρ1
  | x => x
theorem dssx_one (h : DSX X W st gx) : DSsX X W [st] gx := pss_one h
theorem dssx_cons (h1 : DSX X W st gx) (h2 : DSsX X W rest gx') : DSsX X W (st :: rest) (xSeq gx gx') := PSs.imp (pss_cons h1 h2) fun N σ H ⟨H0, O0, ρ, S, p⟩ => by
  refine ⟨H0, O0, ρ, S, ?_⟩
  unfold xSeq at p
  cases e : gx ρ with
  | ex c ρ' => rw [e] at p; exact p
  | fl f =>
    rw [e] at p
    cases f with
    | nx ρ1 => exact fun σ' H' S' => ⟨H0, O0, ρ1, S', p⟩
    | rt d => exact p
    | bk ρ => exact p
    | ct ρ => exact p
    | stuck => exact p
def xIf (c : DE1) (g g' : DX1) : DX1 := fun ρ => match c ρ with
  | some (.bl true) => g ρ
  | some (.bl false) => g' ρ
  | _ => .fl .stuck
theorem dsx_if {A B : List Stmt} (hc : DT X c fc) (ha : DSsX X W A gx) (hb : DSsX X W B gx') : DSX X W (.If c A B pos) (xIf fc gx gx') := PS.imp (ps_if hc ha hb) fun N σ H ⟨H0, O0, ρ, S, p⟩ => by
  obtain ⟨s, ow, S1, h⟩ := id S
  unfold xIf at p
  split at p
  · rename_i e
    exact ⟨O0, ow, ρ, S1, true, e, fun H' s' => iteT ⟨H0, O0, ρ, S.same s', p⟩⟩
  · rename_i e
    exact ⟨O0, ow, ρ, S1, false, e, fun H' s' => iteF ⟨H0, O0, ρ, S.same s', p⟩⟩
  · exact p.elim
def xRaise (c : Nat) : DX1 := fun ρ => .ex c ρ
theorem dsx_raise {c : Nat} (hc : X.calm = true) (tk : Takes X W) (he : PMk X e (fun _ H Q => Q (.ref (CT.ct c)) none H)) : DSX X W (.Raise (some e) none pos) (xRaise c) := PS.imp (ps_raise hc tk he) fun N σ H ⟨H0, O0, ρ, S, p⟩ => p none σ H S
/-! a def that may raise -/
def spX (K : PySem.W.Frag) (n : Nat) (F : List D → Option Out) : Sp := fun vs H Q E => vs.length = n ∧ ∃ (O0 : Addr → Prop) (ds : List D), (∀ a, O0 a → ∃ o, H a = some o) ∧ Reps K (hide O0 H) vs ds ∧ ∃ o, F ds = some o ∧
  match o with
  | .v d => ∀ v H', Same H H' → Rep K (hide O0 H') v d → Q v H'
  | .ex c => ∀ a H', Same H H' → E (.ref (CT.ct c)) a H'
def mkX (m : Nat) (g : DX1) : List D → Option Out := fun ds => match g (startD m ds) with
  | .fl (.rt d) => some (.v d)
  | .fl (.nx _) => some (.v .non)
  | .ex c _ => some (.ex c)
  | _ => none
theorem defX_ok {P : Program} {w : World} {K : PySem.W.Frag} {mg : Str → Option Value} {base : Heap} {x qual : Str} {f : Addr} {fd : FuncData} (st : Stmt) (N ps : List Str) (k m n : Nat) (g : DX1) (F : Fun K x qual st f fd) (S : FnScope N ps (defScope st)) (hm : N.length = m) (hn : ps.length = n)
    (h : ∀ (cdv : Value) (A : Around) (outer : List Env) (s : Shared) (H : Hp) (E : XK), Room k (A.deeper (envOfC qual (defScope st) s.heap.objs.size f cdv)) →
      DSsX (cxOf (L2.CX P w) P w K mg base N qual (defScope st) f cdv A outer s H E) (fun cls d _ H => E cls d H) (defBody st) g) :
    FnOk P w K mg base (L2.CX P w) (k + 1) f fd ps (spX K n (mkX m g)) := by
  subst hm hn
  refine F.okX S (fun vs H Q E h => h.1) (fun cdv A outer s H vs Q E hr h' => ⟨_, h cdv A outer s H E hr, ?_⟩)
  obtain ⟨hn, O0, ds, t, r, o, e, q⟩ := h'
  refine ⟨H, O0, _, ⟨.refl _, _, start_sl t r, fun i a z => (by cases z)⟩, ?_⟩
  unfold mkX at e
  split at e
  · rename_i d eg; cases e; rw [eg]; exact q
  · rename_i ρ eg; cases e; rw [eg]; exact fun σ H' S' => q .non H' S'.1 .non
  · rename_i c ρ eg; cases e; rw [eg]; exact fun a σ H' S' => q a H' S'.1
  · cases e
/-! calls of it: as a statement that may raise; where it does not raise -/
def xCall (n : Nat) (F : List D → Option Out) (fs : DEnv → Option (List D)) : DX1 := fun ρ => match fs ρ with
  | some ds => if ds.length = n then (match F ds with
    | some (.v _) => .fl (.nx ρ)
    | some (.ex c) => .ex c ρ
    | none => .fl .stuck) else .fl .stuck
  | none => .fl .stuck
theorem dsx_call {fa : Addr} {fd : FuncData} {ps : List Str} {k n : Nat} {x : Str} {F : List D → Option Out} {spos : Pos} (tk : Takes X W) (Fk : FnOk X.prog X.w X.K X.mg X.base (L2.CX X.prog X.w) k fa fd ps (spX X.K n F)) (hr : Room k X.A) (hg : Gl X x) (hm : X.mg x = some (.ref fa)) (hk : PySem.W.keepIn X.K (.ref fa) = true) (hb : Binds X.K fd ps [])
    (ha : DA X (e :: es) fs) (hdb : (x == ("__debug__" : Str)) = false := by decide) (he : starEach (e :: es) X.env = (false, eval e X.env) :: starEach es X.env := by rfl) (hpl : (backTo pos (starEach es X.env)).any (·.1) = false := by rfl)
    (hs : swapsWith (.Call (.Name x p) (e :: es) [] pos) none spos.line X.env = pure false := by rfl) :
    DSX X W (.Expr (.Call (.Name x p) (e :: es) [] pos) spos) (xCall n F fs) := PS.imp (ps_expr (pe_callS Fk hr hg hm hk hb (fun σ => passAt tk σ) ha hdb he hpl) hs) fun N σ H ⟨H0, O0, ρ, S, p⟩ => by
  obtain ⟨s, ow, S1, hh⟩ := id S
  unfold xCall at p
  split at p
  · rename_i ds ef
    split at p
    · rename_i hl
      refine ⟨O0, ow, ρ, S1, ds, ef, fun vs H1 s1 r1 => ⟨by rw [r1.length]; exact hl, hid O0 ow, ds, (S1.same s1).trk, r1, ?_⟩⟩
      split at p
      · rename_i d eF
        exact ⟨_, eF, fun v H' s' _ => p σ H' (S.same (s1.trans s'))⟩
      · rename_i c eF
        exact ⟨_, eF, fun a H' s' => p a σ H' (S.same (s1.trans s'))⟩
      · exact p.elim
    · exact p.elim
  · exact p.elim
def eCallV (n : Nat) (F : List D → Option Out) (fs : DEnv → Option (List D)) : DE1 := fun ρ => (fs ρ).bind fun ds => if ds.length = n then (match F ds with
  | some (.v d) => some d
  | _ => none) else none
theorem de_callV {fa : Addr} {fd : FuncData} {ps : List Str} {k n : Nat} {x : Str} {F : List D → Option Out} (Fk : FnOk X.prog X.w X.K X.mg X.base (L2.CX X.prog X.w) k fa fd ps (spX X.K n F)) (hr : Room k X.A) (hg : Gl X x) (hm : X.mg x = some (.ref fa)) (hk : PySem.W.keepIn X.K (.ref fa) = true) (hb : Binds X.K fd ps [])
    (ha : DA X (e :: es) fs) (hdb : (x == ("__debug__" : Str)) = false := by decide) (he : starEach (e :: es) X.env = (false, eval e X.env) :: starEach es X.env := by rfl) (hpl : (backTo pos (starEach es X.env)).any (·.1) = false := by rfl) :
    DE X (.Call (.Name x p) (e :: es) [] pos) (eCallV n F fs) := PE.imp (pe_call Fk hr hg hm hk hb .nil passL ha hdb he hpl) fun σ H Q ⟨O0, ow, ρ, S, d, e, k⟩ => by
  unfold eCallV at e
  simp only [Option.bind_eq_some_iff] at e
  obtain ⟨ds, e1, e⟩ := e
  split at e
  · rename_i hl
    split at e
    · rename_i d' eF
      cases e
      refine ⟨O0, ow, ρ, S, ds, e1, fun vs H1 s1 r1 => ⟨by rw [List.append_nil, r1.length]; exact hl, hid O0 ow, ds, (S.same s1).trk, by rw [List.append_nil]; exact r1, _, eF, fun v H2 s2 r => k v H2 (s1.trans s2) r⟩⟩
    · cases e
  · cases e
/-! try: .. except X: .. -/
def gTry (cs : List Nat) (gb : DX1) (gs : DS1) : DS1 := fun ρ => match gb ρ with
  | .fl f => f
  | .ex c ρ' => if cs.contains c then gs ρ' else .stuck
def ExmOk (K : PySem.W.Frag) (cs : List Nat) (C : Nat) : Prop := ∀ c, cs.contains c = true → PySem.W.exmOne K (.ref (CT.ct c)) (.ref (CT.ct C)) = some true
theorem ds_try {body suite : List Stmt} {b₀ : Stmt} {x : Str} {np pos' : Pos} {cs : List Nat} {C : Nat} {gb : DX1} {gs : DS1} (hs : X.stack = X.env :: X.outer) (hf : X.env.frame = some X.env.locals) (hc : Names X x (.ref (CT.ct C))) (xm : ExmOk X.K cs C)
    (hb : ∀ (W : WX) (pn : List (Addr × Obj)) (xe : Value → Shared → Prop), Takes (X.tr pn xe) W → PassesOwn (model X.prog X.w) X.A X.env xe → DSsX (X.tr pn xe) W body gb)
    (hsu : ∀ (a : Addr) (pn : List (Addr × Obj)), DSs (X.suite a pn) (b₀ :: suite) gs) :
    DS X (.Try body [.ExceptHandler (some (.Name x np)) none (b₀ :: suite) pos'] [] [] pos) (gTry cs gb gs) := PS.imp (ps_try_only (tb := fun W => tDSX X.K W gb) (ts := fun _ _ _ => tDS X.K gs) hs hf hc takes0 hb fun a oe cls d pn _ _ => hsu a _) fun N σ H ⟨H0, O0, ρ, S, p⟩ => by
  refine ⟨H0, O0, ρ, S, ?_⟩
  unfold gTry at p
  cases e : gb ρ with
  | fl f => rw [e] at p; exact p
  | ex c ρ' =>
    rw [e] at p
    simp only at p
    split at p
    · rename_i hcs
      exact fun d σ' H' S' => ⟨true, xm c hcs, fun _ a _ => ⟨H0, O0, ρ', S', p⟩, fun z => nomatch z⟩
    · exact p.elim
end
end DL

/-! enumerate of a tuple -/
namespace DK
open PySem PySem.Spec PyProof.Rows L2
set_option maxHeartbeats 1000000 in
theorem enum_new1 {v : Value} {o : Obj} {H : Heap → Prop} (B : Begins v o H) : Meets (Builtin.«enumerate.__new__» ⟨[.type "enumerate", v], []⟩) (fun _ R s => H s.heap ∧
    R (.ok (.ret (.ref (s.heap.push o).objs.size))) { s with heap := (s.heap.push o).push { cls := .type "enumerate", data := .fields #[.none, .bool false, .ref s.heap.objs.size, rawInt 0, .none, .none] } }) :=
  .of_wp fun prog w A R s hh => by
    obtain ⟨hp, g, d, tk, os⟩ := s
    obtain ⟨hv, hh⟩ := hh
    have sub := sub_enumerate
    have it1 : ∀ {A' : Around} {E : Value → Shared → Prop} {Q : Value → Shared → Prop}, Q (.ref hp.objs.size) ⟨hp.push o, g, d, tk, os⟩ → wpAny (model prog w) A' (pyIter v) Q E ⟨hp, g, d, tk, os⟩ := fun q => B.iter prog w _ _ ⟨hp, g, d, tk, os⟩ _ hv q
    wp_walk using it1
    refine wpAny_stack_any fun st => wpAny_pure ?_
    split
    · rename_i c _ _ _ _ _
      cases (c == Value.type "enumerate") <;> (wp_walk using it1; exact ⟨_, rfl, hh⟩)
    · wp_walk using it1
      exact ⟨_, rfl, hh⟩
theorem enum_call1 {prog : Program} {w : World} {A : Around} {E : Value → Shared → Prop} {s : Shared} {v : Value} {o : Obj} {H : Heap → Prop} {Q : Value → Shared → Prop} (B : Begins v o H) (hv : H s.heap)
    (h : ∀ h', IsEnum h' (s.heap.objs.size + 1) s.heap.objs.size 0 .none → h'.get? s.heap.objs.size = some o → (∀ b u, s.heap.get? b = some u → h'.get? b = some u) → Q (.ref (s.heap.objs.size + 1)) { s with heap := h' }) :
    wpAny (model prog w) A (call (.type "enumerate") [v]) Q E s := by
  refine callType_new F.called_enumerate (by decide) (F.typeCall_enumerate_1 _) (F.newCall_enumerate_1 _) (fun obj => F.args_object_init_2 obj _) F.entry_enumerate_new (enum_new1 B) ⟨hv, ?_⟩
  have n1 : (s.heap.push o).objs.size = s.heap.objs.size + 1 := Heap.size_push ..
  show _ ∧ _
  rw [n1]
  have top := Heap.get?_push_size (s.heap.push o) (o := { cls := .type "enumerate", data := .fields #[.none, .bool false, .ref s.heap.objs.size, rawInt 0, .none, .none] }) rfl
  rw [n1] at top
  exact ⟨⟨_, top, rfl⟩, h _ top (Heap.get?_push_of_some _ (Heap.get?_push_size _ B.free)) fun b u q => Heap.get?_push_of_some _ (Heap.get?_push_of_some _ q)⟩
/-- the tuple at a, each item in a new pair with its index -/
def ItT (K : PySem.W.Frag) (a : Addr) : It where
  go := fun i H => ∃ (xs : List V) (x : V), SqT K H a xs ∧ xs[i]? = some x
  yld := fun i H v H' => ∃ T x, v = .ref T ∧ H T = none ∧ H' = upd H T (.tup [.int (i : Nat), x]) ∧ ∀ xs, SqT K H a xs → xs[i]? = some x
  stop := fun i H => ∃ xs : List V, SqT K H a xs ∧ xs.length ≤ i
section
variable {P : Program} {w : World} {K : PySem.W.Frag} {elts : List Expr} {kk : Nat} {tpos : Pos}
theorem of_two {b e it : Addr} (h : b ∈ [e, it]) : b = e ∨ b = it := by simpa using h
theorem turn_enumT (a e it : Addr) : Turn P w K (.Tuple elts kk tpos) (ItT K a) [e, it] e (fun i h => (∃ old, IsEnum h e it ((i : Nat) : Int) old) ∧ h.IsTupleIter it a i ∧ e ≠ it ∧ a ≠ it ∧ a ≠ e) := by
  refine ⟨by simp, fun i h st b hb => ?_, fun i h h' st k => ?_, ?_, ?_, fun A i s Q E st h => let ⟨⟨_, z⟩, _⟩ := st; wpAny_pyIter_enum z h⟩
  · obtain ⟨⟨old, he⟩, ⟨o, ho, hc, hd⟩, _⟩ := st
    rcases of_two hb with z | z
    · subst z; exact ⟨_, he, fun v q => nomatch q⟩
    · subst z; exact ⟨o, ho, fun v q => by rw [hd] at q; cases q⟩
  · obtain ⟨⟨old, he⟩, hi, r⟩ := st
    exact ⟨⟨old, k e (by simp) _ he⟩, hi.at fun o q => k it (by simp) o q, r⟩
  · rintro X rfl rfl rfl hc i pins s σ H E I hf ⟨⟨old, he⟩, hit, n1, n2, n3⟩ ⟨xs, x, hq, hx⟩
    obtain ⟨its, rv, ht, hz⟩ := I.tuple hq
    obtain ⟨u, hu, ru⟩ := rv.get hx
    have el : e < s.heap.objs.size := Heap.lt_size he
    have il : it < s.heap.objs.size := by obtain ⟨_, q, _⟩ := hit; exact Heap.lt_size q
    have lt : i < its.toArray.size := by
      obtain ⟨z, _⟩ := List.getElem?_eq_some_iff.mp hu
      simpa using z
    have D := Draws.tuple (prog := X.prog) (w := X.w) (A := X.A.in1) (I.ok.hd hc) it a n2 its.toArray
    refine wpAny_pyNext_enum_itemC D he ⟨hit, ht⟩ lt n1 (by simp [n1, Ne.symm n3]) fun y h1 tk hy out ⟨hit1, _⟩ hT hsz hk => ⟨_, rfl, wpAny_letOwnedTupleGo_enum (s := { s with heap := h1, toks := tk + 1 }) out fun h2 he2 sb => ?_⟩
    have ey : y = u := by
      have : its.toArray[i]? = some y := hy
      rw [List.getElem?_toArray, hu] at this
      exact (Option.some.inj this).symm
    subst ey
    have hT2 : h2.get? s.heap.objs.size = some { cls := .type "tuple", data := .seq #[.int i tk, y] } := (sb.2 _ (Nat.ne_of_gt el)).trans hT
    have fresh : ObjOk X.prog X.w (upd H s.heap.objs.size (.tup [.int (i : Nat), x])) h2 s.heap.objs.size (.tup [.int (i : Nat), x]) :=
      ⟨(by decide : 2 ≤ sizeLine), [.int i tk, y], .cons ⟨_, rfl⟩ (.cons ru .nil), ⟨_, hT2, rfl, _, rfl⟩⟩
    refine ⟨.ref s.heap.objs.size, _, I.turnedNew (t' := tk + 1) (ch := [e, it]) (fun b ob hb q => ?_) hf (Nat.le_refl _) fresh, rfl, ⟨_, x, rfl, I.hok.fresh (Nat.le_refl _), rfl, fun ys hy => by rw [I.tuple_inj hy hq]; exact hx⟩, ⟨⟨y, ?_⟩, hit1.at fun o q => (sb.2 it (Ne.symm n1)).trans q, n1, n2, n3⟩, fun b hb => ?_⟩
    · exact (sb.2 b (fun z => hb (by simp [z]))).trans (hk b ob (fun z => hb (by simp [z])) (fun z => hb (by simp [z])) q)
    · rw [show ((i + 1 : Nat) : Int) = (i : Int) + 1 by omega]; exact he2
    · have lb : b < s.heap.objs.size := by
        rcases of_two hb with z | z
        · rw [z]; exact el
        · rw [z]; exact il
      rw [upd_ne (Nat.ne_of_lt lb)]
      exact (hf b hb).1
  · rintro X rfl rfl rfl hc i pins s σ H E I hf ⟨⟨old, he⟩, hit, n1, n2, n3⟩ ⟨xs, hq, hx⟩
    obtain ⟨its, rv, ht, hz⟩ := I.tuple hq
    have hl := rv.length
    obtain ⟨a0, a1, a2, a3, a4, a5⟩ := hf it (by simp)
    -- behind the end the iterator stands wherever the walk has come to
    have ei : its.toArray[i]? = none := by rw [List.getElem?_toArray]; exact List.getElem?_eq_none (by omega)
    have D : Draws X.prog X.w X.A.in1 it [it, a] i (fun _ _ => False) (fun j h => j = i ∧ h.IsTupleIter it a i ∧ h.IsTuple a its.toArray) :=
      ⟨fun _ _ st => let ⟨o, ho, _⟩ := st.2.1; ⟨o, ho⟩, fun _ _ _ st hk => ⟨st.1, st.2.1.at fun o q => hk it (by simp) o q, st.2.2.at fun o q => hk a (by simp) o q⟩, fun j s Q E hj st _ => absurd hj (by rw [st.1]; exact Nat.lt_irrefl _),
        fun s Q E st hE => wpAny_nextOf_tuple_end (I.ok.hd hc) st.2.1 st.2.2 ei hE⟩
    exact wpAny_pyNext_enum_endD D he ⟨rfl, hit, ht⟩ fun h' eb => ⟨rfl, I.turned (t' := s.toks) (fun b o hb q => eb b o hb q) a0 a1 a3 a4 a5⟩
end
def iEnumT (K : PySem.W.Frag) (ta : TA) : TI := fun σ H R => ta σ H fun vs H1 => ∃ a xs, vs = [.ref a] ∧ SqT K H1 a xs ∧ R (ItT K a) H1
theorem pi_enumT {X : Cx} {e : Expr} {ta : TA} {p pos tpos : Pos} {elts : List Expr} {kk : Nat} (hg : Gl X "enumerate") (hm : X.mg "enumerate" = none) (ha : PA X [e] ta) (hs : starEach [e] X.env = [(false, eval e X.env)] := by rfl) :
    PI X (.Tuple elts kk tpos) (.Call (.Name "enumerate" p) [e] [] pos) (iEnumT X.K ta) := ⟨fun pins s σ H R I h => by
  refine Call_ (ld_blt I hg hm boot_enumerate (PyProof.Rows.callWith_type1 (thn (ha.run pos pins s σ H _ I h) fun us s1 ⟨vs, H1, I1, r1, a, xs, ex, hq, q⟩ => ?_) hs rfl))
  subst ex
  cases r1 with
  | cons r rr =>
    cases rr
    cases ref_of r
    obtain ⟨its, rv, ht, hz⟩ := I1.tuple hq
    have al : a < s1.heap.objs.size := by obtain ⟨o, ho, _⟩ := ht; exact Heap.lt_size ho
    refine enum_call1 (begins_tuple a its.toArray) ht fun h' he hit hk => wpAny_pyIter_enum he ?_
    have I2 : L2.Inv X pins σ H1 { s1 with heap := h' } := I1.kept (t' := s1.toks) hk
    refine ⟨s1.heap.objs.size + 1, [s1.heap.objs.size + 1, s1.heap.objs.size], _, _, H1, rfl, I2, turn_enumT a (s1.heap.objs.size + 1) s1.heap.objs.size, ⟨⟨.none, he⟩, ⟨_, hit, rfl, rfl⟩, Nat.succ_ne_self _, Nat.ne_of_lt al, Nat.ne_of_lt (Nat.lt_succ_of_lt al)⟩, fun b hb => ?_, q⟩
    have hle : s1.heap.objs.size ≤ b := by
      rcases of_two hb with z | z
      · rw [z]; exact Nat.le_add_right _ _
      · rw [z]; exact Nat.le_refl _
    exact I1.fpOk hle (I1.hok.fresh hle)⟩
end DK

set_option maxHeartbeats 4000000
namespace DL
open PySem PySem.Spec PyProof.Rows L2
variable [CT]
section
variable {X : Cx} {tg e e1 e2 ia ib : Expr} {f g fa fb : DE1} {st : Stmt} {p pos tpos : Pos}
/-! enumerate of a list or a tuple -/
def iEnT (f : DE1) : DEnv → Option (List D) := fun ρ => match f ρ with
  | some (.tup xs) => some (enD 0 xs)
  | _ => none
theorem di_enumT {elts : List Expr} {kk : Nat} (hg : Gl X "enumerate") (hm : X.mg "enumerate" = none) (h : DE X e f) (hs : starEach [e] X.env = [(false, eval e X.env)] := by rfl) :
    DI X (.Tuple elts kk tpos) (.Call (.Name "enumerate" p) [e] [] pos) (iEnT f) :=
  PI.imp (DK.pi_enumT hg hm (pa_cons h pa_nil (hs := hs)) hs) fun σ H R ⟨O0, ow, ρ, S, ds, q, k⟩ => by
  unfold iEnT at q
  split at q
  · rename_i xs ef
    cases q
    refine ⟨O0, ow, ρ, S, _, ef, fun v H1 s r => ?_⟩
    cases r with
    | tup sq rs =>
      rename_i a vs
      have ln := rs.length
      refine ⟨a, vs, rfl, Same.sqT hide_le sq, k _ H1 s ⟨fun H2 e2 => ⟨vs, Same.sqT e2 sq, by rw [enD_length]; omega⟩, fun i d H2 e2 hd => ?_, fun i d H2 x H3 e2 hd y => ?_⟩⟩
      · obtain ⟨z, hz, _⟩ := enD_get hd
        obtain ⟨v, hv, _⟩ := rs.get hz
        exact ⟨vs, v, Same.sqT e2 sq, hv⟩
      · obtain ⟨z, hz, rfl⟩ := enD_get hd
        obtain ⟨v, hv, r⟩ := rs.get hz
        obtain ⟨T, x1, rfl, nT, rfl, f1⟩ := y
        have e1 := f1 _ (Same.sqT e2 sq)
        rw [hv] at e1; cases e1
        refine ⟨same_upd nT, fun O' h1 h2 => pair_rep e2 nT h1 h2 ?_ r⟩
        rw [Nat.zero_add]; exact .int _
  · cases q
def iEnA (f : DE1) : DEnv → Option (List D) := fun ρ => (iEn f ρ).or (iEnT f ρ)
theorem di_enumA {elts : List Expr} {kk : Nat} (hg : Gl X "enumerate") (hm : X.mg "enumerate" = none) (h : DE X e f) (hs : starEach [e] X.env = [(false, eval e X.env)] := by rfl) :
    DI X (.Tuple elts kk tpos) (.Call (.Name "enumerate" p) [e] [] pos) (iEnA f) := DI.two (di_enum hg hm h hs) (di_enumT hg hm h hs) fun ρ d z => or_some z
/-! an item of a list or a dict that a name alone holds -/
theorem DS.two {g1 g2 k : DS1} (h1 : DS X st g1) (h2 : DS X st g2) (hk : ∀ ρ, k ρ = g1 ρ ∨ k ρ = g2 ρ) : DS X st k := ⟨fun pins s σ H N I ⟨H0, O0, ρ, S, p⟩ => by
  rcases hk ρ with z | z
  · exact h1.run pins s σ H N I ⟨H0, O0, ρ, S, by rw [← z]; exact p⟩
  · exact h2.run pins s σ H N I ⟨H0, O0, ρ, S, by rw [← z]; exact p⟩⟩
def isLst : Slot → Bool
  | some (true, .lst _) => true
  | _ => false
def gSetA (i : Nat) (fi f : DE1) : DS1 := fun ρ => if (ρ[i]?.map isLst) = some true then gSetI i fi f ρ else gSetD i fi f ρ
theorem ds_setA (hu : X.A.units + 64 < cLine) (i : Nat) {x : Str} {p1 spos : Pos} (hv : PE X (.Name x p1) (tVar i)) (hi : DE X ia fa) (he : DE X e f)
    (hl : PS X (.Assign [.Subscript (.Name x p1) ia tpos] e spos) (tAsg (tDE X.K f) (gSub (tVar i) (tDE X.K fa) rSetL)))
    (hd : PS X (.Assign [.Subscript (.Name x p1) ia tpos] e spos) (tAsg (tDE X.K f) (gSub (tVar i) (tDE X.K fa) (rTSet X)))) : DS X (.Assign [.Subscript (.Name x p1) ia tpos] e spos) (gSetA i fa f) :=
  DS.two (ds_setI i hv hi he hl) (ds_setD hu i hv hi he hd) fun ρ => by
    unfold gSetA
    split
    · exact .inl rfl
    · exact .inr rfl
/-! l[a], l[b] = x, y -/
def gSwap (i : Nat) (fa fb f g : DE1) : DS1 := fun ρ => match f ρ, g ρ, ρ[i]? with
  | some d1, some d2, some (some (true, .lst ds)) => match fa ρ with
    | some (.int k1) => match ixN ds.length k1 with
      | some j1 => match fb (ρ.set i (some (true, .lst (ds.set j1 d1)))) with
        | some (.int k2) => match ixN ds.length k2 with
          | some j2 => .nx ((ρ.set i (some (true, .lst (ds.set j1 d1)))).set i (some (true, .lst ((ds.set j1 d1).set j2 d2))))
          | none => .stuck
        | _ => .stuck
      | none => .stuck
    | _ => .stuck
  | _, _, _ => .stuck
theorem Sl.lenσ {K : PySem.W.Frag} {O0 : Addr → Prop} {H : Hp} {σ : L2.St} {ρ : DEnv} {ow : Nat → Option Addr} (S : Sl K O0 H σ ρ ow) {i : Nat} {s : Slot} (h : ρ[i]? = some s) : (ρ.set i s).length = ρ.length := by simp
theorem ds_swap (i : Nat) {x : Str} {p1 p2 spos t1 t2 tt : Pos} {kk k2 : Nat} (hv : PE X (.Name x p1) (tVar i)) (hw : PE X (.Name x p2) (tVar i)) (ha : DE X ia fa) (hb : DE X ib fb) (h1 : DE X e1 f) (h2 : DE X e2 g)
    (h : PS X (.Assign [.Tuple [.Subscript (.Name x p1) ia t1, .Subscript (.Name x p2) ib t2] kk tt] (.Tuple [e1, e2] k2 pos) spos) (tAsg (tDE X.K (eTup (aCons f (aCons g aNil)))) (gTup X.K 2 (gCons (gSub (tVar i) (tDE X.K fa) rSetL) (gCons (gSub (tVar i) (tDE X.K fb) rSetL) gNil))))) :
    DS X (.Assign [.Tuple [.Subscript (.Name x p1) ia t1, .Subscript (.Name x p2) ib t2] kk tt] (.Tuple [e1, e2] k2 pos) spos) (gSwap i fa fb f g) := PS.imp h fun N σ H ⟨H0, O0, ρ, ⟨s, ow, S, hn⟩, p⟩ => by
  unfold gSwap at p
  split at p
  · rename_i d1 d2 ds ef eg ei
    split at p
    · rename_i k1 ea
      split at p
      · rename_i j1 hj1
        split at p
        · rename_i k2' eb
          split at p
          · rename_i j2 hj2
            obtain ⟨o, h1, l, hwl, rfl, t⟩ := S.sl i _ ei
            cases t with
            | lst hL rs =>
              rename_i vs
              have hid_l : hid O0 ow l := .inr ⟨i, hwl⟩
              refine ⟨O0, ow, ρ, S, .tup [d1, d2], by simp [eTup, aCons, aNil, ef, eg], fun v H1 s1 r1 => ?_⟩
              cases r1 with
              | tup sq rr =>
                cases rr with
                | @cons v1 _ _ _ r1 rr =>
                  cases rr with
                  | @cons v2 _ _ _ r2 rr =>
                    cases rr
                    refine ⟨_, _, rfl, Same.sqT hide_le sq, rfl, v1, _, rfl, .ref l, h1, O0, ow, ρ, S.same s1, _, ea, fun vi H2 s2 ri => ?_⟩
                    cases ri
                    have s12 := s1.trans s2
                    have hL2 := s12 _ _ hL
                    have r1' := r1.same (hide_same s2)
                    have r2' := r2.same (hide_same s2)
                    have S2 := (S.same s12).wr ei hwl (o := .lst (vs.set j1 v1)) (d' := .lst (ds.set j1 d1)) fun Hh sm => .lst upd_same (((rs.same (hide_same s12)).set r1' j1).same sm)
                    refine ⟨l, vs, k1, j1, rfl, rfl, hL2, by rw [rs.length]; exact hj1, v2, _, rfl, .ref l, h1, O0, ow, _, S2, _, eb, fun vj H3 s3 rj => ?_⟩
                    cases rj
                    have r2'' := (r2'.same (hide_upd hid_l)).same (hide_same (O := hid O0 ow) s3)
                    have hL3 := s3 _ _ (upd_same (H := H2) (a := l) (o := .lst (vs.set j1 v1)))
                    have lt : i < ρ.length := by
                      obtain ⟨z, _⟩ := List.getElem?_eq_some_iff.mp ei
                      exact z
                    have ei2 : (ρ.set i (some (true, D.lst (ds.set j1 d1))))[i]? = some (some (true, .lst (ds.set j1 d1))) := by simp [lt]
                    have rs2 : Reps X.K (hide (hid O0 ow) (upd H2 l (.lst (vs.set j1 v1)))) (vs.set j1 v1) (ds.set j1 d1) := ((rs.same (hide_same s12)).set r1' j1).same (hide_upd hid_l)
                    refine ⟨l, vs.set j1 v1, k2', j2, rfl, rfl, hL3, by rw [List.length_set, rs.length]; exact hj2, rfl, p _ _ ⟨fun b u q => ?_, ow, (S2.same s3).wr ei2 hwl fun Hh sm => .lst upd_same (((rs2.same (hide_same s3)).set r2'' j2).same sm), hn⟩⟩
                    have nl := hn i l hwl
                    have bl : b ≠ l := fun z => by subst z; rw [nl] at q; cases q
                    rw [upd_ne bl]
                    refine s3 _ _ ?_
                    rw [upd_ne bl]
                    exact s12 _ _ (s _ _ q)
          · exact p.elim
        · exact p.elim
      · exact p.elim
    · exact p.elim
  · exact p.elim
end
end DL

set_option maxHeartbeats 4000000
/-! names set together, a new list among them -/
namespace DL
open PySem PySem.Spec PyProof.Rows L2
variable [CT]
section
variable {X : Cx} {a b c : Expr} {f g h : DE1} {pos : Pos}
theorem own_sub {O0 : Addr → Prop} {ow : Nat → Option Addr} {j : Nat} {q : Addr} : ∀ b, hid O0 (owSet ow j (some q)) b → hid (fun b => O0 b ∨ b = q) ow b := fun b z => by
  rcases z with z | ⟨i, z⟩
  · exact .inl (.inl z)
  · unfold owSet at z
    split at z
    · cases z; exact .inl (.inr rfl)
    · exact .inr ⟨i, z⟩
/-- kept, owned -/
def gParKO (i j : Nat) (f g : DE1) : DS1 := fun ρ => match f ρ, g ρ with
  | some x, some y => .nx ((ρ.set i (some (false, x))).set j (some (true, y)))
  | _, _ => .stuck
theorem ds_parKO (i j : Nat) {x y : Str} {px py pt : Pos} {kt k2 pt2} (hc : X.calm = true) (hN : X.N.Nodup) (ha : DE X a f) (hb : DF X b g) (hs1 : starEach [a, b] X.env = (false, eval a X.env) :: starEach [b] X.env := by rfl) (hs2 : starEach [b] X.env = (false, eval b X.env) :: starEach [] X.env := by rfl)
    (hi : X.N[i]? = some x := by rfl) (hj : X.N[j]? = some y := by rfl) (hij : i ≠ j := by decide) (hx : X.env.scope.names.lookup x = some .local := by rfl) (hy : X.env.scope.names.lookup y = some .local := by rfl)
    (hw : swappedStores [.Tuple [.Name x px, .Name y py] kt pt] (.Tuple [a, b] k2 pt2) X.env = pure (some [x, y]) := by rfl)
    (hs : swapsWithSole [.Tuple [.Name x px, .Name y py] kt pt] (.Tuple [a, b] k2 pt2) pos.line X.env = pure false := by rfl) :
    DS X (.Assign [.Tuple [.Name x px, .Name y py] kt pt] (.Tuple [a, b] k2 pt2) pos) (gParKO i j f g) := PS.imp (ps_par hc hN hi hj hij hx hy (pa_cons ha (pa_cons hb pa_nil hs2) hs1) hw hs) fun N σ H ⟨H0, O0, ρ, ⟨s, ow, S, h⟩, p⟩ => by
  unfold gParKO at p
  split at p
  · rename_i d1 d2 ef1 ef2
    refine ⟨O0, ow, ρ, S, _, ef1, fun v1 H1 s1 r1 => ⟨O0, ow, ρ, S.same s1, _, ef2, fun a2 H2 s2 n2 t2 => ⟨_, _, rfl, p _ H2 ?_⟩⟩⟩
    refine ⟨s.trans (s1.trans s2), _, ((S.same s1).set r1).setF (i := j) s2 n2 t2, fun l b q => ?_⟩
    unfold owSet at q
    split at q
    · cases q; exact Same.free (s.trans s1) n2
    · exact h l b q
  · exact p.elim
/-- kept, owned, kept -/
def gParKOK (i j l : Nat) (f g h : DE1) : DS1 := fun ρ => match f ρ, g ρ, h ρ with
  | some x, some y, some z => .nx (((ρ.set i (some (false, x))).set j (some (true, y))).set l (some (false, z)))
  | _, _, _ => .stuck
theorem ds_parKOK (i j l : Nat) {x y z : Str} {px py pz pt : Pos} {kt k2 pt2} (hc : X.calm = true) (hN : X.N.Nodup) (ha : DE X a f) (hb : DF X b g) (hcc : DE X c h) (hs1 : starEach [a, b, c] X.env = (false, eval a X.env) :: starEach [b, c] X.env := by rfl) (hs2 : starEach [b, c] X.env = (false, eval b X.env) :: starEach [c] X.env := by rfl)
    (hs3 : starEach [c] X.env = (false, eval c X.env) :: starEach [] X.env := by rfl) (hi : X.N[i]? = some x := by rfl) (hj : X.N[j]? = some y := by rfl) (hl : X.N[l]? = some z := by rfl) (hij : i ≠ j := by decide) (hil : i ≠ l := by decide) (hjl : j ≠ l := by decide)
    (hx : X.env.scope.names.lookup x = some .local := by rfl) (hy : X.env.scope.names.lookup y = some .local := by rfl) (hz : X.env.scope.names.lookup z = some .local := by rfl)
    (hw : swappedStores [.Tuple [.Name x px, .Name y py, .Name z pz] kt pt] (.Tuple [a, b, c] k2 pt2) X.env = pure (some [x, y, z]) := by rfl)
    (hs : swapsWithSole [.Tuple [.Name x px, .Name y py, .Name z pz] kt pt] (.Tuple [a, b, c] k2 pt2) pos.line X.env = pure false := by rfl) :
    DS X (.Assign [.Tuple [.Name x px, .Name y py, .Name z pz] kt pt] (.Tuple [a, b, c] k2 pt2) pos) (gParKOK i j l f g h) := PS.imp (ps_par3 hc hN hi hj hl hij hil hjl hx hy hz (pa_cons ha (pa_cons hb (pa_cons hcc pa_nil hs3) hs2) hs1) hw hs) fun N σ H ⟨H0, O0, ρ, ⟨s, ow, S, hh⟩, p⟩ => by
  unfold gParKOK at p
  split at p
  · rename_i d1 d2 d3 ef1 ef2 ef3
    refine ⟨O0, ow, ρ, S, _, ef1, fun v1 H1 s1 r1 => ⟨O0, ow, ρ, S.same s1, _, ef2, fun a2 H2 s2 n2 t2 => ?_⟩⟩
    obtain ⟨o2, ho2⟩ := t2.some
    refine ⟨fun b => O0 b ∨ b = a2, ow, ρ, (S.same s1).more s2 n2 ⟨o2, ho2⟩, _, ef3, fun v3 H3 s3 r3 => ⟨_, _, _, rfl, p _ H3 ?_⟩⟩
    have t3 : TopR X.K (hide (fun b => hid O0 ow b ∨ b = a2) H3) H3 a2 d2 := t2.same (hide_same s3) ((s3 _ _ ho2).trans ho2.symm)
    refine ⟨s.trans (s1.trans (s2.trans s3)), _, (((S.same s1).set r1).setF (i := j) (s2.trans s3) n2 t3).set (r3.same (hide_sub own_sub)), fun l b q => ?_⟩
    unfold owSet at q
    split at q
    · cases q; exact Same.free (s.trans s1) n2
    · exact hh l b q
  · exact p.elim
end
end DL

set_option maxHeartbeats 8000000
namespace K06
open PySem PySem.Spec PyProof.Rows L2 DL
def g_BarredD_initD : DI1 := (iFld (Str.ofString "mix") (eDc (iA (eV 1)) ([(Str.ofString "other", 2)].map (·.2)) (bN 2) (eC (.bl true)) (eV 2) (e2 gIxA (eVB 1) (eVB 2)))
  (fun _ fs => some fs))
def F_BarredD_initD : List D → Option (List (Str × D)) := mkI 2 g_BarredD_initD

def g_JobD_lenD : DS1 := (gRet (eCB gLenA (aCons (eFld [0] (Str.ofString "_works") (eV 0)) aNil)))
def F_JobD_lenD : List D → Option D := mkF 1 g_JobD_lenD

def g_ratio : DS1 := (gSeq (gSet 2 (eCB gGcd (aCons (eVB 0) (aCons (eVB 1) aNil))))
  (gRet (eTup (aCons (e2 gDivI (eVB 0) (eVB 2)) (aCons (e2 gDivI (eVB 1) (eVB 2)) aNil)))))
def F_ratio : List D → Option D := mkF 3 g_ratio

def g_plus : DS1 := (gRet (eCall 2 F_ratio (aCons (e2 gAddA (e2 gMulA (e2 gIxA (eVB 0) (eC (.int 0))) (e2 gIxA (eVB 1) (eC (.int 1)))) (e2 gMulA (e2 gIxA (eVB 1) (eC (.int 0))) (e2 gIxA (eVB 0) (eC (.int 1))))) (aCons (e2 gMulA (e2 gIxA (eVB 0) (eC (.int 1))) (e2 gIxA (eVB 1) (eC (.int 1)))) aNil))))
def F_plus : List D → Option D := mkF 2 g_plus

def g_u_sums : DS1 := (gSeq (gSetF 1 (eLst aNil))
  (gSeq (gSet 2 (eC (.tup [(.int 0), (.int 1)])))
  (gSeq (gFor (iA (eV 0)) (bN 3)
  (gSeq (gSet 2 (eCall 2 F_plus (aCons (eV 2) (aCons (eV 3) aNil))))
  (gApp 1 (eV 2))))
  (fun ρ => gRet (eV 1) (frz 1 ρ)))))
def F_u_sums : List D → Option D := mkF 4 g_u_sums

def g_Job_works : DS1 := (gRet (eFld [0] (Str.ofString "_works") (eV 0)))
def F_Job_works : List D → Option D := mkF 1 g_Job_works

def g_work_chances : DS1 := (gSeq (gSet 2 (e2 gIxA (e2 gIxA (eProp 0 F_Job_works (eV 0)) (eVB 1)) (eC (.int 1))))
  (gRet (eLc (iA (eV 2)) ([(Str.ofString "part", 3)].map (·.2)) (bN 3) (eC (.bl true)) (eCall 2 F_ratio (aCons (eV 3) (aCons (eCB gSum (aCons (eVB 2) aNil)) aNil))))))
def F_work_chances : List D → Option D := mkF 4 g_work_chances

def g_u_views : DS1 := (gSeq (gSet 2 (eLc (iR1 (eCB (fun x => (gLen x).or (gLenO 0 F_JobD_lenD x)) (aCons (eVB 0) aNil))) ([(Str.ofString "work", 3)].map (·.2)) (bN 3) (eC (.bl true)) (eCall 2 F_work_chances (aCons (eV 0) (aCons (eV 3) aNil)))))
  (gRet (eIf (eTru (eVB 1)) (eLc (iA (eV 2)) ([(Str.ofString "row", 4)].map (·.2)) (bN 4) (eC (.bl true)) (eRv (eCall 1 F_u_sums (aCons (eRv (eV 4)) aNil)))) (eV 2))))
def F_u_views : List D → Option D := mkF 5 g_u_views

def g_is_integer : DS1 := (gRet (eAnd (eIsi "int" (eVB 0)) (eNot (eIsi "bool" (eVB 0)))))
def F_is_integer : List D → Option D := mkF 1 g_is_integer

def g_is_integer_within : DS1 := (gRet (eAnd (eCall 1 F_is_integer (aCons (eV 0) aNil)) (eCh gLe gLe (eVB 1) (eVB 0) (eVB 2))))
def F_is_integer_within : List D → Option D := mkF 3 g_is_integer_within

def g_u_are_parts : DS1 := (gSeq (gIf (eOr (eNot (eIsi "tuple" (eVB 0))) (e2 (gEqA true) (eCB gLenA (aCons (eVB 0) aNil)) (eVB 1))) (gRet (eC (.bl false))) gNx)
  (gRet (eAnd (eCB gAll (aCons (eLc (iA (eV 0)) ([(Str.ofString "part", 2)].map (·.2)) (bN 2) (eC (.bl true)) (eCall 3 F_is_integer_within (aCons (eV 2) (aCons (eC (.int 0)) (aCons (eC (.int 6)) aNil))))) aNil)) (e2 gGt (eCB gSum (aCons (eVB 0) aNil)) (eC (.int 0))))))
def F_u_are_parts : List D → Option D := mkF 3 g_u_are_parts

def g_is_work : DS1 := (gSeq (gIf (eOr (eNot (eIsi "tuple" (eVB 0))) (e2 (gEqA true) (eCB gLenA (aCons (eVB 0) aNil)) (eC (.int 2)))) (gRet (eC (.bl false))) gNx)
  (gSeq (gAsg (eV 0) (bT (bCons (bN 2) (bCons (bN 3) bNil))))
  (gRet (eAnd (eCall 3 F_is_integer_within (aCons (eV 2) (aCons (eC (.int 0)) (aCons (eC (.int 9)) aNil)))) (eCall 2 F_u_are_parts (aCons (eV 3) (aCons (eV 1) aNil)))))))
def F_is_work : List D → Option D := mkF 4 g_is_work

def g_u_are_works : DS1 := (gSeq (gIf (eOr (eNot (eIsi "tuple" (eVB 0))) (eNot (eCh gLe gLe (eC (.int 2)) (eCB gLenA (aCons (eVB 0) aNil)) (eC (.int 4))))) (gRet (eC (.bl false))) gNx)
  (gRet (eCB gAll (aCons (eLc (iA (eV 0)) ([(Str.ofString "work", 2)].map (·.2)) (bN 2) (eC (.bl true)) (eCall 2 F_is_work (aCons (eV 2) (aCons (eV 1) aNil)))) aNil))))
def F_u_are_works : List D → Option D := mkF 3 g_u_are_works

def g_are_worths : DS1 := (gSeq (gIf (eOr (eNot (eIsi "tuple" (eVB 0))) (eNot (eCh gLe gLe (eC (.int 2)) (eCB gLenA (aCons (eVB 0) aNil)) (eC (.int 4))))) (gRet (eC (.bl false))) gNx)
  (gRet (eCB gAll (aCons (eLc (iA (eV 0)) ([(Str.ofString "worth", 1)].map (·.2)) (bN 1) (eC (.bl true)) (eCall 3 F_is_integer_within (aCons (eV 1) (aCons (eC (.int 0)) (aCons (eC (.int 20)) aNil))))) aNil))))
def F_are_worths : List D → Option D := mkF 2 g_are_worths

def g_JobD_initD : DI1 := (iIf (eNot (eCall 1 F_are_worths (aCons (eV 1) aNil)))
  (iIf (eNot (eCall 2 F_u_are_works (aCons (eV 2) (aCons (eCB gLenA (aCons (eVB 1) aNil)) aNil))))
  (iFld (Str.ofString "_worths") (eCB gTupOf (aCons (eVB 1) aNil))
  (iFld (Str.ofString "_works") (eCB gTupOf (aCons (eLc (iA (eV 2)) ([(Str.ofString "effort", 3), (Str.ofString "parts", 4)].map (·.2)) (bT (bCons (bN 3) (bCons (bN 4) bNil))) (eC (.bl true)) (eTup (aCons (eV 3) (aCons (eCB gTupOf (aCons (eVB 4) aNil)) aNil)))) aNil))
  (fun _ fs => some fs)))))
def F_JobD_initD : List D → Option (List (Str × D)) := mkI 4 g_JobD_initD

def g_check_job : DS1 := (gIf (eNot (eIsC [0, 1, 2, 3] 0 (eV 0))) gStuck gNx)
def F_check_job : List D → Option D := mkF 1 g_check_job

def g_check_work : DS1 := (gIf (eNot (eCall 3 F_is_integer_within (aCons (eV 1) (aCons (eC (.int 0)) (aCons (e2 gSubI (eCB (fun x => (gLen x).or (gLenO 0 F_JobD_lenD x)) (aCons (eVB 0) aNil)) (eC (.int 1))) aNil))))) gStuck gNx)
def F_check_work : List D → Option D := mkF 2 g_check_work

def g_u_is_other : DS1 := (gRet (eAnd (eCall 3 F_is_integer_within (aCons (eV 2) (aCons (eC (.int 0)) (aCons (e2 gSubI (eCB gLenA (aCons (eVB 0) aNil)) (eC (.int 1))) aNil)))) (e2 (gEqA true) (eVB 2) (eVB 1))))
def F_u_is_other : List D → Option D := mkF 3 g_u_is_other

def g_is_fraction : DS1 := (gSeq (gIf (eOr (eNot (eIsi "tuple" (eVB 0))) (e2 (gEqA true) (eCB gLenA (aCons (eVB 0) aNil)) (eC (.int 2)))) (gRet (eC (.bl false))) gNx)
  (gSeq (gAsg (eV 0) (bT (bCons (bN 1) (bCons (bN 2) bNil))))
  (gSeq (gIf (eOr (eNot (eCall 1 F_is_integer (aCons (eV 1) aNil))) (eNot (eCall 1 F_is_integer (aCons (eV 2) aNil)))) (gRet (eC (.bl false))) gNx)
  (gRet (eAnd (e2 gGe (eVB 2) (eC (.int 1))) (e2 (gEqA false) (eCB gGcd (aCons (eVB 1) (aCons (eVB 2) aNil))) (eC (.int 1))))))))
def F_is_fraction : List D → Option D := mkF 3 g_is_fraction

def g_is_amount : DS1 := (gRet (eAnd (eCall 1 F_is_fraction (aCons (eV 0) aNil)) (e2 gGe (e2 gIxA (eVB 0) (eC (.int 0))) (eC (.int 0)))))
def F_is_amount : List D → Option D := mkF 1 g_is_amount

def g_is_less : DS1 := (gRet (e2 gLt (e2 gMulA (e2 gIxA (eVB 0) (eC (.int 0))) (e2 gIxA (eVB 1) (eC (.int 1)))) (e2 gMulA (e2 gIxA (eVB 1) (eC (.int 0))) (e2 gIxA (eVB 0) (eC (.int 1))))))
def F_is_less : List D → Option D := mkF 2 g_is_less

def g_total : DS1 := (gSeq (gSet 1 (eC (.tup [(.int 0), (.int 1)])))
  (gSeq (gFor (iA (eV 0)) (bN 2)
  (gSet 1 (eCall 2 F_plus (aCons (eV 1) (aCons (eV 2) aNil)))))
  (gRet (eV 1))))
def F_total : List D → Option D := mkF 3 g_total

def g_times : DS1 := (gRet (eCall 2 F_ratio (aCons (e2 gMulA (e2 gIxA (eVB 0) (eC (.int 0))) (e2 gIxA (eVB 1) (eC (.int 0)))) (aCons (e2 gMulA (e2 gIxA (eVB 0) (eC (.int 1))) (e2 gIxA (eVB 1) (eC (.int 1)))) aNil))))
def F_times : List D → Option D := mkF 2 g_times

def g_weighted : DS1 := (gRet (eCall 1 F_total (aCons (eLc (iZX (eV 0) (eV 1)) ([(Str.ofString "weight", 2), (Str.ofString "amount", 3)].map (·.2)) (bT (bCons (bN 2) (bCons (bN 3) bNil))) (eC (.bl true)) (eCall 2 F_times (aCons (eV 2) (aCons (eV 3) aNil)))) aNil)))
def F_weighted : List D → Option D := mkF 4 g_weighted

def g_mix_shows : DS1 := (gSeq (gSet 4 (eCB gListA (aCons (eVB 3) aNil)))
  (gSeq (gIf (eNot (eCB gAll (aCons (eLc (iA (eV 4)) ([(Str.ofString "other", 8)].map (·.2)) (bN 8) (eC (.bl true)) (eCall 3 F_u_is_other (aCons (eV 0) (aCons (eV 2) (aCons (eV 8) aNil))))) aNil))) (gRet (eC (.bl false))) gNx)
  (gSeq (gSet 5 (eLc (iA (eV 4)) ([(Str.ofString "other", 8)].map (·.2)) (bN 8) (eC (.bl true)) (e2 gIxA (eVB 3) (eVB 8))))
  (gSeq (gIf (eOr (eNot (eCB gAll (aCons (eLc (iA (eV 5)) ([(Str.ofString "factor", 9)].map (·.2)) (bN 9) (eC (.bl true)) (eCall 1 F_is_amount (aCons (eV 9) aNil))) aNil))) (e2 (gEqA true) (eCall 1 F_total (aCons (eV 5) aNil)) (eC (.tup [(.int 1), (.int 1)])))) (gRet (eC (.bl false))) gNx)
  (gSeq (gFor (iEnA (e2 gIxA (eVB 0) (eVB 2))) (bT (bCons (bN 6) (bCons (bN 7) bNil)))
  (gIf (eCall 2 F_is_less (aCons (eCall 2 F_weighted (aCons (eV 5) (aCons (eLc (iA (eV 4)) ([(Str.ofString "other", 8)].map (·.2)) (bN 8) (eC (.bl true)) (e2 gIxA (e2 gIxA (eVB 0) (eVB 8)) (eVB 6))) aNil))) (aCons (eV 7) aNil))) (gRet (eC (.bl false))) gNx))
  (gRet (eCall 2 F_is_less (aCons (eCall 2 F_weighted (aCons (eV 5) (aCons (eLc (iA (eV 4)) ([(Str.ofString "other", 8)].map (·.2)) (bN 8) (eC (.bl true)) (e2 gIxA (eVB 1) (eVB 8))) aNil))) (aCons (e2 gIxA (eVB 1) (eVB 2)) aNil)))))))))
def F_mix_shows : List D → Option D := mkF 10 g_mix_shows

def g_work_efforts : DS1 := (gRet (eLc (iA (eProp 0 F_Job_works (eV 0))) ([(Str.ofString "effort", 1), (Str.ofString "parts", 2)].map (·.2)) (bT (bCons (bN 1) (bCons (bN 2) bNil))) (eC (.bl true)) (eTup (aCons (eV 1) (aCons (eC (.int 1)) aNil)))))
def F_work_efforts : List D → Option D := mkF 3 g_work_efforts

def g_Barred_shows : DS1 := (gSeq (gExp (eCall 1 F_check_job (aCons (eV 1) aNil)))
  (gSeq (gExp (eCall 2 F_check_work (aCons (eV 1) (aCons (eV 2) aNil))))
  (gRet (eCall 4 F_mix_shows (aCons (eCall 2 F_u_views (aCons (eV 1) (aCons (eV 3) aNil))) (aCons (eCall 1 F_work_efforts (aCons (eV 1) aNil)) (aCons (eV 2) (aCons (eFld [2] (Str.ofString "mix") (eV 0)) aNil))))))))
def F_Barred_shows : List D → Option D := mkF 4 g_Barred_shows

def g_u_is_rising : DS1 := (gRet (eNot (eCB gAny (aCons (eLc (iZX (eV 0) (oOr (eSl (eVB 0) (oSome (eC (.int 1))) oNone) (eSlT (eVB 0) (oSome (eC (.int 1))) oNone))) ([(Str.ofString "earlier", 1), (Str.ofString "later", 2)].map (·.2)) (bT (bCons (bN 1) (bCons (bN 2) bNil))) (eC (.bl true)) (eCall 2 F_is_less (aCons (eV 2) (aCons (eV 1) aNil)))) aNil))))
def F_u_is_rising : List D → Option D := mkF 3 g_u_is_rising

def g_average_pay : DS1 := (gRet (eCall 2 F_weighted (aCons (eCall 2 F_work_chances (aCons (eV 0) (aCons (eV 1) aNil))) (aCons (eV 2) aNil))))
def F_average_pay : List D → Option D := mkF 3 g_average_pay

def g_Job_worths : DS1 := (gRet (eFld [0] (Str.ofString "_worths") (eV 0)))
def F_Job_worths : List D → Option D := mkF 1 g_Job_worths

def g_is_pay : DS1 := (gSeq (gIf (eOr (eNot (eIsi "tuple" (eVB 1))) (e2 (gEqA true) (eCB gLenA (aCons (eVB 1) aNil)) (eCB gLenA (aCons (eProp 0 F_Job_worths (eV 0)) aNil)))) (gRet (eC (.bl false))) gNx)
  (gRet (eCB gAll (aCons (eLc (iA (eV 1)) ([(Str.ofString "amount", 2)].map (·.2)) (bN 2) (eC (.bl true)) (eCall 1 F_is_amount (aCons (eV 2) aNil))) aNil))))
def F_is_pay : List D → Option D := mkF 3 g_is_pay

def g_check_pay : DS1 := (gIf (eNot (eCall 2 F_is_pay (aCons (eV 0) (aCons (eV 1) aNil)))) gStuck gNx)
def F_check_pay : List D → Option D := mkF 2 g_check_pay

def g_negative : DS1 := (gRet (eTup (aCons (eNeg (e2 gIxA (eVB 0) (eC (.int 0)))) (aCons (e2 gIxA (eVB 0) (eC (.int 1))) aNil))))
def F_negative : List D → Option D := mkF 1 g_negative

def g_minus : DS1 := (gRet (eCall 2 F_plus (aCons (eV 0) (aCons (eCall 1 F_negative (aCons (eV 1) aNil)) aNil))))
def F_minus : List D → Option D := mkF 2 g_minus

def g_gain : DS1 := (gSeq (gExp (eCall 1 F_check_job (aCons (eV 0) aNil)))
  (gSeq (gExp (eCall 2 F_check_work (aCons (eV 0) (aCons (eV 1) aNil))))
  (gSeq (gExp (eCall 2 F_check_pay (aCons (eV 0) (aCons (eV 2) aNil))))
  (gRet (eCall 2 F_minus (aCons (eCall 3 F_average_pay (aCons (eV 0) (aCons (eV 1) (aCons (eV 2) aNil)))) (aCons (e2 gIxA (eCall 1 F_work_efforts (aCons (eV 0) aNil)) (eVB 1)) aNil)))))))
def F_gain : List D → Option D := mkF 3 g_gain

def g_wanted : DS1 := (gSeq (gExp (eCall 1 F_check_job (aCons (eV 0) aNil)))
  (gSeq (gExp (eCall 2 F_check_pay (aCons (eV 0) (aCons (eV 1) aNil))))
  (gSeq (gSet 2 (eC (.tup [(.int 0), (.int 1)])))
  (gSeq (gSetF 3 (eLst (aCons (eC .non) aNil)))
  (gSeq (gFor (iR1 (eCB (fun x => (gLen x).or (gLenO 0 F_JobD_lenD x)) (aCons (eVB 0) aNil))) (bN 4)
  (gSeq (gSet 5 (eCall 3 F_gain (aCons (eV 0) (aCons (eV 4) (aCons (eV 1) aNil)))))
  (gIf (eCall 2 F_is_less (aCons (eV 2) (aCons (eV 5) aNil))) (gSeq (gSet 2 (eV 5))
  (gSetF 3 (eLst (aCons (eV 4) aNil)))) (gIf (e2 (gEqA false) (eVB 5) (eVB 2)) (gApp 3 (eV 4)) gNx))))
  (fun ρ => gRet (eV 3) (frz 3 ρ)))))))
def F_wanted : List D → Option D := mkF 6 g_wanted

def g_u_differences : DS1 := (gSeq (gIf (e2 (gIsN false) (eVB 2) (eC .non)) (gRet (eCB gListA (aCons (e2 gIxA (eVB 0) (eVB 1)) aNil))) gNx)
  (gRet (eLc (iZX (e2 gIxA (eVB 0) (eVB 1)) (e2 gIxA (eVB 0) (eVB 2))) ([(Str.ofString "mine", 3), (Str.ofString "its", 4)].map (·.2)) (bT (bCons (bN 3) (bCons (bN 4) bNil))) (eC (.bl true)) (eCall 2 F_minus (aCons (eV 3) (aCons (eV 4) aNil))))))
def F_u_differences : List D → Option D := mkF 5 g_u_differences

def g_u_effort_difference : DS1 := (gRet (eIf (e2 (gIsN false) (eVB 2) (eC .non)) (e2 gIxA (eVB 0) (eVB 1)) (eCall 2 F_minus (aCons (e2 gIxA (eVB 0) (eVB 1)) (aCons (e2 gIxA (eVB 0) (eVB 2)) aNil)))))
def F_u_effort_difference : List D → Option D := mkF 3 g_u_effort_difference

def g_are_within : DS1 := (gSeq (gSet 3 (eLc (iR1 (eCB gLenA (aCons (eVB 2) aNil))) ([(Str.ofString "at", 4)].map (·.2)) (bN 4) (eC (.bl true)) (eCall 2 F_weighted (aCons (eV 0) (aCons (eLc (iA (eV 1)) ([(Str.ofString "row", 5)].map (·.2)) (bN 5) (eC (.bl true)) (e2 gIxA (eVB 5) (eVB 4))) aNil)))))
  (gRet (eNot (eCB gAny (aCons (eLc (iZX (eV 2) (eV 3)) ([(Str.ofString "limit", 6), (Str.ofString "reached", 7)].map (·.2)) (bT (bCons (bN 6) (bCons (bN 7) bNil))) (eC (.bl true)) (eCall 2 F_is_less (aCons (eV 6) (aCons (eV 7) aNil)))) aNil)))))
def F_are_within : List D → Option D := mkF 8 g_are_within

def g_weights_show : DS1 := (gSeq (gSet 5 (eCB gListA (aCons (eVB 3) aNil)))
  (gSeq (gIf (eNot (eCB gAll (aCons (eLc (iA (eV 5)) ([(Str.ofString "other", 8)].map (·.2)) (bN 8) (eC (.bl true)) (eOr (e2 (gIsN false) (eVB 8) (eC .non)) (eCall 3 F_u_is_other (aCons (eV 0) (aCons (eV 2) (aCons (eV 8) aNil)))))) aNil))) (gRet (eC (.bl false))) gNx)
  (gSeq (gSet 6 (eLc (iA (eV 5)) ([(Str.ofString "other", 8)].map (·.2)) (bN 8) (eC (.bl true)) (e2 gIxA (eVB 3) (eVB 8))))
  (gSeq (gIf (eNot (eCB gAll (aCons (eLc (iA (eV 6)) ([(Str.ofString "factor", 9)].map (·.2)) (bN 9) (eC (.bl true)) (eCall 1 F_is_amount (aCons (eV 9) aNil))) aNil))) (gRet (eC (.bl false))) gNx)
  (gSeq (gIf (eNot (eCall 3 F_are_within (aCons (eV 6) (aCons (eLc (iA (eV 5)) ([(Str.ofString "other", 8)].map (·.2)) (bN 8) (eC (.bl true)) (eCall 3 F_u_differences (aCons (eV 0) (aCons (eV 2) (aCons (eV 8) aNil))))) (aCons (e2 gIxA (eVB 0) (eVB 2)) aNil))))) (gRet (eC (.bl false))) gNx)
  (gSeq (gSet 7 (eLc (iA (eV 5)) ([(Str.ofString "other", 8)].map (·.2)) (bN 8) (eC (.bl true)) (eCall 3 F_u_effort_difference (aCons (eV 1) (aCons (eV 2) (aCons (eV 8) aNil))))))
  (gRet (e2 (gEqA false) (eCall 2 F_weighted (aCons (eV 6) (aCons (eV 7) aNil))) (eVB 4)))))))))
def F_weights_show : List D → Option D := mkF 10 g_weights_show

def g_Enough_shows : DS1 := (gSeq (gExp (eCall 1 F_check_job (aCons (eV 1) aNil)))
  (gSeq (gExp (eCall 2 F_check_work (aCons (eV 1) (aCons (eV 2) aNil))))
  (gSeq (gIf (eOr (eNot (eCall 2 F_is_pay (aCons (eV 1) (aCons (eFld [1] (Str.ofString "pay") (eV 0)) aNil)))) (eAnd (eTru (eVB 3)) (eNot (eCall 1 F_u_is_rising (aCons (eFld [1] (Str.ofString "pay") (eV 0)) aNil))))) (gRet (eC (.bl false))) gNx)
  (gSeq (gIf (e2 (gInA true) (eVB 2) (eCall 2 F_wanted (aCons (eV 1) (aCons (eFld [1] (Str.ofString "pay") (eV 0)) aNil)))) (gRet (eC (.bl false))) gNx)
  (gSeq (gSet 4 (eCall 3 F_average_pay (aCons (eV 1) (aCons (eV 2) (aCons (eFld [1] (Str.ofString "pay") (eV 0)) aNil)))))
  (gRet (eCall 5 F_weights_show (aCons (eCall 2 F_u_views (aCons (eV 1) (aCons (eV 3) aNil))) (aCons (eCall 1 F_work_efforts (aCons (eV 1) aNil)) (aCons (eV 2) (aCons (eFld [1] (Str.ofString "weights") (eV 0)) (aCons (eV 4) aNil))))))))))))
def F_Enough_shows : List D → Option D := mkF 5 g_Enough_shows

def g_u_law_blend : DS1 := (gRet (eMake 0 2 F_JobD_initD (aCons (eTup (aCons (eC (.int 0)) (aCons (eC (.int 5)) (aCons (eC (.int 9)) aNil)))) (aCons (eTup (aCons (eTup (aCons (eC (.int 3)) (aCons (eTup (aCons (eC (.int 1)) (aCons (eC (.int 2)) (aCons (eC (.int 1)) aNil)))) aNil))) (aCons (eTup (aCons (eC (.int 1)) (aCons (eTup (aCons (eC (.int 1)) (aCons (eC (.int 1)) (aCons (eC (.int 0)) aNil)))) aNil))) (aCons (eTup (aCons (eC (.int 2)) (aCons (eTup (aCons (eC (.int 0)) (aCons (eC (.int 1)) (aCons (eC (.int 1)) aNil)))) aNil))) aNil)))) aNil))))
def F_u_law_blend : List D → Option D := mkF 0 g_u_law_blend

def g_EnoughD_initD : DI1 := (iFld (Str.ofString "pay") (eV 1)
  (iFld (Str.ofString "weights") (eDc (iA (eV 2)) ([(Str.ofString "other", 3)].map (·.2)) (bN 3) (eC (.bl true)) (eV 3) (e2 gIxA (eVB 2) (eVB 3)))
  (fun _ fs => some fs)))
def F_EnoughD_initD : List D → Option (List (Str × D)) := mkI 3 g_EnoughD_initD

def g_u_endless_weights : DS1 := (gSeq (gSetF 4 (e2 gRep (eLst (aCons (eC (.tup [(.int 0), (.int 1)])) aNil)) (eVB 2)))
  (gSeq (gIf (e2 gLt (eVB 3) (eVB 2)) (gSetA 4 (eV 3) (eC (.tup [(.int 1), (.int 1)]))) gNx)
  (gSeq (gFor (iEnA (eV 1)) (bT (bCons (bN 5) (bCons (bN 6) bNil)))
  (gIf (e2 gLt (eVB 6) (eVB 2)) (gSetA 4 (eV 6) (eCall 1 F_negative (aCons (e2 gIxA (e2 gIxA (eVB 0) (eVB 5)) (eVB 3)) aNil))) gNx))
  (fun ρ => gRet (eV 4) (frz 4 ρ)))))
def F_u_endless_weights : List D → Option D := mkF 7 g_u_endless_weights

def g_u_first_table : DS1 := (gSeq (gSetF 3 (eLst aNil))
  (gSeq (gFor (iEnA (eV 0)) (bT (bCons (bN 4) (bCons (bN 5) bNil)))
  (gSeq (gSet 6 (eLc (iR1 (eCB gLenA (aCons (eVB 0) aNil))) ([(Str.ofString "other", 7)].map (·.2)) (bN 7) (eC (.bl true)) (eIf (e2 (gEqA false) (eVB 4) (eVB 7)) (eC (.tup [(.int 1), (.int 1)])) (eC (.tup [(.int 0), (.int 1)])))))
  (gApp 3 (e2 gAddA (e2 gAddA (eLc (iA (eV 1)) ([(Str.ofString "row", 8)].map (·.2)) (bN 8) (eC (.bl true)) (e2 gIxA (eVB 8) (eVB 4))) (eVB 6)) (eLst (aCons (eV 5) aNil))))))
  (gSeq (gApp 3 (e2 gAddA (eCB gListA (aCons (eVB 2) aNil)) (e2 gMulA (eLst (aCons (eC (.tup [(.int 0), (.int 1)])) aNil)) (e2 gAddA (eCB gLenA (aCons (eVB 0) aNil)) (eC (.int 1))))))
  (fun ρ => gRet (eV 3) (frz 3 ρ)))))
def F_u_first_table : List D → Option D := mkF 9 g_u_first_table

def g_inverse : DS1 := (gSeq (gAsg (eV 0) (bT (bCons (bN 1) (bCons (bN 2) bNil))))
  (gRet (eIf (e2 gGt (eVB 1) (eC (.int 0))) (eTup (aCons (eV 2) (aCons (eV 1) aNil))) (eTup (aCons (eNeg (eVB 2)) (aCons (eNeg (eVB 1)) aNil))))))
def F_inverse : List D → Option D := mkF 3 g_inverse

def g_over : DS1 := (gRet (eCall 2 F_times (aCons (eV 0) (aCons (eCall 1 F_inverse (aCons (eV 1) aNil)) aNil))))
def F_over : List D → Option D := mkF 2 g_over

def g_u_pivoted : DS1 := (gSeq (gSet 3 (e2 gIxA (e2 gIxA (eVB 0) (eVB 1)) (eVB 2)))
  (gSeq (gSet 4 (eLc (iA (e2 gIxA (eVB 0) (eVB 1))) ([(Str.ofString "entry", 9)].map (·.2)) (bN 9) (eC (.bl true)) (eCall 2 F_over (aCons (eV 9) (aCons (eV 3) aNil)))))
  (gSeq (gSetF 5 (eLst aNil))
  (gSeq (gFor (iEnA (eV 0)) (bT (bCons (bN 6) (bCons (bN 7) bNil)))
  (gIf (e2 (gEqA false) (eVB 6) (eVB 1)) (gApp 5 (eV 4)) (gSeq (gSet 8 (e2 gIxA (eVB 7) (eVB 2)))
  (gApp 5 (eLc (iZX (eV 7) (eV 4)) ([(Str.ofString "entry", 9), (Str.ofString "part", 10)].map (·.2)) (bT (bCons (bN 9) (bCons (bN 10) bNil))) (eC (.bl true)) (eCall 2 F_minus (aCons (eV 9) (aCons (eCall 2 F_times (aCons (eV 8) (aCons (eV 10) aNil))) aNil))))))))
  (fun ρ => gRet (eV 5) (frz 5 ρ))))))
def F_u_pivoted : List D → Option D := mkF 11 g_u_pivoted

def g_u_rising_column : DS1 := (gSeq (gFor (iEnA (oOr (eSl (eVB 0) oNone (oSome (eNeg (eC (.int 1))))) (eSlT (eVB 0) oNone (oSome (eNeg (eC (.int 1))))))) (bT (bCons (bN 1) (bCons (bN 2) bNil)))
  (gIf (eCall 2 F_is_less (aCons (eC (.tup [(.int 0), (.int 1)])) (aCons (eV 2) aNil))) (gRet (eV 1)) gNx))
  (gRet (eC .non)))
def F_u_rising_column : List D → Option D := mkF 3 g_u_rising_column

def g_u_tightest_line : DS1 := (gSeq (gSet 3 (eC .non))
  (gSeq (gSet 4 (eC .non))
  (gSeq (gFor (iEnA (eV 1)) (bT (bCons (bN 5) (bCons (bN 6) bNil)))
  (gSeq (gSet 7 (e2 gIxA (e2 gIxA (eVB 0) (eVB 5)) (eVB 2)))
  (gSeq (gIf (eNot (eCall 2 F_is_less (aCons (eC (.tup [(.int 0), (.int 1)])) (aCons (eV 7) aNil)))) (fun ρ => .ct ρ) gNx)
  (gSeq (gSet 8 (eCall 2 F_over (aCons (e2 gIxA (e2 gIxA (eVB 0) (eVB 5)) (eNeg (eC (.int 1)))) (aCons (eV 7) aNil))))
  (gIf (eOr (e2 (gIsN false) (eVB 3) (eC .non)) (eOr (eCall 2 F_is_less (aCons (eV 8) (aCons (eV 4) aNil))) (eAnd (e2 (gEqA false) (eVB 8) (eVB 4)) (e2 gLt (eVB 6) (e2 gIxA (eVB 1) (eVB 3)))))) (gSeq (gSet 3 (eV 5))
  (gSet 4 (eV 8))) gNx)))))
  (gRet (eV 3)))))
def F_u_tightest_line : List D → Option D := mkF 9 g_u_tightest_line

def g_u_weights : DS1 := (gSeq (gSetF 3 (e2 gRep (eLst (aCons (eC (.tup [(.int 0), (.int 1)])) aNil)) (eVB 2)))
  (gSeq (gFor (iEnA (eV 1)) (bT (bCons (bN 4) (bCons (bN 5) bNil)))
  (gIf (e2 gLt (eVB 5) (eVB 2)) (gSetA 3 (eV 5) (e2 gIxA (e2 gIxA (eVB 0) (eVB 4)) (eNeg (eC (.int 1))))) gNx))
  (fun ρ => gRet (eV 3) (frz 3 ρ))))
def F_u_weights : List D → Option D := mkF 6 g_u_weights

def g_cheapest : DS1 := (gSeq (gSet 3 (eCall 3 F_u_first_table (aCons (eV 0) (aCons (eV 1) (aCons (eV 2) aNil)))))
  (gSeq (gSet 4 (eCB gLenA (aCons (eVB 1) aNil)))
  (gSeq (gSetF 5 (eLc (iR1 (eCB gLenA (aCons (eVB 0) aNil))) ([(Str.ofString "k", 8)].map (·.2)) (bN 8) (eC (.bl true)) (e2 gAddA (eVB 4) (eVB 8))))
  (gWh (fun _ => 100) (eC (.bl true)) (gSeq (gSet 6 (eCall 1 F_u_rising_column (aCons (e2 gIxA (eVB 3) (eNeg (eC (.int 1)))) aNil)))
  (gSeq (gIf (e2 (gIsN false) (eVB 6) (eC .non)) (fun ρ => (gRet (eTup (aCons (eLc (iA (oOr (eSl (e2 gIxA (eVB 3) (eNeg (eC (.int 1)))) (oSome (eV 4)) (oSome (eNeg (eC (.int 1))))) (eSlT (e2 gIxA (eVB 3) (eNeg (eC (.int 1)))) (oSome (eV 4)) (oSome (eNeg (eC (.int 1))))))) ([(Str.ofString "entry", 9)].map (·.2)) (bN 9) (eC (.bl true)) (eCall 1 F_negative (aCons (eV 9) aNil))) (aCons (eCall 3 F_u_weights (aCons (eV 3) (aCons (eV 5) (aCons (eV 4) aNil)))) aNil)))) (frz 5 ρ)) gNx)
  (gSeq (gSet 7 (eLend 5 (eCall 3 F_u_tightest_line (aCons (eV 3) (aCons (eV 5) (aCons (eV 6) aNil))))))
  (gSeq (gIf (e2 (gIsN false) (eVB 7) (eC .non)) (fun ρ => (gRet (eTup (aCons (eC .non) (aCons (eCall 4 F_u_endless_weights (aCons (eV 3) (aCons (eV 5) (aCons (eV 4) (aCons (eV 6) aNil))))) aNil)))) (frz 5 ρ)) gNx)
  (gSeq (gSet 3 (eCall 3 F_u_pivoted (aCons (eV 3) (aCons (eV 7) (aCons (eV 6) aNil)))))
  (gSetA 5 (eV 7) (eV 6)))))))))))
def F_cheapest : List D → Option D := mkF 10 g_cheapest

def g_least_amounts : DS1 := (gSeq (gSet 3 (e2 gAddA (eLst (aCons (eC .non) aNil)) (eLc (iR1 (eCB gLenA (aCons (eVB 0) aNil))) ([(Str.ofString "other", 10)].map (·.2)) (bN 10) (e2 (gEqA true) (eVB 10) (eVB 2)) (eV 10))))
  (gSeq (gSet 4 (eLc (iA (eV 3)) ([(Str.ofString "other", 10)].map (·.2)) (bN 10) (eC (.bl true)) (eCall 3 F_u_differences (aCons (eV 0) (aCons (eV 2) (aCons (eV 10) aNil))))))
  (gSeq (gSet 5 (eLc (iA (eV 3)) ([(Str.ofString "other", 10)].map (·.2)) (bN 10) (eC (.bl true)) (eCall 3 F_u_effort_difference (aCons (eV 1) (aCons (eV 2) (aCons (eV 10) aNil))))))
  (gSeq (gAsg (eCall 3 F_cheapest (aCons (e2 gIxA (eVB 0) (eVB 2)) (aCons (eV 4) (aCons (eV 5) aNil)))) (bT (bCons (bN 6) (bCons (bN 7) bNil))))
  (gSeq (gSet 8 (eDc (iZX (eV 3) (eV 7)) ([(Str.ofString "other", 10), (Str.ofString "weight", 11)].map (·.2)) (bT (bCons (bN 10) (bCons (bN 11) bNil))) (e2 (gEqA true) (eVB 11) (eC (.tup [(.int 0), (.int 1)]))) (eV 10) (eV 11)))
  (gSeq (gIf (e2 (gIsN true) (eVB 6) (eC .non)) (gRet (eTup (aCons (eV 6) (aCons (eV 8) aNil)))) gNx)
  (gSeq (gSet 9 (eCall 1 F_total (aCons (eVals (eV 8)) aNil)))
  (gRet (eTup (aCons (eC .non) (aCons (eDc (iPD (eV 8)) ([(Str.ofString "other", 10), (Str.ofString "weight", 11)].map (·.2)) (bT (bCons (bN 10) (bCons (bN 11) bNil))) (eC (.bl true)) (eV 10) (eCall 2 F_over (aCons (eV 11) (aCons (eV 9) aNil)))) aNil)))))))))))
def F_least_amounts : List D → Option D := mkF 12 g_least_amounts

def g_least_pay : DS1 := (gSeq (gExp (eCall 1 F_check_job (aCons (eV 0) aNil)))
  (gSeq (gExp (eCall 2 F_check_work (aCons (eV 0) (aCons (eV 1) aNil))))
  (gSeq (gAsg (eCall 3 F_least_amounts (aCons (eCall 2 F_u_views (aCons (eV 0) (aCons (eV 2) aNil))) (aCons (eCall 1 F_work_efforts (aCons (eV 0) aNil)) (aCons (eV 1) aNil)))) (bT (bCons (bN 3) (bCons (bN 4) bNil))))
  (gSeq (gIf (e2 (gIsN false) (eVB 3) (eC .non)) (gRet (eMake 2 1 F_BarredD_initD (aCons (eV 4) aNil))) gNx)
  (gRet (eMake 1 2 F_EnoughD_initD (aCons (eCB gTupOf (aCons (eIf (eTru (eVB 2)) (eCall 1 F_u_sums (aCons (eV 3) aNil)) (eV 3)) aNil)) (aCons (eV 4) aNil))))))))
def F_least_pay : List D → Option D := mkF 5 g_least_pay

def g_pay_cost : DS1 := (gSeq (gSet 3 (eCallK 2 1 F_least_pay (aCons (eV 0) (aCons (eV 1) aNil)) (aCons (eV 2) aNil)))
  (gSeq (gIf (eIsC [0, 1, 2, 3] 2 (eV 3)) (gRet (eC .non)) gNx)
  (gRet (eCall 3 F_average_pay (aCons (eV 0) (aCons (eV 1) (aCons (eFld [1] (Str.ofString "pay") (eV 3)) aNil)))))))
def F_pay_cost : List D → Option D := mkF 4 g_pay_cost

def g_u_law_bars_right : DS1 := (gSeq (gSet 1 (eCall 0 F_u_law_blend aNil))
  (gSeq (gIf (eOr (e2 (gIsN true) (eCallD 2 F_pay_cost [(.bl false)] (aCons (eV 1) (aCons (eC (.int 0)) aNil))) (eC .non)) (e2 (gEqA true) (eCallD 2 F_pay_cost [(.bl false)] (aCons (eV 1) (aCons (eC (.int 1)) aNil))) (eTup (aCons (eC (.int 1)) (aCons (eC (.int 1)) aNil))))) (gRet (eC (.bl false))) gNx)
  (gSeq (gIf (eOr (e2 (gEqA true) (eCallD 2 F_pay_cost [(.bl false)] (aCons (eV 1) (aCons (eC (.int 2)) aNil))) (eTup (aCons (eC (.int 2)) (aCons (eC (.int 1)) aNil)))) (e2 (gEqA true) (eFld [2] (Str.ofString "mix") (eCallD 2 F_least_pay [(.bl false)] (aCons (eV 1) (aCons (eC (.int 0)) aNil)))) (eDisp (pCons (eC (.int 1)) (eTup (aCons (eC (.int 1)) (aCons (eC (.int 2)) aNil))) (pCons (eC (.int 2)) (eTup (aCons (eC (.int 1)) (aCons (eC (.int 2)) aNil))) pNil))))) (gRet (eC (.bl false))) gNx)
  (gSeq (gSet 2 (eLst (aCons (eTup (aCons (eDisp (pCons (eC (.int 1)) (eTup (aCons (eC (.int 1)) (aCons (eC (.int 2)) aNil))) (pCons (eC (.int 2)) (eTup (aCons (eC (.int 1)) (aCons (eC (.int 2)) aNil))) pNil))) (aCons (eC (.bl true)) (aCons (eC (.bl true)) aNil)))) (aCons (eTup (aCons (eDisp (pCons (eC (.int 2)) (eTup (aCons (eC (.int 1)) (aCons (eC (.int 1)) aNil))) pNil)) (aCons (eC (.bl false)) (aCons (eC (.bl true)) aNil)))) aNil))))
  (gSeq (gSet 2 (e2 gAddA (eVB 2) (eLst (aCons (eTup (aCons (eDisp (pCons (eC (.int 1)) (eTup (aCons (eC (.int 1)) (aCons (eC (.int 1)) aNil))) pNil)) (aCons (eC (.bl false)) (aCons (eC (.bl false)) aNil)))) (aCons (eTup (aCons (eDisp (pCons (eC (.int 1)) (eTup (aCons (eC (.int 1)) (aCons (eC (.int 3)) aNil))) (pCons (eC (.int 2)) (eTup (aCons (eC (.int 2)) (aCons (eC (.int 3)) aNil))) pNil))) (aCons (eC (.bl false)) (aCons (eC (.bl true)) aNil)))) aNil)))))
  (gSeq (gSet 2 (e2 gAddA (eVB 2) (eLst (aCons (eTup (aCons (eC (.dic [])) (aCons (eC (.bl false)) (aCons (eC (.bl false)) aNil)))) (aCons (eTup (aCons (eDisp (pCons (eC (.int 1)) (eTup (aCons (eC (.int 1)) (aCons (eC (.int 2)) aNil))) pNil)) (aCons (eC (.bl false)) (aCons (eC (.bl false)) aNil)))) aNil)))))
  (gSeq (gSet 2 (e2 gAddA (eVB 2) (eLst (aCons (eTup (aCons (eDisp (pCons (eC (.int 0)) (eTup (aCons (eC (.int 1)) (aCons (eC (.int 1)) aNil))) pNil)) (aCons (eC (.bl false)) (aCons (eC (.bl false)) aNil)))) (aCons (eTup (aCons (eDisp (pCons (eC (.int 1)) (eTup (aCons (eC (.int 1)) (aCons (eC (.int 2)) aNil))) (pCons (eC (.int 2)) (eTup (aCons (eC (.int 1)) (aCons (eC (.int 2)) aNil))) (pCons (eC (.int 3)) (eTup (aCons (eC (.int 0)) (aCons (eC (.int 1)) aNil))) pNil)))) (aCons (eC (.bl false)) (aCons (eC (.bl false)) aNil)))) aNil)))))
  (gSeq (gSet 2 (e2 gAddA (eVB 2) (eLst (aCons (eTup (aCons (eDisp (pCons (eC (.int 1)) (eTup (aCons (eNeg (eC (.int 1))) (aCons (eC (.int 2)) aNil))) (pCons (eC (.int 2)) (eTup (aCons (eC (.int 3)) (aCons (eC (.int 2)) aNil))) pNil))) (aCons (eC (.bl false)) (aCons (eC (.bl false)) aNil)))) (aCons (eTup (aCons (eDisp (pCons (eC (.int 1)) (eTup (aCons (eC (.int 2)) (aCons (eC (.int 3)) aNil))) (pCons (eC (.int 2)) (eTup (aCons (eC (.int 1)) (aCons (eC (.int 3)) aNil))) pNil))) (aCons (eC (.bl false)) (aCons (eC (.bl false)) aNil)))) aNil)))))
  (gSeq (gSet 2 (e2 gAddA (eVB 2) (eLst (aCons (eTup (aCons (eDisp (pCons (eNeg (eC (.int 1))) (eTup (aCons (eC (.int 1)) (aCons (eC (.int 1)) aNil))) pNil)) (aCons (eC (.bl false)) (aCons (eC (.bl false)) aNil)))) aNil))))
  (gSeq (gFor (iA (eV 2)) (bT (bCons (bN 3) (bCons (bN 4) (bCons (bN 5) bNil))))
  (gIf (eOr (e2 (gEqA true) (eMth [(1, F_Enough_shows), (2, F_Barred_shows)] (Str.ofString "shows") 2 [(.bl false)] (eMake 2 1 F_BarredD_initD (aCons (eV 3) aNil)) (aCons (eV 1) (aCons (eC (.int 0)) aNil))) (eVB 4)) (e2 (gEqA true) (eMthK [(1, F_Enough_shows), (2, F_Barred_shows)] (Str.ofString "shows") 2 1 (eMake 2 1 F_BarredD_initD (aCons (eV 3) aNil)) (aCons (eV 1) (aCons (eC (.int 0)) aNil)) (aCons (eC (.bl true)) aNil)) (eVB 5))) (gRet (eC (.bl false))) gNx))
  (gSeq (gSet 6 (eMake 0 2 F_JobD_initD (aCons (eTup (aCons (eC (.int 0)) (aCons (eC (.int 5)) aNil))) (aCons (eTup (aCons (eTup (aCons (eC (.int 3)) (aCons (eTup (aCons (eC (.int 1)) (aCons (eC (.int 1)) aNil))) aNil))) (aCons (eTup (aCons (eC (.int 3)) (aCons (eTup (aCons (eC (.int 1)) (aCons (eC (.int 1)) aNil))) aNil))) (aCons (eTup (aCons (eC (.int 2)) (aCons (eTup (aCons (eC (.int 1)) (aCons (eC (.int 2)) aNil))) aNil))) aNil)))) aNil))))
  (gSeq (gIf (eOr (eMth [(1, F_Enough_shows), (2, F_Barred_shows)] (Str.ofString "shows") 2 [(.bl false)] (eMake 2 1 F_BarredD_initD (aCons (eDisp (pCons (eC (.int 1)) (eTup (aCons (eC (.int 1)) (aCons (eC (.int 1)) aNil))) pNil)) aNil)) (aCons (eV 6) (aCons (eC (.int 0)) aNil))) (e2 (gEqA true) (eCallD 2 F_pay_cost [(.bl false)] (aCons (eV 6) (aCons (eC (.int 0)) aNil))) (eTup (aCons (eC (.int 3)) (aCons (eC (.int 1)) aNil))))) (gRet (eC (.bl false))) gNx)
  (gSeq (gIf (e2 (gIsN true) (eCallK 2 1 F_pay_cost (aCons (eV 6) (aCons (eC (.int 0)) aNil)) (aCons (eC (.bl true)) aNil)) (eC .non)) (gRet (eC (.bl false))) gNx)
  (gSeq (gIf (eNot (eAnd (eMthK [(1, F_Enough_shows), (2, F_Barred_shows)] (Str.ofString "shows") 2 1 (eMake 2 1 F_BarredD_initD (aCons (eDisp (pCons (eC (.int 2)) (eTup (aCons (eC (.int 1)) (aCons (eC (.int 1)) aNil))) pNil)) aNil)) (aCons (eV 6) (aCons (eC (.int 0)) aNil)) (aCons (eC (.bl true)) aNil)) (eNot (eMth [(1, F_Enough_shows), (2, F_Barred_shows)] (Str.ofString "shows") 2 [(.bl false)] (eMake 2 1 F_BarredD_initD (aCons (eDisp (pCons (eC (.int 2)) (eTup (aCons (eC (.int 1)) (aCons (eC (.int 1)) aNil))) pNil)) aNil)) (aCons (eV 6) (aCons (eC (.int 0)) aNil)))))) (gRet (eC (.bl false))) gNx)
  (gRet (e2 (gEqA false) (eCallD 2 F_pay_cost [(.bl false)] (aCons (eV 6) (aCons (eC (.int 1)) aNil))) (eTup (aCons (eC (.int 3)) (aCons (eC (.int 1)) aNil)))))))))))))))))))
def F_u_law_bars_right : List D → Option D := mkF 7 g_u_law_bars_right

def g_BestD_initD : DI1 := (iFld (Str.ofString "work") (eV 1)
  (iFld (Str.ofString "needs") (eDc (iA (eV 2)) ([(Str.ofString "key", 3)].map (·.2)) (bN 3) (eC (.bl true)) (eV 3) (e2 gIxA (eVB 2) (eVB 3)))
  (fun _ fs => some fs)))
def F_BestD_initD : List D → Option (List (Str × D)) := mkI 3 g_BestD_initD

def g_u_are_needs : DS1 := (gSeq (gIf (eOr (e2 (gEqA true) (eCB gLenA (aCons (eVB 2) aNil)) (eCB (fun x => (gLen x).or (gLenO 0 F_JobD_lenD x)) (aCons (eVB 0) aNil))) (eNot (eCB gAll (aCons (eLc (iA (eV 2)) ([(Str.ofString "work", 3)].map (·.2)) (bN 3) (eC (.bl true)) (eCall 3 F_is_integer_within (aCons (eV 3) (aCons (eC (.int 0)) (aCons (e2 gSubI (eCB (fun x => (gLen x).or (gLenO 0 F_JobD_lenD x)) (aCons (eVB 0) aNil)) (eC (.int 1))) aNil))))) aNil)))) (gRet (eC (.bl false))) gNx)
  (gRet (eCB gAll (aCons (eLc (iPD (eV 2)) ([(Str.ofString "work", 3), (Str.ofString "need", 4)].map (·.2)) (bT (bCons (bN 3) (bCons (bN 4) bNil))) (eC (.bl true)) (eMthK [(1, F_Enough_shows), (2, F_Barred_shows)] (Str.ofString "shows") 2 1 (eV 4) (aCons (eV 0) (aCons (eV 3) aNil)) (aCons (eV 1) aNil))) aNil))))
def F_u_are_needs : List D → Option D := mkF 5 g_u_are_needs

def g_average_worth : DS1 := (gRet (eCall 2 F_weighted (aCons (eCall 2 F_work_chances (aCons (eV 0) (aCons (eV 1) aNil))) (aCons (eLc (iA (eProp 0 F_Job_worths (eV 0))) ([(Str.ofString "worth", 2)].map (·.2)) (bN 2) (eC (.bl true)) (eTup (aCons (eV 2) (aCons (eC (.int 1)) aNil)))) aNil))))
def F_average_worth : List D → Option D := mkF 3 g_average_worth

def g_profit : DS1 := (gSeq (gExp (eCall 1 F_check_job (aCons (eV 0) aNil)))
  (gSeq (gExp (eCall 2 F_check_work (aCons (eV 0) (aCons (eV 1) aNil))))
  (gSeq (gExp (eCall 2 F_check_pay (aCons (eV 0) (aCons (eV 2) aNil))))
  (gRet (eCall 2 F_minus (aCons (eCall 2 F_average_worth (aCons (eV 0) (aCons (eV 1) aNil))) (aCons (eCall 3 F_average_pay (aCons (eV 0) (aCons (eV 1) (aCons (eV 2) aNil)))) aNil)))))))
def F_profit : List D → Option D := mkF 3 g_profit

def g_u_best_works : DS1 := (gSeq (gSet 2 (eDc (iPD (eV 1)) ([(Str.ofString "work", 5), (Str.ofString "need", 6)].map (·.2)) (bT (bCons (bN 5) (bCons (bN 6) bNil))) (eNot (eIsC [0, 1, 2, 3] 2 (eV 6))) (eV 5) (eCall 3 F_profit (aCons (eV 0) (aCons (eV 5) (aCons (eFld [1] (Str.ofString "pay") (eV 6)) aNil))))))
  (gSeq (gSet 3 (eLc (iA (eV 2)) ([(Str.ofString "work", 5)].map (·.2)) (bN 5) (eNot (eCall 2 F_is_less (aCons (e2 gIxA (eVB 2) (eVB 5)) (aCons (eC (.tup [(.int 0), (.int 1)])) aNil)))) (eV 5)))
  (gSeq (gSet 4 (eLc (iA (eV 3)) ([(Str.ofString "work", 5)].map (·.2)) (bN 5) (eNot (eCB gAny (aCons (eLc (iA (eV 3)) ([(Str.ofString "other", 7)].map (·.2)) (bN 7) (eC (.bl true)) (eCall 2 F_is_less (aCons (e2 gIxA (eVB 2) (eVB 5)) (aCons (e2 gIxA (eVB 2) (eVB 7)) aNil)))) aNil))) (eV 5)))
  (gRet (eIf (eTru (eVB 4)) (eV 4) (eLst (aCons (eC .non) aNil)))))))
def F_u_best_works : List D → Option D := mkF 8 g_u_best_works

def g_Best_shows : DS1 := (gSeq (gExp (eCall 1 F_check_job (aCons (eV 1) aNil)))
  (gSeq (gIf (eNot (eCall 3 F_u_are_needs (aCons (eV 1) (aCons (eV 2) (aCons (eFld [3] (Str.ofString "needs") (eV 0)) aNil))))) (gRet (eC (.bl false))) gNx)
  (gSeq (gIf (eAnd (e2 (gIsN true) (eFld [3] (Str.ofString "work") (eV 0)) (eC .non)) (eNot (eCall 1 F_is_integer (aCons (eFld [3] (Str.ofString "work") (eV 0)) aNil)))) (gRet (eC (.bl false))) gNx)
  (gRet (e2 (gInA false) (eFld [3] (Str.ofString "work") (eV 0)) (eCall 2 F_u_best_works (aCons (eV 1) (aCons (eFld [3] (Str.ofString "needs") (eV 0)) aNil))))))))
def F_Best_shows : List D → Option D := mkF 3 g_Best_shows

def g_u_law_two : DS1 := (gRet (eMake 0 2 F_JobD_initD (aCons (eTup (aCons (eC (.int 0)) (aCons (eC (.int 10)) aNil))) (aCons (eTup (aCons (eTup (aCons (eC (.int 0)) (aCons (eTup (aCons (eC (.int 3)) (aCons (eC (.int 1)) aNil))) aNil))) (aCons (eTup (aCons (eC (.int 2)) (aCons (eTup (aCons (eC (.int 1)) (aCons (eC (.int 1)) aNil))) aNil))) (aCons (eTup (aCons (eC (.int 5)) (aCons (eTup (aCons (eC (.int 1)) (aCons (eC (.int 3)) aNil))) aNil))) aNil)))) aNil))))
def F_u_law_two : List D → Option D := mkF 0 g_u_law_two

def g_choose : DS1 := (gSeq (gExp (eCall 1 F_check_job (aCons (eV 0) aNil)))
  (gSeq (gSet 2 (eDc (iR1 (eCB (fun x => (gLen x).or (gLenO 0 F_JobD_lenD x)) (aCons (eVB 0) aNil))) ([(Str.ofString "work", 3)].map (·.2)) (bN 3) (eC (.bl true)) (eV 3) (eCallK 2 1 F_least_pay (aCons (eV 0) (aCons (eV 3) aNil)) (aCons (eV 1) aNil))))
  (gRet (eMake 3 2 F_BestD_initD (aCons (e2 gIxA (eCall 2 F_u_best_works (aCons (eV 0) (aCons (eV 2) aNil))) (eC (.int 0))) (aCons (eV 2) aNil))))))
def F_choose : List D → Option D := mkF 4 g_choose

def g_best_profit : DS1 := (gSeq (gSet 2 (eCallK 1 1 F_choose (aCons (eV 0) aNil) (aCons (eV 1) aNil)))
  (gSeq (gIf (e2 (gIsN false) (eFld [3] (Str.ofString "work") (eV 2)) (eC .non)) (gRet (eC (.tup [(.int 0), (.int 1)]))) gNx)
  (gRet (eCall 3 F_profit (aCons (eV 0) (aCons (eFld [3] (Str.ofString "work") (eV 2)) (aCons (eFld [1] (Str.ofString "pay") (e2 gIxA (eFld [3] (Str.ofString "needs") (eV 2)) (eFld [3] (Str.ofString "work") (eV 2)))) aNil)))))))
def F_best_profit : List D → Option D := mkF 3 g_best_profit

def g_u_law_choices_right : DS1 := (gSeq (gAsg (eTup (aCons (eCall 0 F_u_law_two aNil) (aCons (eMake 0 2 F_JobD_initD (aCons (eTup (aCons (eC (.int 0)) (aCons (eC (.int 1)) aNil))) (aCons (eTup (aCons (eTup (aCons (eC (.int 1)) (aCons (eTup (aCons (eC (.int 1)) (aCons (eC (.int 1)) aNil))) aNil))) (aCons (eTup (aCons (eC (.int 2)) (aCons (eTup (aCons (eC (.int 1)) (aCons (eC (.int 2)) aNil))) aNil))) aNil))) aNil))) aNil))) (bT (bCons (bN 1) (bCons (bN 2) bNil))))
  (gSeq (gSet 3 (eCallD 1 F_choose [(.bl false)] (aCons (eV 1) aNil)))
  (gSeq (gIf (e2 (gEqA true) (eTup (aCons (eFld [3] (Str.ofString "work") (eV 3)) (aCons (eCallD 1 F_best_profit [(.bl false)] (aCons (eV 1) aNil)) (aCons (eFld [3] (Str.ofString "work") (eCallD 1 F_choose [(.bl false)] (aCons (eV 2) aNil))) (aCons (eCallD 1 F_best_profit [(.bl false)] (aCons (eV 2) aNil)) aNil))))) (eTup (aCons (eC (.int 0)) (aCons (eTup (aCons (eC (.int 5)) (aCons (eC (.int 2)) aNil))) (aCons (eC .non) (aCons (eTup (aCons (eC (.int 0)) (aCons (eC (.int 1)) aNil))) aNil)))))) (gRet (eC (.bl false))) gNx)
  (gSeq (gSet 4 (eMake 0 2 F_JobD_initD (aCons (eTup (aCons (eC (.int 0)) (aCons (eC (.int 20)) aNil))) (aCons (eTup (aCons (eTup (aCons (eC (.int 0)) (aCons (eTup (aCons (eC (.int 1)) (aCons (eC (.int 0)) aNil))) aNil))) (aCons (eTup (aCons (eC (.int 2)) (aCons (eTup (aCons (eC (.int 1)) (aCons (eC (.int 1)) aNil))) aNil))) (aCons (eTup (aCons (eC (.int 3)) (aCons (eTup (aCons (eC (.int 1)) (aCons (eC (.int 3)) aNil))) aNil))) aNil)))) aNil))))
  (gSeq (gIf (eOr (e2 (gEqA true) (eFld [3] (Str.ofString "work") (eCallD 1 F_choose [(.bl false)] (aCons (eV 4) aNil))) (eC (.int 2))) (e2 (gEqA true) (eCallD 1 F_best_profit [(.bl false)] (aCons (eV 4) aNil)) (eTup (aCons (eC (.int 12)) (aCons (eC (.int 1)) aNil))))) (gRet (eC (.bl false))) gNx)
  (gSeq (gIf (eOr (e2 (gEqA true) (eFld [3] (Str.ofString "work") (eCallD 1 F_choose [(.bl false)] (aCons (eCall 0 F_u_law_blend aNil) aNil))) (eC (.int 2))) (e2 (gEqA true) (eCallD 1 F_best_profit [(.bl false)] (aCons (eCall 0 F_u_law_blend aNil) aNil)) (eTup (aCons (eC (.int 5)) (aCons (eC (.int 1)) aNil))))) (gRet (eC (.bl false))) gNx)
  (gSeq (gIf (e2 (gEqA true) (eLc (iA (eTup (aCons (eC (.int 0)) (aCons (eC (.int 1)) (aCons (eC (.int 2)) (aCons (eC .non) aNil)))))) ([(Str.ofString "work", 6)].map (·.2)) (bN 6) (eC (.bl true)) (eMth [(3, F_Best_shows)] (Str.ofString "shows") 1 [(.bl false)] (eMake 3 2 F_BestD_initD (aCons (eV 6) (aCons (eFld [3] (Str.ofString "needs") (eV 3)) aNil))) (aCons (eV 1) aNil))) (eLst (aCons (eC (.bl true)) (aCons (eC (.bl false)) (aCons (eC (.bl false)) (aCons (eC (.bl false)) aNil)))))) (gRet (eC (.bl false))) gNx)
  (gSeq (gSet 5 (eTup (aCons (eTup (aCons (eC (.int 0)) (aCons (eC (.int 1)) aNil))) (aCons (eTup (aCons (eC (.int 12)) (aCons (eC (.int 1)) aNil))) aNil))))
  (gSeq (gIf (e2 (gEqA true) (eLc (iR1 (eC (.int 3))) ([(Str.ofString "work", 6)].map (·.2)) (bN 6) (eC (.bl true)) (eCall 3 F_gain (aCons (eV 1) (aCons (eV 6) (aCons (eV 5) aNil))))) (eLst (aCons (eTup (aCons (eC (.int 3)) (aCons (eC (.int 1)) aNil))) (aCons (eTup (aCons (eC (.int 4)) (aCons (eC (.int 1)) aNil))) (aCons (eTup (aCons (eC (.int 4)) (aCons (eC (.int 1)) aNil))) aNil))))) (gRet (eC (.bl false))) gNx)
  (gSeq (gIf (e2 (gEqA true) (eCall 2 F_wanted (aCons (eV 1) (aCons (eTup (aCons (eTup (aCons (eC (.int 0)) (aCons (eC (.int 1)) aNil))) (aCons (eTup (aCons (eC (.int 8)) (aCons (eC (.int 1)) aNil))) aNil))) aNil))) (eLst (aCons (eC (.int 0)) (aCons (eC (.int 1)) aNil)))) (gRet (eC (.bl false))) gNx)
  (gSeq (gIf (eNot (eAnd (e2 (gEqA false) (eCall 3 F_profit (aCons (eV 1) (aCons (eC (.int 1)) (aCons (eV 5) aNil)))) (eTup (aCons (eNeg (eC (.int 1))) (aCons (eC (.int 1)) aNil)))) (e2 (gEqA false) (eCall 2 F_wanted (aCons (eV 1) (aCons (eTup (aCons (eTup (aCons (eC (.int 0)) (aCons (eC (.int 1)) aNil))) (aCons (eTup (aCons (eC (.int 0)) (aCons (eC (.int 1)) aNil))) aNil))) aNil))) (eLst (aCons (eC .non) (aCons (eC (.int 0)) aNil)))))) (gRet (eC (.bl false))) gNx)
  (gRet (e2 (gEqA false) (eCall 2 F_wanted (aCons (eV 1) (aCons (eTup (aCons (eTup (aCons (eC (.int 1)) (aCons (eC (.int 1)) aNil))) (aCons (eTup (aCons (eC (.int 1)) (aCons (eC (.int 1)) aNil))) aNil))) aNil))) (eLst (aCons (eC (.int 0)) aNil)))))))))))))))
def F_u_law_choices_right : List D → Option D := mkF 7 g_u_law_choices_right

def g_u_law_number : DS1 := (gSeq (gSet 2 (eIf (e2 (gEqA true) (eVB 0) (eLst aNil)) (oOr (eSl (eVB 0) oNone (oSome (eC (.int 63)))) (eSlT (eVB 0) oNone (oSome (eC (.int 63))))) (eLst (aCons (eC (.int 5)) aNil))))
  (gSeq (gSet 3 (e2 gAddA (e2 gIxA (eVB 2) (e2 gModI (eCB gInt (aCons (eVB 1) aNil)) (eCB gLenA (aCons (eVB 2) aNil)))) (e2 gMulA (eC (.int 13)) (e2 gDivI (eVB 1) (eCB gLenA (aCons (eVB 2) aNil))))))
  (gSeq (gPar 4 5 (aCons (e2 gModI (eCB gInt (aCons (eVB 3) aNil)) (eC (.int 1000003))) (aCons (e2 gModI (eCB gInt (aCons (e2 gDivI (eVB 3) (eC (.int 1000003))) aNil)) (eC (.int 999983))) aNil)))
  (gSeq (gSet 6 (e2 gModI (eCB gInt (aCons (e2 gAddA (e2 gAddA (e2 gMulA (e2 gAddA (eVB 4) (e2 gMulA (eC (.int 977)) (eVB 1))) (eC (.int 48271))) (e2 gMulA (eC (.int 31)) (eVB 5))) (e2 gModI (eCB gInt (aCons (eCB gSum (aCons (eVB 2) aNil)) aNil)) (eC (.int 65521)))) aNil)) (eC (.int 2147483647))))
  (gRet (e2 gAddA (e2 gMulA (e2 gModI (eCB gInt (aCons (e2 gMulA (eVB 6) (e2 gAddA (e2 gAddA (eVB 6) (e2 gMulA (eC (.int 31)) (eVB 1))) (eC (.int 7)))) aNil)) (eC (.int 2147483629))) (eC (.int 65537))) (eVB 5)))))))
def F_u_law_number : List D → Option D := mkF 7 g_u_law_number

def g_u_law_pays_right : DS1 := (gSeq (gAsg (eTup (aCons (eCall 0 F_u_law_two aNil) (aCons (eMake 0 2 F_JobD_initD (aCons (eTup (aCons (eC (.int 4)) (aCons (eC (.int 8)) aNil))) (aCons (eTup (aCons (eTup (aCons (eC (.int 3)) (aCons (eTup (aCons (eC (.int 1)) (aCons (eC (.int 0)) aNil))) aNil))) (aCons (eTup (aCons (eC (.int 1)) (aCons (eTup (aCons (eC (.int 0)) (aCons (eC (.int 1)) aNil))) aNil))) aNil))) aNil))) aNil))) (bT (bCons (bN 1) (bCons (bN 2) bNil))))
  (gSeq (gIf (e2 (gEqA true) (eLc (iR1 (eC (.int 3))) ([(Str.ofString "work", 5)].map (·.2)) (bN 5) (eC (.bl true)) (eCallD 2 F_pay_cost [(.bl false)] (aCons (eV 1) (aCons (eV 5) aNil)))) (eLst (aCons (eTup (aCons (eC (.int 0)) (aCons (eC (.int 1)) aNil))) (aCons (eTup (aCons (eC (.int 4)) (aCons (eC (.int 1)) aNil))) (aCons (eTup (aCons (eC (.int 9)) (aCons (eC (.int 1)) aNil))) aNil))))) (gRet (eC (.bl false))) gNx)
  (gSeq (gIf (e2 (gEqA true) (eFld [1] (Str.ofString "pay") (eCallD 2 F_least_pay [(.bl false)] (aCons (eV 1) (aCons (eC (.int 1)) aNil)))) (eTup (aCons (eTup (aCons (eC (.int 0)) (aCons (eC (.int 1)) aNil))) (aCons (eTup (aCons (eC (.int 8)) (aCons (eC (.int 1)) aNil))) aNil)))) (gRet (eC (.bl false))) gNx)
  (gSeq (gIf (eOr (e2 (gEqA true) (eCallD 2 F_pay_cost [(.bl false)] (aCons (eV 2) (aCons (eC (.int 0)) aNil))) (eTup (aCons (eC (.int 3)) (aCons (eC (.int 1)) aNil)))) (eOr (e2 (gEqA true) (eCallD 2 F_pay_cost [(.bl false)] (aCons (eV 2) (aCons (eC (.int 1)) aNil))) (eTup (aCons (eC (.int 1)) (aCons (eC (.int 1)) aNil)))) (e2 (gIsN true) (eCallK 2 1 F_pay_cost (aCons (eV 2) (aCons (eC (.int 0)) aNil)) (aCons (eC (.bl true)) aNil)) (eC .non)))) (gRet (eC (.bl false))) gNx)
  (gSeq (gIf (eOr (e2 (gEqA true) (e2 gIxA (eFld [1] (Str.ofString "pay") (eCallD 2 F_least_pay [(.bl false)] (aCons (eV 2) (aCons (eC (.int 0)) aNil)))) (eC (.int 0))) (eTup (aCons (eC (.int 3)) (aCons (eC (.int 1)) aNil)))) (e2 (gEqA true) (eCallK 2 1 F_pay_cost (aCons (eV 2) (aCons (eC (.int 1)) aNil)) (aCons (eC (.bl true)) aNil)) (eTup (aCons (eC (.int 1)) (aCons (eC (.int 1)) aNil))))) (gRet (eC (.bl false))) gNx)
  (gSeq (gSet 3 (eMake 0 2 F_JobD_initD (aCons (eTup (aCons (eC (.int 0)) (aCons (eC (.int 0)) (aCons (eC (.int 0)) aNil)))) (aCons (eTup (aCons (eTup (aCons (eC (.int 4)) (aCons (eTup (aCons (eC (.int 2)) (aCons (eC (.int 1)) (aCons (eC (.int 1)) aNil)))) aNil))) (aCons (eTup (aCons (eC (.int 0)) (aCons (eTup (aCons (eC (.int 1)) (aCons (eC (.int 2)) (aCons (eC (.int 1)) aNil)))) aNil))) (aCons (eTup (aCons (eC (.int 1)) (aCons (eTup (aCons (eC (.int 1)) (aCons (eC (.int 1)) (aCons (eC (.int 2)) aNil)))) aNil))) aNil)))) aNil))))
  (gSeq (gIf (eOr (e2 (gEqA true) (eCallD 2 F_pay_cost [(.bl false)] (aCons (eV 3) (aCons (eC (.int 0)) aNil))) (eTup (aCons (eC (.int 8)) (aCons (eC (.int 1)) aNil)))) (e2 (gEqA true) (eFld [1] (Str.ofString "pay") (eCallD 2 F_least_pay [(.bl false)] (aCons (eV 3) (aCons (eC (.int 0)) aNil)))) (eTup (aCons (eTup (aCons (eC (.int 16)) (aCons (eC (.int 1)) aNil))) (aCons (eTup (aCons (eC (.int 0)) (aCons (eC (.int 1)) aNil))) (aCons (eTup (aCons (eC (.int 0)) (aCons (eC (.int 1)) aNil))) aNil)))))) (gRet (eC (.bl false))) gNx)
  (gSeq (gIf (e2 (gIsN true) (eCallK 2 1 F_pay_cost (aCons (eV 3) (aCons (eC (.int 0)) aNil)) (aCons (eC (.bl true)) aNil)) (eC .non)) (gRet (eC (.bl false))) gNx)
  (gSeq (gSet 4 (eLst (aCons (eTup (aCons (eTup (aCons (eTup (aCons (eC (.int 0)) (aCons (eC (.int 1)) aNil))) (aCons (eTup (aCons (eC (.int 12)) (aCons (eC (.int 1)) aNil))) aNil))) (aCons (eDisp (pCons (eC (.int 1)) (eTup (aCons (eC (.int 3)) (aCons (eC (.int 1)) aNil))) pNil)) (aCons (eC (.bl true)) aNil)))) aNil)))
  (gSeq (gSet 4 (e2 gAddA (eVB 4) (eLst (aCons (eTup (aCons (eTup (aCons (eTup (aCons (eC (.int 0)) (aCons (eC (.int 1)) aNil))) (aCons (eTup (aCons (eC (.int 12)) (aCons (eC (.int 1)) aNil))) aNil))) (aCons (eDisp (pCons (eC (.int 1)) (eTup (aCons (eC (.int 3)) (aCons (eC (.int 1)) aNil))) (pCons (eC (.int 0)) (eTup (aCons (eC (.int 0)) (aCons (eC (.int 1)) aNil))) (pCons (eC .non) (eTup (aCons (eC (.int 0)) (aCons (eC (.int 1)) aNil))) pNil)))) (aCons (eC (.bl true)) aNil)))) aNil))))
  (gSeq (gSet 4 (e2 gAddA (eVB 4) (eLst (aCons (eTup (aCons (eTup (aCons (eTup (aCons (eC (.int 0)) (aCons (eC (.int 1)) aNil))) (aCons (eTup (aCons (eC (.int 12)) (aCons (eC (.int 1)) aNil))) aNil))) (aCons (eC (.dic [])) (aCons (eC (.bl false)) aNil)))) aNil))))
  (gSeq (gSet 4 (e2 gAddA (eVB 4) (eLst (aCons (eTup (aCons (eTup (aCons (eTup (aCons (eC (.int 0)) (aCons (eC (.int 1)) aNil))) (aCons (eTup (aCons (eC (.int 13)) (aCons (eC (.int 1)) aNil))) aNil))) (aCons (eDisp (pCons (eC (.int 1)) (eTup (aCons (eC (.int 3)) (aCons (eC (.int 1)) aNil))) pNil)) (aCons (eC (.bl false)) aNil)))) (aCons (eTup (aCons (eTup (aCons (eTup (aCons (eC (.int 0)) (aCons (eC (.int 1)) aNil))) (aCons (eTup (aCons (eC (.int 11)) (aCons (eC (.int 1)) aNil))) aNil))) (aCons (eDisp (pCons (eC (.int 1)) (eTup (aCons (eC (.int 3)) (aCons (eC (.int 1)) aNil))) pNil)) (aCons (eC (.bl false)) aNil)))) aNil)))))
  (gSeq (gSet 4 (e2 gAddA (eVB 4) (eLst (aCons (eTup (aCons (eTup (aCons (eTup (aCons (eC (.int 1)) (aCons (eC (.int 1)) aNil))) (aCons (eTup (aCons (eC (.int 13)) (aCons (eC (.int 1)) aNil))) aNil))) (aCons (eDisp (pCons (eC (.int 1)) (eTup (aCons (eC (.int 10)) (aCons (eC (.int 3)) aNil))) pNil)) (aCons (eC (.bl false)) aNil)))) aNil))))
  (gSeq (gSet 4 (e2 gAddA (eVB 4) (eLst (aCons (eTup (aCons (eTup (aCons (eTup (aCons (eC (.int 0)) (aCons (eC (.int 1)) aNil))) (aCons (eTup (aCons (eC (.int 12)) (aCons (eC (.int 1)) aNil))) aNil))) (aCons (eDisp (pCons (eC (.int 1)) (eTup (aCons (eC (.int 3)) (aCons (eC (.int 1)) aNil))) (pCons (eC (.int 0)) (eTup (aCons (eNeg (eC (.int 1))) (aCons (eC (.int 5)) aNil))) pNil))) (aCons (eC (.bl false)) aNil)))) aNil))))
  (gSeq (gSet 4 (e2 gAddA (eVB 4) (eLst (aCons (eTup (aCons (eTup (aCons (eTup (aCons (eC (.int 0)) (aCons (eC (.int 1)) aNil))) (aCons (eTup (aCons (eC (.int 12)) (aCons (eC (.int 1)) aNil))) aNil))) (aCons (eDisp (pCons (eC (.int 1)) (eTup (aCons (eC (.int 3)) (aCons (eC (.int 1)) aNil))) (pCons (eC (.int 2)) (eTup (aCons (eC (.int 0)) (aCons (eC (.int 1)) aNil))) pNil))) (aCons (eC (.bl false)) aNil)))) aNil))))
  (gSeq (gSet 4 (e2 gAddA (eVB 4) (eLst (aCons (eTup (aCons (eTup (aCons (eTup (aCons (eC (.int 0)) (aCons (eC (.int 1)) aNil))) aNil)) (aCons (eDisp (pCons (eC (.int 1)) (eTup (aCons (eC (.int 3)) (aCons (eC (.int 1)) aNil))) pNil)) (aCons (eC (.bl false)) aNil)))) aNil))))
  (gSeq (gSet 4 (e2 gAddA (eVB 4) (eLst (aCons (eTup (aCons (eTup (aCons (eTup (aCons (eC (.int 0)) (aCons (eC (.int 1)) aNil))) (aCons (eTup (aCons (eC (.int 12)) (aCons (eC (.int 1)) aNil))) aNil))) (aCons (eDisp (pCons (eC (.int 0)) (eTup (aCons (eC (.int 9)) (aCons (eC (.int 5)) aNil))) pNil)) (aCons (eC (.bl false)) aNil)))) (aCons (eTup (aCons (eTup (aCons (eTup (aCons (eC (.int 0)) (aCons (eC (.int 1)) aNil))) (aCons (eTup (aCons (eC (.int 12)) (aCons (eC (.int 1)) aNil))) aNil))) (aCons (eDisp (pCons (eC .non) (eTup (aCons (eC (.int 9)) (aCons (eC (.int 5)) aNil))) pNil)) (aCons (eC (.bl false)) aNil)))) aNil)))))
  (gSeq (gSet 4 (e2 gAddA (eVB 4) (eLst (aCons (eTup (aCons (eTup (aCons (eTup (aCons (eNeg (eC (.int 1))) (aCons (eC (.int 1)) aNil))) (aCons (eTup (aCons (eC (.int 11)) (aCons (eC (.int 1)) aNil))) aNil))) (aCons (eDisp (pCons (eC (.int 1)) (eTup (aCons (eC (.int 3)) (aCons (eC (.int 1)) aNil))) pNil)) (aCons (eC (.bl false)) aNil)))) aNil))))
  (gRet (e2 (gEqA false) (eLc (iA (eV 4)) ([(Str.ofString "row", 6)].map (·.2)) (bN 6) (eC (.bl true)) (eMth [(1, F_Enough_shows), (2, F_Barred_shows)] (Str.ofString "shows") 2 [(.bl false)] (eMake 1 2 F_EnoughD_initD (aCons (e2 gIxA (eVB 6) (eC (.int 0))) (aCons (e2 gIxA (eVB 6) (eC (.int 1))) aNil))) (aCons (eV 1) (aCons (eC (.int 2)) aNil)))) (eLc (iA (eV 4)) ([(Str.ofString "row", 6)].map (·.2)) (bN 6) (eC (.bl true)) (e2 gIxA (eVB 6) (eC (.int 2))))))))))))))))))))))))
def F_u_law_pays_right : List D → Option D := mkF 7 g_u_law_pays_right

def g_u_worth : DS1 := (gRet (eIf (e2 (gIsN false) (eVB 1) (eC .non)) (eC (.tup [(.int 0), (.int 1)])) (eCall 2 F_average_worth (aCons (eV 0) (aCons (eV 1) aNil)))))
def F_u_worth : List D → Option D := mkF 2 g_u_worth

def g_u_effort : DS1 := (gRet (eIf (e2 (gIsN false) (eVB 1) (eC .non)) (eC (.tup [(.int 0), (.int 1)])) (e2 gIxA (eCall 1 F_work_efforts (aCons (eV 0) aNil)) (eVB 1))))
def F_u_effort : List D → Option D := mkF 2 g_u_effort

def g_u_next_share : DS1 := (gSeq (gSet 2 (eC .non))
  (gSeq (gFor (iR1 (eCB (fun x => (gLen x).or (gLenO 0 F_JobD_lenD x)) (aCons (eVB 0) aNil))) (bN 3)
  (gSeq (gSet 4 (eCall 2 F_minus (aCons (eCall 2 F_u_worth (aCons (eV 0) (aCons (eV 3) aNil))) (aCons (eCall 2 F_u_worth (aCons (eV 0) (aCons (eV 1) aNil))) aNil))))
  (gSeq (gIf (eNot (eCall 2 F_is_less (aCons (eC (.tup [(.int 0), (.int 1)])) (aCons (eV 4) aNil)))) (fun ρ => .ct ρ) gNx)
  (gSeq (gSet 5 (eCall 2 F_over (aCons (eCall 2 F_minus (aCons (eCall 2 F_u_effort (aCons (eV 0) (aCons (eV 3) aNil))) (aCons (eCall 2 F_u_effort (aCons (eV 0) (aCons (eV 1) aNil))) aNil))) (aCons (eV 4) aNil))))
  (gIf (eAnd (eNot (eCall 2 F_is_less (aCons (eC (.tup [(.int 1), (.int 1)])) (aCons (eV 5) aNil)))) (eOr (e2 (gIsN false) (eVB 2) (eC .non)) (eCall 2 F_is_less (aCons (eV 5) (aCons (eV 2) aNil))))) (gSet 2 (eV 5)) gNx)))))
  (gRet (eV 2))))
def F_u_next_share : List D → Option D := mkF 6 g_u_next_share

def g_u_check_share : DS1 := (gIf (eOr (eNot (eCall 1 F_is_amount (aCons (eV 0) aNil))) (eCall 2 F_is_less (aCons (eC (.tup [(.int 1), (.int 1)])) (aCons (eV 0) aNil)))) gStuck gNx)
def F_u_check_share : List D → Option D := mkF 1 g_u_check_share

def g_u_gain : DS1 := (gRet (eCall 2 F_minus (aCons (eCall 2 F_times (aCons (eV 1) (aCons (eCall 2 F_u_worth (aCons (eV 0) (aCons (eV 2) aNil))) aNil))) (aCons (eCall 2 F_u_effort (aCons (eV 0) (aCons (eV 2) aNil))) aNil))))
def F_u_gain : List D → Option D := mkF 3 g_u_gain

def g_u_is_preferred : DS1 := (gSeq (gSet 4 (eCall 3 F_u_gain (aCons (eV 0) (aCons (eV 1) (aCons (eV 2) aNil)))))
  (gSeq (gSet 5 (eCall 3 F_u_gain (aCons (eV 0) (aCons (eV 1) (aCons (eV 3) aNil)))))
  (gSeq (gIf (e2 (gEqA false) (eVB 4) (eVB 5)) (gRet (eCall 2 F_is_less (aCons (eCall 2 F_u_worth (aCons (eV 0) (aCons (eV 3) aNil))) (aCons (eCall 2 F_u_worth (aCons (eV 0) (aCons (eV 2) aNil))) aNil)))) gNx)
  (gRet (eCall 2 F_is_less (aCons (eV 5) (aCons (eV 4) aNil)))))))
def F_u_is_preferred : List D → Option D := mkF 6 g_u_is_preferred

def g_done : DS1 := (gSeq (gExp (eCall 1 F_check_job (aCons (eV 0) aNil)))
  (gSeq (gExp (eCall 1 F_u_check_share (aCons (eV 1) aNil)))
  (gSeq (gSet 2 (eC .non))
  (gSeq (gFor (iR1 (eCB (fun x => (gLen x).or (gLenO 0 F_JobD_lenD x)) (aCons (eVB 0) aNil))) (bN 3)
  (gIf (eCall 4 F_u_is_preferred (aCons (eV 0) (aCons (eV 1) (aCons (eV 3) (aCons (eV 2) aNil))))) (gSet 2 (eV 3)) gNx))
  (gRet (eV 2))))))
def F_done : List D → Option D := mkF 4 g_done

def g_turns : DS1 := (gSeq (gExp (eCall 1 F_check_job (aCons (eV 0) aNil)))
  (gSeq (gSetF 1 (eLst aNil))
  (gSeq (gSet 2 (eC (.tup [(.int 0), (.int 1)])))
  (gSeq (gWh (fun _ => 100) (e2 (gIsN true) (eVB 2) (eC .non)) (gSeq (gSet 3 (eCall 2 F_done (aCons (eV 0) (aCons (eV 2) aNil))))
  (gSeq (gApp 1 (eTup (aCons (eV 2) (aCons (eV 3) aNil))))
  (gSet 2 (eCall 2 F_u_next_share (aCons (eV 0) (aCons (eV 3) aNil)))))))
  (fun ρ => gRet (eV 1) (frz 1 ρ))))))
def F_turns : List D → Option D := mkF 4 g_turns

def g_best_share : DS1 := (gSeq (gSet 1 (eC .non))
  (gSeq (gSet 2 (eC .non))
  (gSeq (gFor (iA (eCall 1 F_turns (aCons (eV 0) aNil))) (bT (bCons (bN 3) (bCons (bN 4) bNil)))
  (gSeq (gSet 5 (eCall 2 F_times (aCons (eCall 2 F_minus (aCons (eC (.tup [(.int 1), (.int 1)])) (aCons (eV 3) aNil))) (aCons (eCall 2 F_u_worth (aCons (eV 0) (aCons (eV 4) aNil))) aNil))))
  (gIf (eOr (e2 (gIsN false) (eVB 1) (eC .non)) (eCall 2 F_is_less (aCons (eV 2) (aCons (eV 5) aNil)))) (gSeq (gSet 1 (eV 3))
  (gSet 2 (eV 5))) gNx)))
  (gRet (eTup (aCons (eV 1) (aCons (eV 2) aNil)))))))
def F_best_share : List D → Option D := mkF 6 g_best_share

def g_u_law_shares_right : DS1 := (gSeq (gPar 1 2 (aCons (eCall 0 F_u_law_two aNil) (aCons (eMake 0 2 F_JobD_initD (aCons (eTup (aCons (eC (.int 4)) (aCons (eC (.int 8)) aNil))) (aCons (eTup (aCons (eTup (aCons (eC (.int 0)) (aCons (eTup (aCons (eC (.int 1)) (aCons (eC (.int 0)) aNil))) aNil))) (aCons (eTup (aCons (eC (.int 0)) (aCons (eTup (aCons (eC (.int 0)) (aCons (eC (.int 1)) aNil))) aNil))) aNil))) aNil))) aNil)))
  (gSeq (gSet 3 (eMake 0 2 F_JobD_initD (aCons (eTup (aCons (eC (.int 0)) (aCons (eC (.int 20)) aNil))) (aCons (eTup (aCons (eTup (aCons (eC (.int 0)) (aCons (eTup (aCons (eC (.int 1)) (aCons (eC (.int 0)) aNil))) aNil))) (aCons (eTup (aCons (eC (.int 2)) (aCons (eTup (aCons (eC (.int 1)) (aCons (eC (.int 1)) aNil))) aNil))) (aCons (eTup (aCons (eC (.int 3)) (aCons (eTup (aCons (eC (.int 1)) (aCons (eC (.int 3)) aNil))) aNil))) aNil)))) aNil))))
  (gSeq (gIf (eOr (e2 (gEqA true) (eCall 1 F_turns (aCons (eV 1) aNil)) (eLst (aCons (eTup (aCons (eTup (aCons (eC (.int 0)) (aCons (eC (.int 1)) aNil))) (aCons (eC (.int 0)) aNil))) (aCons (eTup (aCons (eTup (aCons (eC (.int 4)) (aCons (eC (.int 5)) aNil))) (aCons (eC (.int 1)) aNil))) aNil)))) (e2 (gEqA true) (eCall 1 F_best_share (aCons (eV 1) aNil)) (eTup (aCons (eTup (aCons (eC (.int 0)) (aCons (eC (.int 1)) aNil))) (aCons (eTup (aCons (eC (.int 5)) (aCons (eC (.int 2)) aNil))) aNil))))) (gRet (eC (.bl false))) gNx)
  (gSeq (gIf (e2 (gEqA true) (eCall 1 F_turns (aCons (eV 2) aNil)) (eLst (aCons (eTup (aCons (eTup (aCons (eC (.int 0)) (aCons (eC (.int 1)) aNil))) (aCons (eC (.int 1)) aNil))) aNil))) (gRet (eC (.bl false))) gNx)
  (gSeq (gIf (eOr (e2 (gEqA true) (eCall 1 F_turns (aCons (eV 3) aNil)) (eLst (aCons (eTup (aCons (eTup (aCons (eC (.int 0)) (aCons (eC (.int 1)) aNil))) (aCons (eC .non) aNil))) (aCons (eTup (aCons (eTup (aCons (eC (.int 1)) (aCons (eC (.int 5)) aNil))) (aCons (eC (.int 2)) aNil))) aNil)))) (e2 (gEqA true) (eCall 1 F_best_share (aCons (eV 3) aNil)) (eTup (aCons (eTup (aCons (eC (.int 1)) (aCons (eC (.int 5)) aNil))) (aCons (eTup (aCons (eC (.int 12)) (aCons (eC (.int 1)) aNil))) aNil))))) (gRet (eC (.bl false))) gNx)
  (gSeq (gIf (e2 (gEqA true) (eCall 1 F_best_share (aCons (eV 2) aNil)) (eTup (aCons (eTup (aCons (eC (.int 0)) (aCons (eC (.int 1)) aNil))) (aCons (eTup (aCons (eC (.int 8)) (aCons (eC (.int 1)) aNil))) aNil)))) (gRet (eC (.bl false))) gNx)
  (gSeq (gIf (e2 (gEqA true) (eLc (iA (eTup (aCons (eTup (aCons (eC (.int 0)) (aCons (eC (.int 1)) aNil))) (aCons (eTup (aCons (eC (.int 1)) (aCons (eC (.int 6)) aNil))) (aCons (eTup (aCons (eC (.int 1)) (aCons (eC (.int 5)) aNil))) (aCons (eTup (aCons (eC (.int 1)) (aCons (eC (.int 1)) aNil))) aNil)))))) ([(Str.ofString "share", 5)].map (·.2)) (bN 5) (eC (.bl true)) (eCall 2 F_done (aCons (eV 3) (aCons (eV 5) aNil)))) (eLst (aCons (eC .non) (aCons (eC .non) (aCons (eC (.int 2)) (aCons (eC (.int 2)) aNil)))))) (gRet (eC (.bl false))) gNx)
  (gSeq (gIf (e2 (gEqA true) (eCall 2 F_done (aCons (eV 2) (aCons (eTup (aCons (eC (.int 1)) (aCons (eC (.int 3)) aNil))) aNil))) (eC (.int 1))) (gRet (eC (.bl false))) gNx)
  (gSeq (gSet 4 (eMake 0 2 F_JobD_initD (aCons (eTup (aCons (eC (.int 0)) (aCons (eC (.int 12)) aNil))) (aCons (eTup (aCons (eTup (aCons (eC (.int 1)) (aCons (eTup (aCons (eC (.int 2)) (aCons (eC (.int 1)) aNil))) aNil))) (aCons (eTup (aCons (eC (.int 3)) (aCons (eTup (aCons (eC (.int 1)) (aCons (eC (.int 1)) aNil))) aNil))) (aCons (eTup (aCons (eC (.int 7)) (aCons (eTup (aCons (eC (.int 1)) (aCons (eC (.int 5)) aNil))) aNil))) aNil)))) aNil))))
  (gSeq (gIf (eNot (eAnd (e2 (gEqA false) (eCall 1 F_turns (aCons (eV 4) aNil)) (eLst (aCons (eTup (aCons (eTup (aCons (eC (.int 0)) (aCons (eC (.int 1)) aNil))) (aCons (eC .non) aNil))) (aCons (eTup (aCons (eTup (aCons (eC (.int 1)) (aCons (eC (.int 4)) aNil))) (aCons (eC (.int 0)) aNil))) (aCons (eTup (aCons (eTup (aCons (eC (.int 1)) (aCons (eC (.int 1)) aNil))) (aCons (eC (.int 2)) aNil))) aNil))))) (e2 (gEqA false) (eCall 1 F_best_share (aCons (eV 4) aNil)) (eTup (aCons (eTup (aCons (eC (.int 1)) (aCons (eC (.int 4)) aNil))) (aCons (eTup (aCons (eC (.int 3)) (aCons (eC (.int 1)) aNil))) aNil)))))) (gRet (eC (.bl false))) gNx)
  (gRet (e2 (gEqA false) (eCall 1 F_turns (aCons (eMake 0 2 F_JobD_initD (aCons (eTup (aCons (eC (.int 0)) (aCons (eC (.int 1)) aNil))) (aCons (eTup (aCons (eTup (aCons (eC (.int 2)) (aCons (eTup (aCons (eC (.int 1)) (aCons (eC (.int 1)) aNil))) aNil))) (aCons (eTup (aCons (eC (.int 3)) (aCons (eTup (aCons (eC (.int 1)) (aCons (eC (.int 2)) aNil))) aNil))) aNil))) aNil))) aNil)) (eLst (aCons (eTup (aCons (eTup (aCons (eC (.int 0)) (aCons (eC (.int 1)) aNil))) (aCons (eC .non) aNil))) aNil))))))))))))))
def F_u_law_shares_right : List D → Option D := mkF 6 g_u_law_shares_right

def g_u_law_all_right : DS1 := (gSeq (gSet 1 (eCall 2 F_u_law_number (aCons (eV 0) (aCons (eC (.int 3)) aNil))))
  (gSeq (gIf (e2 (gEqA false) (e2 gModI (eCB gInt (aCons (eVB 1) aNil)) (eC (.int 4))) (eC (.int 0))) (gRet (eCall 1 F_u_law_pays_right (aCons (e2 gDivI (eVB 1) (eC (.int 4))) aNil))) gNx)
  (gSeq (gIf (e2 (gEqA false) (e2 gModI (eCB gInt (aCons (eVB 1) aNil)) (eC (.int 4))) (eC (.int 1))) (gRet (eCall 1 F_u_law_bars_right (aCons (e2 gDivI (eVB 1) (eC (.int 4))) aNil))) gNx)
  (gRet (eIf (e2 (gEqA false) (e2 gModI (eCB gInt (aCons (eVB 1) aNil)) (eC (.int 4))) (eC (.int 2))) (eCall 1 F_u_law_choices_right (aCons (e2 gDivI (eVB 1) (eC (.int 4))) aNil)) (eCall 1 F_u_law_shares_right (aCons (e2 gDivI (eVB 1) (eC (.int 4))) aNil)))))))
def F_u_law_all_right : List D → Option D := mkF 2 g_u_law_all_right
end K06

set_option maxHeartbeats 8000000
namespace K06
open PySem PySem.Spec PyProof.Rows L2 DL
variable [CT]
def topS (i : Nat) : Stmt := PySem.Challenge.pw_outcomepay_k06_known.main.body.getD i (.Pass ⟨0, 0, 0, 0⟩)
set_option genSizeOfSpec false in
set_option genInjectivity false in
structure Txt (K : PySem.W.Frag) (mg : Str → Option Value) where
  cl_Job : Cls K (CT.ct 0)
  mc_Job : mg "Job" = some (.ref (CT.ct 0))
  na_Job_worths : NoAttr K (CT.ct 0) "_worths"
  na_Job_works : NoAttr K (CT.ct 0) "_works"
  cl_Enough : Cls K (CT.ct 1)
  mc_Enough : mg "Enough" = some (.ref (CT.ct 1))
  na_Enough_pay : NoAttr K (CT.ct 1) "pay"
  na_Enough_weights : NoAttr K (CT.ct 1) "weights"
  cl_Barred : Cls K (CT.ct 2)
  mc_Barred : mg "Barred" = some (.ref (CT.ct 2))
  na_Barred_mix : NoAttr K (CT.ct 2) "mix"
  cl_Best : Cls K (CT.ct 3)
  mc_Best : mg "Best" = some (.ref (CT.ct 3))
  na_Best_work : NoAttr K (CT.ct 3) "work"
  na_Best_needs : NoAttr K (CT.ct 3) "needs"
  f_BarredD_initD : Addr
  d_BarredD_initD : FuncData
  fun_BarredD_initD : Fun K "__init__" "Barred.__init__" (inClass (topS 64) 0) f_BarredD_initD d_BarredD_initD
  b_BarredD_initD : Binds K d_BarredD_initD [Str.ofString "self", Str.ofString "mix"] []
  f_JobD_lenD : Addr
  d_JobD_lenD : FuncData
  fun_JobD_lenD : Fun K "__len__" "Job.__len__" (inClass (topS 46) 3) f_JobD_lenD d_JobD_lenD
  b_JobD_lenD : Binds K d_JobD_lenD [Str.ofString "self"] []
  me_JobD_lenD : Meth K (CT.ct 0) "__len__" f_JobD_lenD
  f_ratio : Addr
  d_ratio : FuncData
  fun_ratio : Fun K "ratio" "ratio" (topS 8) f_ratio d_ratio
  b_ratio : Binds K d_ratio [Str.ofString "top", Str.ofString "bottom"] []
  m_ratio : mg "ratio" = some (.ref f_ratio)
  f_plus : Addr
  d_plus : FuncData
  fun_plus : Fun K "plus" "plus" (topS 9) f_plus d_plus
  b_plus : Binds K d_plus [Str.ofString "one", Str.ofString "other"] []
  m_plus : mg "plus" = some (.ref f_plus)
  f_u_sums : Addr
  d_u_sums : FuncData
  fun_u_sums : Fun K "_sums" "_sums" (topS 68) f_u_sums d_u_sums
  b_u_sums : Binds K d_u_sums [Str.ofString "amounts"] []
  m_u_sums : mg "_sums" = some (.ref f_u_sums)
  f_Job_works : Addr
  d_Job_works : FuncData
  fun_Job_works : Fun K "works" "Job.works" (inClass (topS 46) 2) f_Job_works d_Job_works
  b_Job_works : Binds K d_Job_works [Str.ofString "self"] []
  p_Job_works : Addr
  pr_Job_works : PropOf K (CT.ct 0) "works" p_Job_works f_Job_works
  f_work_chances : Addr
  d_work_chances : FuncData
  fun_work_chances : Fun K "work_chances" "work_chances" (topS 56) f_work_chances d_work_chances
  b_work_chances : Binds K d_work_chances [Str.ofString "job", Str.ofString "work"] []
  m_work_chances : mg "work_chances" = some (.ref f_work_chances)
  f_u_views : Addr
  d_u_views : FuncData
  fun_u_views : Fun K "_views" "_views" (topS 67) f_u_views d_u_views
  b_u_views : Binds K d_u_views [Str.ofString "job", Str.ofString "rising"] []
  m_u_views : mg "_views" = some (.ref f_u_views)
  f_is_integer : Addr
  d_is_integer : FuncData
  fun_is_integer : Fun K "is_integer" "is_integer" (topS 4) f_is_integer d_is_integer
  b_is_integer : Binds K d_is_integer [Str.ofString "thing"] []
  m_is_integer : mg "is_integer" = some (.ref f_is_integer)
  f_is_integer_within : Addr
  d_is_integer_within : FuncData
  fun_is_integer_within : Fun K "is_integer_within" "is_integer_within" (topS 5) f_is_integer_within d_is_integer_within
  b_is_integer_within : Binds K d_is_integer_within [Str.ofString "thing", Str.ofString "least", Str.ofString "most"] []
  m_is_integer_within : mg "is_integer_within" = some (.ref f_is_integer_within)
  f_u_are_parts : Addr
  d_u_are_parts : FuncData
  fun_u_are_parts : Fun K "_are_parts" "_are_parts" (topS 50) f_u_are_parts d_u_are_parts
  b_u_are_parts : Binds K d_u_are_parts [Str.ofString "parts", Str.ofString "outcomes"] []
  m_u_are_parts : mg "_are_parts" = some (.ref f_u_are_parts)
  f_is_work : Addr
  d_is_work : FuncData
  fun_is_work : Fun K "is_work" "is_work" (topS 49) f_is_work d_is_work
  b_is_work : Binds K d_is_work [Str.ofString "work", Str.ofString "outcomes"] []
  m_is_work : mg "is_work" = some (.ref f_is_work)
  f_u_are_works : Addr
  d_u_are_works : FuncData
  fun_u_are_works : Fun K "_are_works" "_are_works" (topS 48) f_u_are_works d_u_are_works
  b_u_are_works : Binds K d_u_are_works [Str.ofString "works", Str.ofString "outcomes"] []
  m_u_are_works : mg "_are_works" = some (.ref f_u_are_works)
  f_are_worths : Addr
  d_are_worths : FuncData
  fun_are_worths : Fun K "are_worths" "are_worths" (topS 47) f_are_worths d_are_worths
  b_are_worths : Binds K d_are_worths [Str.ofString "worths"] []
  m_are_worths : mg "are_worths" = some (.ref f_are_worths)
  f_JobD_initD : Addr
  d_JobD_initD : FuncData
  fun_JobD_initD : Fun K "__init__" "Job.__init__" (inClass (topS 46) 0) f_JobD_initD d_JobD_initD
  b_JobD_initD : Binds K d_JobD_initD [Str.ofString "self", Str.ofString "worths", Str.ofString "works"] []
  f_check_job : Addr
  d_check_job : FuncData
  fun_check_job : Fun K "check_job" "check_job" (topS 51) f_check_job d_check_job
  b_check_job : Binds K d_check_job [Str.ofString "job"] []
  m_check_job : mg "check_job" = some (.ref f_check_job)
  f_check_work : Addr
  d_check_work : FuncData
  fun_check_work : Fun K "check_work" "check_work" (topS 52) f_check_work d_check_work
  b_check_work : Binds K d_check_work [Str.ofString "job", Str.ofString "work"] []
  m_check_work : mg "check_work" = some (.ref f_check_work)
  f_u_is_other : Addr
  d_u_is_other : FuncData
  fun_u_is_other : Fun K "_is_other" "_is_other" (topS 31) f_u_is_other d_u_is_other
  b_u_is_other : Binds K d_u_is_other [Str.ofString "views", Str.ofString "work", Str.ofString "other"] []
  m_u_is_other : mg "_is_other" = some (.ref f_u_is_other)
  f_is_fraction : Addr
  d_is_fraction : FuncData
  fun_is_fraction : Fun K "is_fraction" "is_fraction" (topS 6) f_is_fraction d_is_fraction
  b_is_fraction : Binds K d_is_fraction [Str.ofString "thing"] []
  m_is_fraction : mg "is_fraction" = some (.ref f_is_fraction)
  f_is_amount : Addr
  d_is_amount : FuncData
  fun_is_amount : Fun K "is_amount" "is_amount" (topS 7) f_is_amount d_is_amount
  b_is_amount : Binds K d_is_amount [Str.ofString "thing"] []
  m_is_amount : mg "is_amount" = some (.ref f_is_amount)
  f_is_less : Addr
  d_is_less : FuncData
  fun_is_less : Fun K "is_less" "is_less" (topS 15) f_is_less d_is_less
  b_is_less : Binds K d_is_less [Str.ofString "one", Str.ofString "other"] []
  m_is_less : mg "is_less" = some (.ref f_is_less)
  f_total : Addr
  d_total : FuncData
  fun_total : Fun K "total" "total" (topS 16) f_total d_total
  b_total : Binds K d_total [Str.ofString "amounts"] []
  m_total : mg "total" = some (.ref f_total)
  f_times : Addr
  d_times : FuncData
  fun_times : Fun K "times" "times" (topS 12) f_times d_times
  b_times : Binds K d_times [Str.ofString "one", Str.ofString "other"] []
  m_times : mg "times" = some (.ref f_times)
  f_weighted : Addr
  d_weighted : FuncData
  fun_weighted : Fun K "weighted" "weighted" (topS 17) f_weighted d_weighted
  b_weighted : Binds K d_weighted [Str.ofString "weights", Str.ofString "amounts"] []
  m_weighted : mg "weighted" = some (.ref f_weighted)
  f_mix_shows : Addr
  d_mix_shows : FuncData
  fun_mix_shows : Fun K "mix_shows" "mix_shows" (topS 30) f_mix_shows d_mix_shows
  b_mix_shows : Binds K d_mix_shows [Str.ofString "views", Str.ofString "efforts", Str.ofString "work", Str.ofString "mix"] []
  m_mix_shows : mg "mix_shows" = some (.ref f_mix_shows)
  f_work_efforts : Addr
  d_work_efforts : FuncData
  fun_work_efforts : Fun K "work_efforts" "work_efforts" (topS 55) f_work_efforts d_work_efforts
  b_work_efforts : Binds K d_work_efforts [Str.ofString "job"] []
  m_work_efforts : mg "work_efforts" = some (.ref f_work_efforts)
  f_Barred_shows : Addr
  d_Barred_shows : FuncData
  fun_Barred_shows : FunD K "shows" "Barred.shows" (defArgs (inClass (topS 64) 3)) (defBody (inClass (topS 64) 3)) (defScope (inClass (topS 64) 3)) [] [(Str.ofString "rising", (V.bl false))] f_Barred_shows d_Barred_shows
  kb_Barred_shows : KBn K d_Barred_shows [Str.ofString "self", Str.ofString "job", Str.ofString "work", Str.ofString "rising"] 3 [Str.ofString "rising"] (fun us ws => us ++ ws) (fun vs zs => vs ++ zs)
  db_Barred_shows : ∃ ds, Vals [(V.bl false)] ds ∧ Binds K d_Barred_shows [Str.ofString "self", Str.ofString "job", Str.ofString "work", Str.ofString "rising"] ds
  me_Barred_shows : Meth K (CT.ct 2) "shows" f_Barred_shows
  f_u_is_rising : Addr
  d_u_is_rising : FuncData
  fun_u_is_rising : Fun K "_is_rising" "_is_rising" (topS 69) f_u_is_rising d_u_is_rising
  b_u_is_rising : Binds K d_u_is_rising [Str.ofString "pay"] []
  m_u_is_rising : mg "_is_rising" = some (.ref f_u_is_rising)
  f_average_pay : Addr
  d_average_pay : FuncData
  fun_average_pay : Fun K "average_pay" "average_pay" (topS 57) f_average_pay d_average_pay
  b_average_pay : Binds K d_average_pay [Str.ofString "job", Str.ofString "work", Str.ofString "pay"] []
  m_average_pay : mg "average_pay" = some (.ref f_average_pay)
  f_Job_worths : Addr
  d_Job_worths : FuncData
  fun_Job_worths : Fun K "worths" "Job.worths" (inClass (topS 46) 1) f_Job_worths d_Job_worths
  b_Job_worths : Binds K d_Job_worths [Str.ofString "self"] []
  p_Job_worths : Addr
  pr_Job_worths : PropOf K (CT.ct 0) "worths" p_Job_worths f_Job_worths
  f_is_pay : Addr
  d_is_pay : FuncData
  fun_is_pay : Fun K "is_pay" "is_pay" (topS 53) f_is_pay d_is_pay
  b_is_pay : Binds K d_is_pay [Str.ofString "job", Str.ofString "pay"] []
  m_is_pay : mg "is_pay" = some (.ref f_is_pay)
  f_check_pay : Addr
  d_check_pay : FuncData
  fun_check_pay : Fun K "check_pay" "check_pay" (topS 54) f_check_pay d_check_pay
  b_check_pay : Binds K d_check_pay [Str.ofString "job", Str.ofString "pay"] []
  m_check_pay : mg "check_pay" = some (.ref f_check_pay)
  f_negative : Addr
  d_negative : FuncData
  fun_negative : Fun K "negative" "negative" (topS 10) f_negative d_negative
  b_negative : Binds K d_negative [Str.ofString "one"] []
  m_negative : mg "negative" = some (.ref f_negative)
  f_minus : Addr
  d_minus : FuncData
  fun_minus : Fun K "minus" "minus" (topS 11) f_minus d_minus
  b_minus : Binds K d_minus [Str.ofString "one", Str.ofString "other"] []
  m_minus : mg "minus" = some (.ref f_minus)
  f_gain : Addr
  d_gain : FuncData
  fun_gain : Fun K "gain" "gain" (topS 59) f_gain d_gain
  b_gain : Binds K d_gain [Str.ofString "job", Str.ofString "work", Str.ofString "pay"] []
  m_gain : mg "gain" = some (.ref f_gain)
  f_wanted : Addr
  d_wanted : FuncData
  fun_wanted : Fun K "wanted" "wanted" (topS 61) f_wanted d_wanted
  b_wanted : Binds K d_wanted [Str.ofString "job", Str.ofString "pay"] []
  m_wanted : mg "wanted" = some (.ref f_wanted)
  f_u_differences : Addr
  d_u_differences : FuncData
  fun_u_differences : Fun K "_differences" "_differences" (topS 32) f_u_differences d_u_differences
  b_u_differences : Binds K d_u_differences [Str.ofString "views", Str.ofString "work", Str.ofString "other"] []
  m_u_differences : mg "_differences" = some (.ref f_u_differences)
  f_u_effort_difference : Addr
  d_u_effort_difference : FuncData
  fun_u_effort_difference : Fun K "_effort_difference" "_effort_difference" (topS 33) f_u_effort_difference d_u_effort_difference
  b_u_effort_difference : Binds K d_u_effort_difference [Str.ofString "efforts", Str.ofString "work", Str.ofString "other"] []
  m_u_effort_difference : mg "_effort_difference" = some (.ref f_u_effort_difference)
  f_are_within : Addr
  d_are_within : FuncData
  fun_are_within : Fun K "are_within" "are_within" (topS 29) f_are_within d_are_within
  b_are_within : Binds K d_are_within [Str.ofString "factors", Str.ofString "rows", Str.ofString "limits"] []
  m_are_within : mg "are_within" = some (.ref f_are_within)
  f_weights_show : Addr
  d_weights_show : FuncData
  fun_weights_show : Fun K "weights_show" "weights_show" (topS 28) f_weights_show d_weights_show
  b_weights_show : Binds K d_weights_show [Str.ofString "views", Str.ofString "efforts", Str.ofString "work", Str.ofString "weights", Str.ofString "cost"] []
  m_weights_show : mg "weights_show" = some (.ref f_weights_show)
  f_Enough_shows : Addr
  d_Enough_shows : FuncData
  fun_Enough_shows : FunD K "shows" "Enough.shows" (defArgs (inClass (topS 63) 2)) (defBody (inClass (topS 63) 2)) (defScope (inClass (topS 63) 2)) [] [(Str.ofString "rising", (V.bl false))] f_Enough_shows d_Enough_shows
  kb_Enough_shows : KBn K d_Enough_shows [Str.ofString "self", Str.ofString "job", Str.ofString "work", Str.ofString "rising"] 3 [Str.ofString "rising"] (fun us ws => us ++ ws) (fun vs zs => vs ++ zs)
  db_Enough_shows : ∃ ds, Vals [(V.bl false)] ds ∧ Binds K d_Enough_shows [Str.ofString "self", Str.ofString "job", Str.ofString "work", Str.ofString "rising"] ds
  me_Enough_shows : Meth K (CT.ct 1) "shows" f_Enough_shows
  f_u_law_blend : Addr
  d_u_law_blend : FuncData
  fun_u_law_blend : Fun K "_law_blend" "_law_blend" (topS 89) f_u_law_blend d_u_law_blend
  b_u_law_blend : Binds K d_u_law_blend [] []
  m_u_law_blend : mg "_law_blend" = some (.ref f_u_law_blend)
  f_EnoughD_initD : Addr
  d_EnoughD_initD : FuncData
  fun_EnoughD_initD : Fun K "__init__" "Enough.__init__" (inClass (topS 63) 0) f_EnoughD_initD d_EnoughD_initD
  b_EnoughD_initD : Binds K d_EnoughD_initD [Str.ofString "self", Str.ofString "pay", Str.ofString "weights"] []
  f_u_endless_weights : Addr
  d_u_endless_weights : FuncData
  fun_u_endless_weights : Fun K "_endless_weights" "_endless_weights" (topS 25) f_u_endless_weights d_u_endless_weights
  b_u_endless_weights : Binds K d_u_endless_weights [Str.ofString "table", Str.ofString "told", Str.ofString "many", Str.ofString "column"] []
  m_u_endless_weights : mg "_endless_weights" = some (.ref f_u_endless_weights)
  f_u_first_table : Addr
  d_u_first_table : FuncData
  fun_u_first_table : Fun K "_first_table" "_first_table" (topS 20) f_u_first_table d_u_first_table
  b_u_first_table : Binds K d_u_first_table [Str.ofString "costs", Str.ofString "rows", Str.ofString "needs"] []
  m_u_first_table : mg "_first_table" = some (.ref f_u_first_table)
  f_inverse : Addr
  d_inverse : FuncData
  fun_inverse : Fun K "inverse" "inverse" (topS 13) f_inverse d_inverse
  b_inverse : Binds K d_inverse [Str.ofString "one"] []
  m_inverse : mg "inverse" = some (.ref f_inverse)
  f_over : Addr
  d_over : FuncData
  fun_over : Fun K "over" "over" (topS 14) f_over d_over
  b_over : Binds K d_over [Str.ofString "one", Str.ofString "other"] []
  m_over : mg "over" = some (.ref f_over)
  f_u_pivoted : Addr
  d_u_pivoted : FuncData
  fun_u_pivoted : Fun K "_pivoted" "_pivoted" (topS 23) f_u_pivoted d_u_pivoted
  b_u_pivoted : Binds K d_u_pivoted [Str.ofString "table", Str.ofString "line", Str.ofString "column"] []
  m_u_pivoted : mg "_pivoted" = some (.ref f_u_pivoted)
  f_u_rising_column : Addr
  d_u_rising_column : FuncData
  fun_u_rising_column : Fun K "_rising_column" "_rising_column" (topS 21) f_u_rising_column d_u_rising_column
  b_u_rising_column : Binds K d_u_rising_column [Str.ofString "goal"] []
  m_u_rising_column : mg "_rising_column" = some (.ref f_u_rising_column)
  f_u_tightest_line : Addr
  d_u_tightest_line : FuncData
  fun_u_tightest_line : Fun K "_tightest_line" "_tightest_line" (topS 22) f_u_tightest_line d_u_tightest_line
  b_u_tightest_line : Binds K d_u_tightest_line [Str.ofString "table", Str.ofString "told", Str.ofString "column"] []
  m_u_tightest_line : mg "_tightest_line" = some (.ref f_u_tightest_line)
  f_u_weights : Addr
  d_u_weights : FuncData
  fun_u_weights : Fun K "_weights" "_weights" (topS 24) f_u_weights d_u_weights
  b_u_weights : Binds K d_u_weights [Str.ofString "table", Str.ofString "told", Str.ofString "many"] []
  m_u_weights : mg "_weights" = some (.ref f_u_weights)
  f_cheapest : Addr
  d_cheapest : FuncData
  fun_cheapest : Fun K "cheapest" "cheapest" (topS 19) f_cheapest d_cheapest
  b_cheapest : Binds K d_cheapest [Str.ofString "costs", Str.ofString "rows", Str.ofString "needs"] []
  m_cheapest : mg "cheapest" = some (.ref f_cheapest)
  f_least_amounts : Addr
  d_least_amounts : FuncData
  fun_least_amounts : Fun K "least_amounts" "least_amounts" (topS 27) f_least_amounts d_least_amounts
  b_least_amounts : Binds K d_least_amounts [Str.ofString "views", Str.ofString "efforts", Str.ofString "work"] []
  m_least_amounts : mg "least_amounts" = some (.ref f_least_amounts)
  f_least_pay : Addr
  d_least_pay : FuncData
  fun_least_pay : FunD K "least_pay" "least_pay" (defArgs (topS 65)) (defBody (topS 65)) (defScope (topS 65)) [] [(Str.ofString "rising", (V.bl false))] f_least_pay d_least_pay
  kb_least_pay : KBn K d_least_pay [Str.ofString "job", Str.ofString "work", Str.ofString "rising"] 2 [Str.ofString "rising"] (fun us ws => us ++ ws) (fun vs zs => vs ++ zs)
  db_least_pay : ∃ ds, Vals [(V.bl false)] ds ∧ Binds K d_least_pay [Str.ofString "job", Str.ofString "work", Str.ofString "rising"] ds
  m_least_pay : mg "least_pay" = some (.ref f_least_pay)
  f_pay_cost : Addr
  d_pay_cost : FuncData
  fun_pay_cost : FunD K "pay_cost" "pay_cost" (defArgs (topS 66)) (defBody (topS 66)) (defScope (topS 66)) [] [(Str.ofString "rising", (V.bl false))] f_pay_cost d_pay_cost
  kb_pay_cost : KBn K d_pay_cost [Str.ofString "job", Str.ofString "work", Str.ofString "rising"] 2 [Str.ofString "rising"] (fun us ws => us ++ ws) (fun vs zs => vs ++ zs)
  db_pay_cost : ∃ ds, Vals [(V.bl false)] ds ∧ Binds K d_pay_cost [Str.ofString "job", Str.ofString "work", Str.ofString "rising"] ds
  m_pay_cost : mg "pay_cost" = some (.ref f_pay_cost)
  f_u_law_bars_right : Addr
  d_u_law_bars_right : FuncData
  fun_u_law_bars_right : Fun K "_law_bars_right" "_law_bars_right" (topS 91) f_u_law_bars_right d_u_law_bars_right
  b_u_law_bars_right : Binds K d_u_law_bars_right [Str.ofString "cell"] []
  m_u_law_bars_right : mg "_law_bars_right" = some (.ref f_u_law_bars_right)
  f_BestD_initD : Addr
  d_BestD_initD : FuncData
  fun_BestD_initD : Fun K "__init__" "Best.__init__" (inClass (topS 71) 0) f_BestD_initD d_BestD_initD
  b_BestD_initD : Binds K d_BestD_initD [Str.ofString "self", Str.ofString "work", Str.ofString "needs"] []
  f_u_are_needs : Addr
  d_u_are_needs : FuncData
  fun_u_are_needs : Fun K "_are_needs" "_are_needs" (topS 74) f_u_are_needs d_u_are_needs
  b_u_are_needs : Binds K d_u_are_needs [Str.ofString "job", Str.ofString "rising", Str.ofString "needs"] []
  m_u_are_needs : mg "_are_needs" = some (.ref f_u_are_needs)
  f_average_worth : Addr
  d_average_worth : FuncData
  fun_average_worth : Fun K "average_worth" "average_worth" (topS 58) f_average_worth d_average_worth
  b_average_worth : Binds K d_average_worth [Str.ofString "job", Str.ofString "work"] []
  m_average_worth : mg "average_worth" = some (.ref f_average_worth)
  f_profit : Addr
  d_profit : FuncData
  fun_profit : Fun K "profit" "profit" (topS 60) f_profit d_profit
  b_profit : Binds K d_profit [Str.ofString "job", Str.ofString "work", Str.ofString "pay"] []
  m_profit : mg "profit" = some (.ref f_profit)
  f_u_best_works : Addr
  d_u_best_works : FuncData
  fun_u_best_works : Fun K "_best_works" "_best_works" (topS 75) f_u_best_works d_u_best_works
  b_u_best_works : Binds K d_u_best_works [Str.ofString "job", Str.ofString "needs"] []
  m_u_best_works : mg "_best_works" = some (.ref f_u_best_works)
  f_Best_shows : Addr
  d_Best_shows : FuncData
  fun_Best_shows : FunD K "shows" "Best.shows" (defArgs (inClass (topS 71) 3)) (defBody (inClass (topS 71) 3)) (defScope (inClass (topS 71) 3)) [] [(Str.ofString "rising", (V.bl false))] f_Best_shows d_Best_shows
  kb_Best_shows : KBn K d_Best_shows [Str.ofString "self", Str.ofString "job", Str.ofString "rising"] 2 [Str.ofString "rising"] (fun us ws => us ++ ws) (fun vs zs => vs ++ zs)
  db_Best_shows : ∃ ds, Vals [(V.bl false)] ds ∧ Binds K d_Best_shows [Str.ofString "self", Str.ofString "job", Str.ofString "rising"] ds
  me_Best_shows : Meth K (CT.ct 3) "shows" f_Best_shows
  f_u_law_two : Addr
  d_u_law_two : FuncData
  fun_u_law_two : Fun K "_law_two" "_law_two" (topS 88) f_u_law_two d_u_law_two
  b_u_law_two : Binds K d_u_law_two [] []
  m_u_law_two : mg "_law_two" = some (.ref f_u_law_two)
  f_choose : Addr
  d_choose : FuncData
  fun_choose : FunD K "choose" "choose" (defArgs (topS 72)) (defBody (topS 72)) (defScope (topS 72)) [] [(Str.ofString "rising", (V.bl false))] f_choose d_choose
  kb_choose : KBn K d_choose [Str.ofString "job", Str.ofString "rising"] 1 [Str.ofString "rising"] (fun us ws => us ++ ws) (fun vs zs => vs ++ zs)
  db_choose : ∃ ds, Vals [(V.bl false)] ds ∧ Binds K d_choose [Str.ofString "job", Str.ofString "rising"] ds
  m_choose : mg "choose" = some (.ref f_choose)
  f_best_profit : Addr
  d_best_profit : FuncData
  fun_best_profit : FunD K "best_profit" "best_profit" (defArgs (topS 73)) (defBody (topS 73)) (defScope (topS 73)) [] [(Str.ofString "rising", (V.bl false))] f_best_profit d_best_profit
  kb_best_profit : KBn K d_best_profit [Str.ofString "job", Str.ofString "rising"] 1 [Str.ofString "rising"] (fun us ws => us ++ ws) (fun vs zs => vs ++ zs)
  db_best_profit : ∃ ds, Vals [(V.bl false)] ds ∧ Binds K d_best_profit [Str.ofString "job", Str.ofString "rising"] ds
  m_best_profit : mg "best_profit" = some (.ref f_best_profit)
  f_u_law_choices_right : Addr
  d_u_law_choices_right : FuncData
  fun_u_law_choices_right : Fun K "_law_choices_right" "_law_choices_right" (topS 92) f_u_law_choices_right d_u_law_choices_right
  b_u_law_choices_right : Binds K d_u_law_choices_right [Str.ofString "cell"] []
  m_u_law_choices_right : mg "_law_choices_right" = some (.ref f_u_law_choices_right)
  f_u_law_number : Addr
  d_u_law_number : FuncData
  fun_u_law_number : Fun K "_law_number" "_law_number" (topS 87) f_u_law_number d_u_law_number
  b_u_law_number : Binds K d_u_law_number [Str.ofString "script", Str.ofString "index"] []
  m_u_law_number : mg "_law_number" = some (.ref f_u_law_number)
  f_u_law_pays_right : Addr
  d_u_law_pays_right : FuncData
  fun_u_law_pays_right : Fun K "_law_pays_right" "_law_pays_right" (topS 90) f_u_law_pays_right d_u_law_pays_right
  b_u_law_pays_right : Binds K d_u_law_pays_right [Str.ofString "cell"] []
  m_u_law_pays_right : mg "_law_pays_right" = some (.ref f_u_law_pays_right)
  f_u_worth : Addr
  d_u_worth : FuncData
  fun_u_worth : Fun K "_worth" "_worth" (topS 84) f_u_worth d_u_worth
  b_u_worth : Binds K d_u_worth [Str.ofString "job", Str.ofString "work"] []
  m_u_worth : mg "_worth" = some (.ref f_u_worth)
  f_u_effort : Addr
  d_u_effort : FuncData
  fun_u_effort : Fun K "_effort" "_effort" (topS 85) f_u_effort d_u_effort
  b_u_effort : Binds K d_u_effort [Str.ofString "job", Str.ofString "work"] []
  m_u_effort : mg "_effort" = some (.ref f_u_effort)
  f_u_next_share : Addr
  d_u_next_share : FuncData
  fun_u_next_share : Fun K "_next_share" "_next_share" (topS 82) f_u_next_share d_u_next_share
  b_u_next_share : Binds K d_u_next_share [Str.ofString "job", Str.ofString "work"] []
  m_u_next_share : mg "_next_share" = some (.ref f_u_next_share)
  f_u_check_share : Addr
  d_u_check_share : FuncData
  fun_u_check_share : Fun K "_check_share" "_check_share" (topS 80) f_u_check_share d_u_check_share
  b_u_check_share : Binds K d_u_check_share [Str.ofString "share"] []
  m_u_check_share : mg "_check_share" = some (.ref f_u_check_share)
  f_u_gain : Addr
  d_u_gain : FuncData
  fun_u_gain : Fun K "_gain" "_gain" (topS 83) f_u_gain d_u_gain
  b_u_gain : Binds K d_u_gain [Str.ofString "job", Str.ofString "share", Str.ofString "work"] []
  m_u_gain : mg "_gain" = some (.ref f_u_gain)
  f_u_is_preferred : Addr
  d_u_is_preferred : FuncData
  fun_u_is_preferred : Fun K "_is_preferred" "_is_preferred" (topS 81) f_u_is_preferred d_u_is_preferred
  b_u_is_preferred : Binds K d_u_is_preferred [Str.ofString "job", Str.ofString "share", Str.ofString "work", Str.ofString "other"] []
  m_u_is_preferred : mg "_is_preferred" = some (.ref f_u_is_preferred)
  f_done : Addr
  d_done : FuncData
  fun_done : Fun K "done" "done" (topS 78) f_done d_done
  b_done : Binds K d_done [Str.ofString "job", Str.ofString "share"] []
  m_done : mg "done" = some (.ref f_done)
  f_turns : Addr
  d_turns : FuncData
  fun_turns : Fun K "turns" "turns" (topS 77) f_turns d_turns
  b_turns : Binds K d_turns [Str.ofString "job"] []
  m_turns : mg "turns" = some (.ref f_turns)
  f_best_share : Addr
  d_best_share : FuncData
  fun_best_share : Fun K "best_share" "best_share" (topS 79) f_best_share d_best_share
  b_best_share : Binds K d_best_share [Str.ofString "job"] []
  m_best_share : mg "best_share" = some (.ref f_best_share)
  f_u_law_shares_right : Addr
  d_u_law_shares_right : FuncData
  fun_u_law_shares_right : Fun K "_law_shares_right" "_law_shares_right" (topS 93) f_u_law_shares_right d_u_law_shares_right
  b_u_law_shares_right : Binds K d_u_law_shares_right [Str.ofString "cell"] []
  m_u_law_shares_right : mg "_law_shares_right" = some (.ref f_u_law_shares_right)
  f_u_law_all_right : Addr
  d_u_law_all_right : FuncData
  fun_u_law_all_right : Fun K "_law_all_right" "_law_all_right" (topS 94) f_u_law_all_right d_u_law_all_right
  b_u_law_all_right : Binds K d_u_law_all_right [Str.ofString "script"] []
  m_u_law_all_right : mg "_law_all_right" = some (.ref f_u_law_all_right)
  mk_Job : Mk K (CT.ct 0) f_JobD_initD
  mk_Enough : Mk K (CT.ct 1) f_EnoughD_initD
  mk_Barred : Mk K (CT.ct 2) f_BarredD_initD
  mk_Best : Mk K (CT.ct 3) f_BestD_initD
  at_works : Flds K [0] "_works"
  at_worths : Flds K [0] "_worths"
  at_mix : Flds K [2] "mix"
  at_needs : Flds K [3] "needs"
  at_pay : Flds K [1] "pay"
  at_weights : Flds K [1] "weights"
  at_work : Flds K [3] "work"
  isa_Barred : IsaOk K [0, 1, 2, 3] 2
  isa_Job : IsaOk K [0, 1, 2, 3] 0
  n_all : mg "all" = none
  n_any : mg "any" = none
  n_bool : mg "bool" = none
  n_enumerate : mg "enumerate" = none
  n_int : mg "int" = none
  n_isinstance : mg "isinstance" = none
  n_len : mg "len" = none
  n_list : mg "list" = none
  n_range : mg "range" = none
  n_sum : mg "sum" = none
  n_tuple : mg "tuple" = none
  n_zip : mg "zip" = none
  t_FEWEST : Tok
  m_FEWEST : mg "FEWEST" = some (.int 2 t_FEWEST)
  t_MOST : Tok
  m_MOST : mg "MOST" = some (.int 4 t_MOST)
  t_MOST_EFFORT : Tok
  m_MOST_EFFORT : mg "MOST_EFFORT" = some (.int 9 t_MOST_EFFORT)
  t_MOST_PART : Tok
  m_MOST_PART : mg "MOST_PART" = some (.int 6 t_MOST_PART)
  t_MOST_WORTH : Tok
  m_MOST_WORTH : mg "MOST_WORTH" = some (.int 20 t_MOST_WORTH)
  a_ONE : Addr
  m_ONE : mg "ONE" = some (.ref a_ONE)
  r_ONE : ∀ H, Rep K H (.ref a_ONE) (.tup [(.int 1), (.int 1)])
  a_ZERO : Addr
  m_ZERO : mg "ZERO" = some (.ref a_ZERO)
  r_ZERO : ∀ H, Rep K H (.ref a_ZERO) (.tup [(.int 0), (.int 1)])
  m_gcd : mg "gcd" = some (.builtin "math.gcd")
end K06

set_option maxHeartbeats 8000000
namespace K06
open PySem PySem.Spec PyProof.Rows L2 DL
section
variable [CT] {P : Program} {w : World} {K : PySem.W.Frag} {mg : Str → Option Value} {base : Heap}
abbrev s_BarredD_initD : Stmt := inClass (topS 64) 0
theorem sc_BarredD_initD : FnScope [Str.ofString "self", Str.ofString "mix", Str.ofString "other"] [Str.ofString "self", Str.ofString "mix"] (defScope s_BarredD_initD) := ⟨rfl, rfl, rfl, by decide +kernel, rfl, by decide +kernel, by decide +kernel⟩

theorem ok_BarredD_initD (T : Txt K mg) : FnOk P w K mg base CX0 1 T.f_BarredD_initD T.d_BarredD_initD [Str.ofString "self", Str.ofString "mix"] (spI K 2 1 F_BarredD_initD) := by
  unfold F_BarredD_initD
  refine init_ok s_BarredD_initD [Str.ofString "self", Str.ofString "mix", Str.ofString "other"] [Str.ofString "self", Str.ofString "mix"] 0 2 1 g_BarredD_initD T.fun_BarredD_initD sc_BarredD_initD rfl rfl fun cdv A outer s H E hr => ?_
  have hu := hr.units
  have h5 := hr.units5
  exact (din_fld T.cl_Barred T.na_Barred_mix (pv 0) (de_of (df_dc [(Str.ofString "other", 2)] hu rfl sc_BarredD_initD.nd (di_A (de_var 1 (pv 1))) (blkOk_by (by kernel_rfl)) (fun _ _ _ _ _ => (dg_name 2 sc_BarredD_initD.nd)) (fun _ _ _ _ _ => dts_nil) (fun _ _ _ _ _ => (de_var 2 (pv 2))) (fun _ _ _ _ _ => (de_ixA hu (db_var 1 (pv 1)) (db_var 2 (pv 2))))))
      din_nil)

abbrev s_JobD_lenD : Stmt := inClass (topS 46) 3
theorem sc_JobD_lenD : FnScope [Str.ofString "self"] [Str.ofString "self"] (defScope s_JobD_lenD) := ⟨rfl, rfl, rfl, by decide +kernel, rfl, by decide +kernel, by decide +kernel⟩

theorem ok_JobD_lenD (T : Txt K mg) : FnOk P w K mg base CX0 1 T.f_JobD_lenD T.d_JobD_lenD [Str.ofString "self"] (spD K 1 F_JobD_lenD) := by
  unfold F_JobD_lenD
  refine def_ok' s_JobD_lenD [Str.ofString "self"] [Str.ofString "self"] 0 1 1 g_JobD_lenD T.fun_JobD_lenD sc_JobD_lenD rfl rfl fun cdv A outer s H E hr => ?_
  have hu := hr.units
  have h5 := hr.units5
  exact (dss_one (ds_ret (de_callB cd_lenA (by rfl) T.n_len (by decide +kernel) (dab_cons (db_of (de_fld T.at_works (de_var 0 (pv 0)))) dab_nil))))

abbrev s_ratio : Stmt := topS 8
theorem sc_ratio : FnScope [Str.ofString "top", Str.ofString "bottom", Str.ofString "shared"] [Str.ofString "top", Str.ofString "bottom"] (defScope s_ratio) := ⟨rfl, rfl, rfl, by decide +kernel, rfl, by decide +kernel, by decide +kernel⟩

theorem ok_ratio (T : Txt K mg) : FnOk P w K mg base CX0 1 T.f_ratio T.d_ratio [Str.ofString "top", Str.ofString "bottom"] (spD K 2 F_ratio) := by
  unfold F_ratio
  refine def_ok' s_ratio [Str.ofString "top", Str.ofString "bottom", Str.ofString "shared"] [Str.ofString "top", Str.ofString "bottom"] 0 3 2 g_ratio T.fun_ratio sc_ratio rfl rfl fun cdv A outer s H E hr => ?_
  have hu := hr.units
  have h5 := hr.units5
  exact (dss_cons (ds_set 2 sc_ratio.nd (de_callFun cd_gcd (by rfl) T.m_gcd (dab_cons (db_var 0 (pv 0)) (dab_cons (db_var 1 (pv 1)) dab_nil)) fun c h => pe_callBfun c (by rfl) T.m_gcd h))
      (dss_one (ds_ret (de_tup (da_cons (de_op od_div (db_var 0 (pv 0)) (db_var 2 (pv 2))) (da_cons (de_op od_div (db_var 1 (pv 1)) (db_var 2 (pv 2))) da_nil))))))

abbrev s_plus : Stmt := topS 9
theorem sc_plus : FnScope [Str.ofString "one", Str.ofString "other"] [Str.ofString "one", Str.ofString "other"] (defScope s_plus) := ⟨rfl, rfl, rfl, by decide +kernel, rfl, by decide +kernel, by decide +kernel⟩

theorem ok_plus (T : Txt K mg) : FnOk P w K mg base CX0 2 T.f_plus T.d_plus [Str.ofString "one", Str.ofString "other"] (spD K 2 F_plus) := by
  unfold F_plus
  refine def_ok' s_plus [Str.ofString "one", Str.ofString "other"] [Str.ofString "one", Str.ofString "other"] 1 2 2 g_plus T.fun_plus sc_plus rfl rfl fun cdv A outer s H E hr => ?_
  have hu := hr.units
  have h5 := hr.units5
  exact (dss_one (ds_ret (de_call (ok_ratio T) (hr.mono (by decide)) (by rfl) T.m_ratio T.fun_ratio.kp T.b_ratio (da_cons (de_op od_addA (db_of (de_op od_mulA (db_of (de_ixA hu (db_var 0 (pv 0)) (db_of de_int))) (db_of (de_ixA hu (db_var 1 (pv 1)) (db_of de_int))))) (db_of (de_op od_mulA (db_of (de_ixA hu (db_var 1 (pv 1)) (db_of de_int))) (db_of (de_ixA hu (db_var 0 (pv 0)) (db_of de_int)))))) (da_cons (de_op od_mulA (db_of (de_ixA hu (db_var 0 (pv 0)) (db_of de_int))) (db_of (de_ixA hu (db_var 1 (pv 1)) (db_of de_int)))) da_nil)))))

abbrev s_u_sums : Stmt := topS 68
theorem sc_u_sums : FnScope [Str.ofString "amounts", Str.ofString "found", Str.ofString "reached", Str.ofString "amount"] [Str.ofString "amounts"] (defScope s_u_sums) := ⟨rfl, rfl, rfl, by decide +kernel, rfl, by decide +kernel, by decide +kernel⟩

theorem ok_u_sums (T : Txt K mg) : FnOk P w K mg base CX0 3 T.f_u_sums T.d_u_sums [Str.ofString "amounts"] (spD K 1 F_u_sums) := by
  unfold F_u_sums
  refine def_ok' s_u_sums [Str.ofString "amounts", Str.ofString "found", Str.ofString "reached", Str.ofString "amount"] [Str.ofString "amounts"] 2 4 1 g_u_sums T.fun_u_sums sc_u_sums rfl rfl fun cdv A outer s H E hr => ?_
  have hu := hr.units
  have h5 := hr.units5
  exact (dss_cons (ds_setF 1 sc_u_sums.nd (df_lst da_nil))
      (dss_cons (ds_set 2 sc_u_sums.nd (de_glob (pe_glob (v := L2.V.ref T.a_ZERO) rfl T.m_ZERO rfl) (fun _ => T.r_ZERO _)))
      (dss_cons (ds_for PassesOwn.never rfl (di_A (de_var 0 (pv 0))) (dg_name 3 sc_u_sums.nd)
      (dss_cons (ds_set 2 sc_u_sums.nd (de_call (ok_plus T) (hr.mono (by decide)) (by rfl) T.m_plus T.fun_plus.kp T.b_plus (da_cons (de_var 2 (pv 2)) (da_cons (de_var 3 (pv 3)) da_nil))))
      (dss_one (ds_app 1 (pv 1) (de_var 2 (pv 2)) fun a b => ps_expr (pe_bm PySem.F.plainAttrs_list PySem.F.slot_list_append PySem.F.type_list_append mt_append a (pa_cons b pa_nil))))))
      (dss_one (ds_frz 1 (ds_ret (de_var 1 (pv 1))))))))

abbrev s_Job_works : Stmt := inClass (topS 46) 2
theorem sc_Job_works : FnScope [Str.ofString "self"] [Str.ofString "self"] (defScope s_Job_works) := ⟨rfl, rfl, rfl, by decide +kernel, rfl, by decide +kernel, by decide +kernel⟩

theorem ok_Job_works (T : Txt K mg) : FnOk P w K mg base CX0 1 T.f_Job_works T.d_Job_works [Str.ofString "self"] (spD K 1 F_Job_works) := by
  unfold F_Job_works
  refine def_ok' s_Job_works [Str.ofString "self"] [Str.ofString "self"] 0 1 1 g_Job_works T.fun_Job_works sc_Job_works rfl rfl fun cdv A outer s H E hr => ?_
  have hu := hr.units
  have h5 := hr.units5
  exact (dss_one (ds_ret (de_fld T.at_works (de_var 0 (pv 0)))))

abbrev s_work_chances : Stmt := topS 56
theorem sc_work_chances : FnScope [Str.ofString "job", Str.ofString "work", Str.ofString "parts", Str.ofString "part"] [Str.ofString "job", Str.ofString "work"] (defScope s_work_chances) := ⟨rfl, rfl, rfl, by decide +kernel, rfl, by decide +kernel, by decide +kernel⟩

theorem ok_work_chances (T : Txt K mg) : FnOk P w K mg base CX0 3 T.f_work_chances T.d_work_chances [Str.ofString "job", Str.ofString "work"] (spD K 2 F_work_chances) := by
  unfold F_work_chances
  refine def_ok' s_work_chances [Str.ofString "job", Str.ofString "work", Str.ofString "parts", Str.ofString "part"] [Str.ofString "job", Str.ofString "work"] 2 4 2 g_work_chances T.fun_work_chances sc_work_chances rfl rfl fun cdv A outer s H E hr => ?_
  have hu := hr.units
  have h5 := hr.units5
  exact (dss_cons (ds_set 2 sc_work_chances.nd (de_ixA hu (db_of (de_ixA hu (db_of (de_prop T.cl_Job T.pr_Job_works (ok_Job_works T) (hr.mono (by decide)) T.b_Job_works (de_var 0 (pv 0)))) (db_var 1 (pv 1)))) (db_of de_int)))
      (dss_one (ds_ret (de_of (df_lc [(Str.ofString "part", 3)] rfl sc_work_chances.nd (di_A (de_var 2 (pv 2))) (blkOk_by (by kernel_rfl)) (fun _ _ _ _ _ => (dg_name 3 sc_work_chances.nd)) (fun _ _ _ _ _ => dts_nil) (fun _ _ _ _ _ => (de_call (ok_ratio T) (hr.mono (by decide)) (by rfl) T.m_ratio T.fun_ratio.kp T.b_ratio (da_cons (de_var 3 (pv 3)) (da_cons (de_callB (cd_sum rfl) (by rfl) T.n_sum (by decide +kernel) (dab_cons (db_var 2 (pv 2)) dab_nil)) da_nil)))))))))

abbrev s_u_views : Stmt := topS 67
theorem sc_u_views : FnScope [Str.ofString "job", Str.ofString "rising", Str.ofString "found", Str.ofString "work", Str.ofString "row"] [Str.ofString "job", Str.ofString "rising"] (defScope s_u_views) := ⟨rfl, rfl, rfl, by decide +kernel, rfl, by decide +kernel, by decide +kernel⟩

theorem ok_u_views (T : Txt K mg) : FnOk P w K mg base CX0 4 T.f_u_views T.d_u_views [Str.ofString "job", Str.ofString "rising"] (spD K 2 F_u_views) := by
  unfold F_u_views
  refine def_ok' s_u_views [Str.ofString "job", Str.ofString "rising", Str.ofString "found", Str.ofString "work", Str.ofString "row"] [Str.ofString "job", Str.ofString "rising"] 3 5 2 g_u_views T.fun_u_views sc_u_views rfl rfl fun cdv A outer s H E hr => ?_
  have hu := hr.units
  have h5 := hr.units5
  exact (dss_cons (ds_setLcE 2 [(Str.ofString "work", 3)] rfl sc_u_views.nd rfl rfl (sw_true rfl rfl rfl (by decide +kernel)) (di_range1 (by rfl) T.n_range (de_lenO T.cl_Job T.me_JobD_lenD (ok_JobD_lenD T) (hr.mono (by decide)) T.b_JobD_lenD (by rfl) T.n_len PySem.boot_len (dab_cons (db_var 0 (pv 0)) dab_nil))) (blkOk_by (by kernel_rfl)) (fun _ _ _ _ _ => (dg_name 3 sc_u_views.nd)) (fun _ _ _ _ _ => dts_nil) (fun _ _ _ _ _ => (de_call (ok_work_chances T) (hr.mono (by decide)) (by rfl) T.m_work_chances T.fun_work_chances.kp T.b_work_chances (da_cons (de_var 0 (pv 0)) (da_cons (de_var 3 (pv 3)) da_nil)))))
      (dss_one (ds_ret (de_if (dt_tru (db_var 1 (pv 1))) (de_of (df_lc [(Str.ofString "row", 4)] rfl sc_u_views.nd (di_A (de_var 2 (pv 2))) (blkOk_by (by kernel_rfl)) (fun _ _ _ _ _ => (dg_name 4 sc_u_views.nd)) (fun _ _ _ _ _ => dts_nil) (fun _ _ _ _ _ => (de_of (df_rev (de_call (ok_u_sums T) (hr.mono (by decide)) (by rfl) T.m_u_sums T.fun_u_sums.kp T.b_u_sums (da_cons (de_of (df_rev (de_var 4 (pv 4)))) da_nil))))))) (de_var 2 (pv 2))))))

abbrev s_is_integer : Stmt := topS 4
theorem sc_is_integer : FnScope [Str.ofString "thing"] [Str.ofString "thing"] (defScope s_is_integer) := ⟨rfl, rfl, rfl, by decide +kernel, rfl, by decide +kernel, by decide +kernel⟩

theorem ok_is_integer (T : Txt K mg) : FnOk P w K mg base CX0 1 T.f_is_integer T.d_is_integer [Str.ofString "thing"] (spD K 1 F_is_integer) := by
  unfold F_is_integer
  refine def_ok' s_is_integer [Str.ofString "thing"] [Str.ofString "thing"] 0 1 1 g_is_integer T.fun_is_integer sc_is_integer rfl rfl fun cdv A outer s H E hr => ?_
  have hu := hr.units
  have h5 := hr.units5
  exact (dss_one (ds_ret (de_and (de_isi (by rfl) T.n_isinstance (by decide +kernel) (db_var 0 (pv 0)) (pe_bltn (by rfl) T.n_int (by decide +kernel) rfl)) (de_and1 (de_not (de_isi (by rfl) T.n_isinstance (by decide +kernel) (db_var 0 (pv 0)) (pe_bltn (by rfl) T.n_bool (by decide +kernel) rfl)))))))

abbrev s_is_integer_within : Stmt := topS 5
theorem sc_is_integer_within : FnScope [Str.ofString "thing", Str.ofString "least", Str.ofString "most"] [Str.ofString "thing", Str.ofString "least", Str.ofString "most"] (defScope s_is_integer_within) := ⟨rfl, rfl, rfl, by decide +kernel, rfl, by decide +kernel, by decide +kernel⟩

theorem ok_is_integer_within (T : Txt K mg) : FnOk P w K mg base CX0 2 T.f_is_integer_within T.d_is_integer_within [Str.ofString "thing", Str.ofString "least", Str.ofString "most"] (spD K 3 F_is_integer_within) := by
  unfold F_is_integer_within
  refine def_ok' s_is_integer_within [Str.ofString "thing", Str.ofString "least", Str.ofString "most"] [Str.ofString "thing", Str.ofString "least", Str.ofString "most"] 1 3 3 g_is_integer_within T.fun_is_integer_within sc_is_integer_within rfl rfl fun cdv A outer s H E hr => ?_
  have hu := hr.units
  have h5 := hr.units5
  exact (dss_one (ds_ret (de_and (de_call (ok_is_integer T) (hr.mono (by decide)) (by rfl) T.m_is_integer T.fun_is_integer.kp T.b_is_integer (da_cons (de_var 0 (pv 0)) da_nil)) (de_and1 (de_chain od_le od_le (db_var 1 (pv 1)) (db_var 0 (pv 0)) (db_var 2 (pv 2)))))))

abbrev s_u_are_parts : Stmt := topS 50
theorem sc_u_are_parts : FnScope [Str.ofString "parts", Str.ofString "outcomes", Str.ofString "part"] [Str.ofString "parts", Str.ofString "outcomes"] (defScope s_u_are_parts) := ⟨rfl, rfl, rfl, by decide +kernel, rfl, by decide +kernel, by decide +kernel⟩

theorem ok_u_are_parts (T : Txt K mg) : FnOk P w K mg base CX0 3 T.f_u_are_parts T.d_u_are_parts [Str.ofString "parts", Str.ofString "outcomes"] (spD K 2 F_u_are_parts) := by
  unfold F_u_are_parts
  refine def_ok' s_u_are_parts [Str.ofString "parts", Str.ofString "outcomes", Str.ofString "part"] [Str.ofString "parts", Str.ofString "outcomes"] 2 3 2 g_u_are_parts T.fun_u_are_parts sc_u_are_parts rfl rfl fun cdv A outer s H E hr => ?_
  have hu := hr.units
  have h5 := hr.units5
  exact (dss_cons (ds_if (dt_w (dw_or (dt_not (dt_val (de_isi (by rfl) T.n_isinstance (by decide +kernel) (db_var 0 (pv 0)) (pe_bltn (by rfl) T.n_tuple (by decide +kernel) rfl)))) (dw_or1 (dt_cmp (od_neA h5) (db_of (de_callB cd_lenA (by rfl) T.n_len (by decide +kernel) (dab_cons (db_var 0 (pv 0)) dab_nil))) (db_var 1 (pv 1)) (nomark _))))) (dss_one (ds_ret de_bl)) dss_nil)
      (dss_one (ds_ret (de_and (de_callB (cd_all rfl) (by rfl) T.n_all (by decide +kernel) (dab_cons (db_of (de_of (df_lc [(Str.ofString "part", 2)] rfl sc_u_are_parts.nd (di_A (de_var 0 (pv 0))) (blkOk_by (by kernel_rfl)) (fun _ _ _ _ _ => (dg_name 2 sc_u_are_parts.nd)) (fun _ _ _ _ _ => dts_nil) (fun _ _ _ _ _ => (de_call (ok_is_integer_within T) (hr.mono (by decide)) (by rfl) T.m_is_integer_within T.fun_is_integer_within.kp T.b_is_integer_within (da_cons (de_var 2 (pv 2)) (da_cons de_int (da_cons (de_glob (pe_glob (v := L2.V.int 6) rfl T.m_MOST_PART ⟨_, rfl⟩) (fun _ => .int _)) da_nil)))))))) dab_nil)) (de_and1 (de_cmp od_gt (db_of (de_callB (cd_sum rfl) (by rfl) T.n_sum (by decide +kernel) (dab_cons (db_var 0 (pv 0)) dab_nil))) (db_of de_int) (nomark _)))))))

abbrev s_is_work : Stmt := topS 49
theorem sc_is_work : FnScope [Str.ofString "work", Str.ofString "outcomes", Str.ofString "effort", Str.ofString "parts"] [Str.ofString "work", Str.ofString "outcomes"] (defScope s_is_work) := ⟨rfl, rfl, rfl, by decide +kernel, rfl, by decide +kernel, by decide +kernel⟩

theorem ok_is_work (T : Txt K mg) : FnOk P w K mg base CX0 4 T.f_is_work T.d_is_work [Str.ofString "work", Str.ofString "outcomes"] (spD K 2 F_is_work) := by
  unfold F_is_work
  refine def_ok' s_is_work [Str.ofString "work", Str.ofString "outcomes", Str.ofString "effort", Str.ofString "parts"] [Str.ofString "work", Str.ofString "outcomes"] 3 4 2 g_is_work T.fun_is_work sc_is_work rfl rfl fun cdv A outer s H E hr => ?_
  have hu := hr.units
  have h5 := hr.units5
  exact (dss_cons (ds_if (dt_w (dw_or (dt_not (dt_val (de_isi (by rfl) T.n_isinstance (by decide +kernel) (db_var 0 (pv 0)) (pe_bltn (by rfl) T.n_tuple (by decide +kernel) rfl)))) (dw_or1 (dt_cmp (od_neA h5) (db_of (de_callB cd_lenA (by rfl) T.n_len (by decide +kernel) (dab_cons (db_var 0 (pv 0)) dab_nil))) (db_of de_int) (nomark _))))) (dss_one (ds_ret de_bl)) dss_nil)
      (dss_cons (ds_asg (de_var 0 (pv 0)) (dg_tup 2 rfl (dgs_cons (dg_name 2 sc_is_work.nd) (dgs_cons (dg_name 3 sc_is_work.nd) dgs_nil)) (bCons_len (bCons_len bNil_len))))
      (dss_one (ds_ret (de_and (de_call (ok_is_integer_within T) (hr.mono (by decide)) (by rfl) T.m_is_integer_within T.fun_is_integer_within.kp T.b_is_integer_within (da_cons (de_var 2 (pv 2)) (da_cons de_int (da_cons (de_glob (pe_glob (v := L2.V.int 9) rfl T.m_MOST_EFFORT ⟨_, rfl⟩) (fun _ => .int _)) da_nil)))) (de_and1 (de_call (ok_u_are_parts T) (hr.mono (by decide)) (by rfl) T.m_u_are_parts T.fun_u_are_parts.kp T.b_u_are_parts (da_cons (de_var 3 (pv 3)) (da_cons (de_var 1 (pv 1)) da_nil)))))))))

abbrev s_u_are_works : Stmt := topS 48
theorem sc_u_are_works : FnScope [Str.ofString "works", Str.ofString "outcomes", Str.ofString "work"] [Str.ofString "works", Str.ofString "outcomes"] (defScope s_u_are_works) := ⟨rfl, rfl, rfl, by decide +kernel, rfl, by decide +kernel, by decide +kernel⟩

theorem ok_u_are_works (T : Txt K mg) : FnOk P w K mg base CX0 5 T.f_u_are_works T.d_u_are_works [Str.ofString "works", Str.ofString "outcomes"] (spD K 2 F_u_are_works) := by
  unfold F_u_are_works
  refine def_ok' s_u_are_works [Str.ofString "works", Str.ofString "outcomes", Str.ofString "work"] [Str.ofString "works", Str.ofString "outcomes"] 4 3 2 g_u_are_works T.fun_u_are_works sc_u_are_works rfl rfl fun cdv A outer s H E hr => ?_
  have hu := hr.units
  have h5 := hr.units5
  exact (dss_cons (ds_if (dt_w (dw_or (dt_not (dt_val (de_isi (by rfl) T.n_isinstance (by decide +kernel) (db_var 0 (pv 0)) (pe_bltn (by rfl) T.n_tuple (by decide +kernel) rfl)))) (dw_or1 (dt_not (dt_chain od_le od_le (db_of (de_glob (pe_glob (v := L2.V.int 2) rfl T.m_FEWEST ⟨_, rfl⟩) (fun _ => .int _))) (db_of (de_callB cd_lenA (by rfl) T.n_len (by decide +kernel) (dab_cons (db_var 0 (pv 0)) dab_nil))) (db_of (de_glob (pe_glob (v := L2.V.int 4) rfl T.m_MOST ⟨_, rfl⟩) (fun _ => .int _)))))))) (dss_one (ds_ret de_bl)) dss_nil)
      (dss_one (ds_ret (de_callB (cd_all rfl) (by rfl) T.n_all (by decide +kernel) (dab_cons (db_of (de_of (df_lc [(Str.ofString "work", 2)] rfl sc_u_are_works.nd (di_A (de_var 0 (pv 0))) (blkOk_by (by kernel_rfl)) (fun _ _ _ _ _ => (dg_name 2 sc_u_are_works.nd)) (fun _ _ _ _ _ => dts_nil) (fun _ _ _ _ _ => (de_call (ok_is_work T) (hr.mono (by decide)) (by rfl) T.m_is_work T.fun_is_work.kp T.b_is_work (da_cons (de_var 2 (pv 2)) (da_cons (de_var 1 (pv 1)) da_nil))))))) dab_nil)))))

abbrev s_are_worths : Stmt := topS 47
theorem sc_are_worths : FnScope [Str.ofString "worths", Str.ofString "worth"] [Str.ofString "worths"] (defScope s_are_worths) := ⟨rfl, rfl, rfl, by decide +kernel, rfl, by decide +kernel, by decide +kernel⟩

theorem ok_are_worths (T : Txt K mg) : FnOk P w K mg base CX0 3 T.f_are_worths T.d_are_worths [Str.ofString "worths"] (spD K 1 F_are_worths) := by
  unfold F_are_worths
  refine def_ok' s_are_worths [Str.ofString "worths", Str.ofString "worth"] [Str.ofString "worths"] 2 2 1 g_are_worths T.fun_are_worths sc_are_worths rfl rfl fun cdv A outer s H E hr => ?_
  have hu := hr.units
  have h5 := hr.units5
  exact (dss_cons (ds_if (dt_w (dw_or (dt_not (dt_val (de_isi (by rfl) T.n_isinstance (by decide +kernel) (db_var 0 (pv 0)) (pe_bltn (by rfl) T.n_tuple (by decide +kernel) rfl)))) (dw_or1 (dt_not (dt_chain od_le od_le (db_of (de_glob (pe_glob (v := L2.V.int 2) rfl T.m_FEWEST ⟨_, rfl⟩) (fun _ => .int _))) (db_of (de_callB cd_lenA (by rfl) T.n_len (by decide +kernel) (dab_cons (db_var 0 (pv 0)) dab_nil))) (db_of (de_glob (pe_glob (v := L2.V.int 4) rfl T.m_MOST ⟨_, rfl⟩) (fun _ => .int _)))))))) (dss_one (ds_ret de_bl)) dss_nil)
      (dss_one (ds_ret (de_callB (cd_all rfl) (by rfl) T.n_all (by decide +kernel) (dab_cons (db_of (de_of (df_lc [(Str.ofString "worth", 1)] rfl sc_are_worths.nd (di_A (de_var 0 (pv 0))) (blkOk_by (by kernel_rfl)) (fun _ _ _ _ _ => (dg_name 1 sc_are_worths.nd)) (fun _ _ _ _ _ => dts_nil) (fun _ _ _ _ _ => (de_call (ok_is_integer_within T) (hr.mono (by decide)) (by rfl) T.m_is_integer_within T.fun_is_integer_within.kp T.b_is_integer_within (da_cons (de_var 1 (pv 1)) (da_cons de_int (da_cons (de_glob (pe_glob (v := L2.V.int 20) rfl T.m_MOST_WORTH ⟨_, rfl⟩) (fun _ => .int _)) da_nil)))))))) dab_nil)))))

abbrev s_JobD_initD : Stmt := inClass (topS 46) 0
theorem sc_JobD_initD : FnScope [Str.ofString "self", Str.ofString "worths", Str.ofString "works", Str.ofString "effort", Str.ofString "parts"] [Str.ofString "self", Str.ofString "worths", Str.ofString "works"] (defScope s_JobD_initD) := ⟨rfl, rfl, rfl, by decide +kernel, rfl, by decide +kernel, by decide +kernel⟩

theorem ok_JobD_initD (T : Txt K mg) : FnOk P w K mg base CX0 6 T.f_JobD_initD T.d_JobD_initD [Str.ofString "self", Str.ofString "worths", Str.ofString "works"] (spI K 0 2 F_JobD_initD) := by
  unfold F_JobD_initD
  refine init_ok s_JobD_initD [Str.ofString "self", Str.ofString "worths", Str.ofString "works", Str.ofString "effort", Str.ofString "parts"] [Str.ofString "self", Str.ofString "worths", Str.ofString "works"] 5 4 2 g_JobD_initD T.fun_JobD_initD sc_JobD_initD rfl rfl fun cdv A outer s H E hr => ?_
  have hu := hr.units
  have h5 := hr.units5
  exact (din_if (dt_not (dt_val (de_call (ok_are_worths T) (hr.mono (by decide)) (by rfl) T.m_are_worths T.fun_are_worths.kp T.b_are_worths (da_cons (de_var 1 (pv 1)) da_nil))))
      (din_if (dt_not (dt_val (de_call (ok_u_are_works T) (hr.mono (by decide)) (by rfl) T.m_u_are_works T.fun_u_are_works.kp T.b_u_are_works (da_cons (de_var 2 (pv 2)) (da_cons (de_callB cd_lenA (by rfl) T.n_len (by decide +kernel) (dab_cons (db_var 1 (pv 1)) dab_nil)) da_nil)))))
      (din_fld T.cl_Job T.na_Job_worths (pv 0) (de_callTy cd_tuple (by rfl) T.n_tuple (by decide +kernel) (dab_cons (db_var 1 (pv 1)) dab_nil))
      (din_fld T.cl_Job T.na_Job_works (pv 0) (de_callTy cd_tuple (by rfl) T.n_tuple (by decide +kernel) (dab_cons (db_of (de_of (df_lc [(Str.ofString "effort", 3), (Str.ofString "parts", 4)] rfl sc_JobD_initD.nd (di_A (de_var 2 (pv 2))) (blkOk_by (by kernel_rfl)) (fun _ _ _ _ _ => (dg_tup 2 rfl (dgs_cons (dg_name 3 sc_JobD_initD.nd) (dgs_cons (dg_name 4 sc_JobD_initD.nd) dgs_nil)) (bCons_len (bCons_len bNil_len)))) (fun _ _ _ _ _ => dts_nil) (fun _ _ _ _ _ => (de_tup (da_cons (de_var 3 (pv 3)) (da_cons (de_callTy cd_tuple (by rfl) T.n_tuple (by decide +kernel) (dab_cons (db_var 4 (pv 4)) dab_nil)) da_nil))))))) dab_nil))
      din_nil))))

abbrev s_check_job : Stmt := topS 51
theorem sc_check_job : FnScope [Str.ofString "job"] [Str.ofString "job"] (defScope s_check_job) := ⟨rfl, rfl, rfl, by decide +kernel, rfl, by decide +kernel, by decide +kernel⟩

theorem ok_check_job (T : Txt K mg) : FnOk P w K mg base CX0 1 T.f_check_job T.d_check_job [Str.ofString "job"] (spD K 1 F_check_job) := by
  unfold F_check_job
  refine def_ok' s_check_job [Str.ofString "job"] [Str.ofString "job"] 0 1 1 g_check_job T.fun_check_job sc_check_job rfl rfl fun cdv A outer s H E hr => ?_
  have hu := hr.units
  have h5 := hr.units5
  exact (dss_one (ds_if (dt_not (dt_val (de_isC T.isa_Job (by rfl) T.n_isinstance (by decide +kernel) (de_var 0 (pv 0)) (pe_glob (by rfl) T.mc_Job rfl)))) (dss_one ds_stuck) dss_nil))

abbrev s_check_work : Stmt := topS 52
theorem sc_check_work : FnScope [Str.ofString "job", Str.ofString "work"] [Str.ofString "job", Str.ofString "work"] (defScope s_check_work) := ⟨rfl, rfl, rfl, by decide +kernel, rfl, by decide +kernel, by decide +kernel⟩

theorem ok_check_work (T : Txt K mg) : FnOk P w K mg base CX0 3 T.f_check_work T.d_check_work [Str.ofString "job", Str.ofString "work"] (spD K 2 F_check_work) := by
  unfold F_check_work
  refine def_ok' s_check_work [Str.ofString "job", Str.ofString "work"] [Str.ofString "job", Str.ofString "work"] 2 2 2 g_check_work T.fun_check_work sc_check_work rfl rfl fun cdv A outer s H E hr => ?_
  have hu := hr.units
  have h5 := hr.units5
  exact (dss_one (ds_if (dt_not (dt_val (de_call (ok_is_integer_within T) (hr.mono (by decide)) (by rfl) T.m_is_integer_within T.fun_is_integer_within.kp T.b_is_integer_within (da_cons (de_var 1 (pv 1)) (da_cons de_int (da_cons (de_op od_sub (db_of (de_lenO T.cl_Job T.me_JobD_lenD (ok_JobD_lenD T) (hr.mono (by decide)) T.b_JobD_lenD (by rfl) T.n_len PySem.boot_len (dab_cons (db_var 0 (pv 0)) dab_nil))) (db_of de_int)) da_nil)))))) (dss_one ds_stuck) dss_nil))

abbrev s_u_is_other : Stmt := topS 31
theorem sc_u_is_other : FnScope [Str.ofString "views", Str.ofString "work", Str.ofString "other"] [Str.ofString "views", Str.ofString "work", Str.ofString "other"] (defScope s_u_is_other) := ⟨rfl, rfl, rfl, by decide +kernel, rfl, by decide +kernel, by decide +kernel⟩

theorem ok_u_is_other (T : Txt K mg) : FnOk P w K mg base CX0 3 T.f_u_is_other T.d_u_is_other [Str.ofString "views", Str.ofString "work", Str.ofString "other"] (spD K 3 F_u_is_other) := by
  unfold F_u_is_other
  refine def_ok' s_u_is_other [Str.ofString "views", Str.ofString "work", Str.ofString "other"] [Str.ofString "views", Str.ofString "work", Str.ofString "other"] 2 3 3 g_u_is_other T.fun_u_is_other sc_u_is_other rfl rfl fun cdv A outer s H E hr => ?_
  have hu := hr.units
  have h5 := hr.units5
  exact (dss_one (ds_ret (de_and (de_call (ok_is_integer_within T) (hr.mono (by decide)) (by rfl) T.m_is_integer_within T.fun_is_integer_within.kp T.b_is_integer_within (da_cons (de_var 2 (pv 2)) (da_cons de_int (da_cons (de_op od_sub (db_of (de_callB cd_lenA (by rfl) T.n_len (by decide +kernel) (dab_cons (db_var 0 (pv 0)) dab_nil))) (db_of de_int)) da_nil)))) (de_and1 (de_cmp (od_neA h5) (db_var 2 (pv 2)) (db_var 1 (pv 1)) (nomark _))))))

abbrev s_is_fraction : Stmt := topS 6
theorem sc_is_fraction : FnScope [Str.ofString "thing", Str.ofString "top", Str.ofString "bottom"] [Str.ofString "thing"] (defScope s_is_fraction) := ⟨rfl, rfl, rfl, by decide +kernel, rfl, by decide +kernel, by decide +kernel⟩

theorem ok_is_fraction (T : Txt K mg) : FnOk P w K mg base CX0 2 T.f_is_fraction T.d_is_fraction [Str.ofString "thing"] (spD K 1 F_is_fraction) := by
  unfold F_is_fraction
  refine def_ok' s_is_fraction [Str.ofString "thing", Str.ofString "top", Str.ofString "bottom"] [Str.ofString "thing"] 1 3 1 g_is_fraction T.fun_is_fraction sc_is_fraction rfl rfl fun cdv A outer s H E hr => ?_
  have hu := hr.units
  have h5 := hr.units5
  exact (dss_cons (ds_if (dt_w (dw_or (dt_not (dt_val (de_isi (by rfl) T.n_isinstance (by decide +kernel) (db_var 0 (pv 0)) (pe_bltn (by rfl) T.n_tuple (by decide +kernel) rfl)))) (dw_or1 (dt_cmp (od_neA h5) (db_of (de_callB cd_lenA (by rfl) T.n_len (by decide +kernel) (dab_cons (db_var 0 (pv 0)) dab_nil))) (db_of de_int) (nomark _))))) (dss_one (ds_ret de_bl)) dss_nil)
      (dss_cons (ds_asg (de_var 0 (pv 0)) (dg_tup 2 rfl (dgs_cons (dg_name 1 sc_is_fraction.nd) (dgs_cons (dg_name 2 sc_is_fraction.nd) dgs_nil)) (bCons_len (bCons_len bNil_len))))
      (dss_cons (ds_if (dt_w (dw_or (dt_not (dt_val (de_call (ok_is_integer T) (hr.mono (by decide)) (by rfl) T.m_is_integer T.fun_is_integer.kp T.b_is_integer (da_cons (de_var 1 (pv 1)) da_nil)))) (dw_or1 (dt_not (dt_val (de_call (ok_is_integer T) (hr.mono (by decide)) (by rfl) T.m_is_integer T.fun_is_integer.kp T.b_is_integer (da_cons (de_var 2 (pv 2)) da_nil))))))) (dss_one (ds_ret de_bl)) dss_nil)
      (dss_one (ds_ret (de_and (de_cmp od_ge (db_var 2 (pv 2)) (db_of de_int) (nomark _)) (de_and1 (de_cmp (od_eqA h5) (db_of (de_callFun cd_gcd (by rfl) T.m_gcd (dab_cons (db_var 1 (pv 1)) (dab_cons (db_var 2 (pv 2)) dab_nil)) fun c h => pe_callBfun c (by rfl) T.m_gcd h)) (db_of de_int) (nomark _)))))))))

abbrev s_is_amount : Stmt := topS 7
theorem sc_is_amount : FnScope [Str.ofString "thing"] [Str.ofString "thing"] (defScope s_is_amount) := ⟨rfl, rfl, rfl, by decide +kernel, rfl, by decide +kernel, by decide +kernel⟩

theorem ok_is_amount (T : Txt K mg) : FnOk P w K mg base CX0 3 T.f_is_amount T.d_is_amount [Str.ofString "thing"] (spD K 1 F_is_amount) := by
  unfold F_is_amount
  refine def_ok' s_is_amount [Str.ofString "thing"] [Str.ofString "thing"] 2 1 1 g_is_amount T.fun_is_amount sc_is_amount rfl rfl fun cdv A outer s H E hr => ?_
  have hu := hr.units
  have h5 := hr.units5
  exact (dss_one (ds_ret (de_and (de_call (ok_is_fraction T) (hr.mono (by decide)) (by rfl) T.m_is_fraction T.fun_is_fraction.kp T.b_is_fraction (da_cons (de_var 0 (pv 0)) da_nil)) (de_and1 (de_cmp od_ge (db_of (de_ixA hu (db_var 0 (pv 0)) (db_of de_int))) (db_of de_int) (nomark _))))))

abbrev s_is_less : Stmt := topS 15
theorem sc_is_less : FnScope [Str.ofString "one", Str.ofString "other"] [Str.ofString "one", Str.ofString "other"] (defScope s_is_less) := ⟨rfl, rfl, rfl, by decide +kernel, rfl, by decide +kernel, by decide +kernel⟩

theorem ok_is_less (T : Txt K mg) : FnOk P w K mg base CX0 1 T.f_is_less T.d_is_less [Str.ofString "one", Str.ofString "other"] (spD K 2 F_is_less) := by
  unfold F_is_less
  refine def_ok' s_is_less [Str.ofString "one", Str.ofString "other"] [Str.ofString "one", Str.ofString "other"] 0 2 2 g_is_less T.fun_is_less sc_is_less rfl rfl fun cdv A outer s H E hr => ?_
  have hu := hr.units
  have h5 := hr.units5
  exact (dss_one (ds_ret (de_cmp od_lt (db_of (de_op od_mulA (db_of (de_ixA hu (db_var 0 (pv 0)) (db_of de_int))) (db_of (de_ixA hu (db_var 1 (pv 1)) (db_of de_int))))) (db_of (de_op od_mulA (db_of (de_ixA hu (db_var 1 (pv 1)) (db_of de_int))) (db_of (de_ixA hu (db_var 0 (pv 0)) (db_of de_int))))) (nomark _))))

abbrev s_total : Stmt := topS 16
theorem sc_total : FnScope [Str.ofString "amounts", Str.ofString "found", Str.ofString "amount"] [Str.ofString "amounts"] (defScope s_total) := ⟨rfl, rfl, rfl, by decide +kernel, rfl, by decide +kernel, by decide +kernel⟩

theorem ok_total (T : Txt K mg) : FnOk P w K mg base CX0 3 T.f_total T.d_total [Str.ofString "amounts"] (spD K 1 F_total) := by
  unfold F_total
  refine def_ok' s_total [Str.ofString "amounts", Str.ofString "found", Str.ofString "amount"] [Str.ofString "amounts"] 2 3 1 g_total T.fun_total sc_total rfl rfl fun cdv A outer s H E hr => ?_
  have hu := hr.units
  have h5 := hr.units5
  exact (dss_cons (ds_set 1 sc_total.nd (de_glob (pe_glob (v := L2.V.ref T.a_ZERO) rfl T.m_ZERO rfl) (fun _ => T.r_ZERO _)))
      (dss_cons (ds_for PassesOwn.never rfl (di_A (de_var 0 (pv 0))) (dg_name 2 sc_total.nd)
      (dss_one (ds_set 1 sc_total.nd (de_call (ok_plus T) (hr.mono (by decide)) (by rfl) T.m_plus T.fun_plus.kp T.b_plus (da_cons (de_var 1 (pv 1)) (da_cons (de_var 2 (pv 2)) da_nil))))))
      (dss_one (ds_ret (de_var 1 (pv 1))))))

abbrev s_times : Stmt := topS 12
theorem sc_times : FnScope [Str.ofString "one", Str.ofString "other"] [Str.ofString "one", Str.ofString "other"] (defScope s_times) := ⟨rfl, rfl, rfl, by decide +kernel, rfl, by decide +kernel, by decide +kernel⟩

theorem ok_times (T : Txt K mg) : FnOk P w K mg base CX0 2 T.f_times T.d_times [Str.ofString "one", Str.ofString "other"] (spD K 2 F_times) := by
  unfold F_times
  refine def_ok' s_times [Str.ofString "one", Str.ofString "other"] [Str.ofString "one", Str.ofString "other"] 1 2 2 g_times T.fun_times sc_times rfl rfl fun cdv A outer s H E hr => ?_
  have hu := hr.units
  have h5 := hr.units5
  exact (dss_one (ds_ret (de_call (ok_ratio T) (hr.mono (by decide)) (by rfl) T.m_ratio T.fun_ratio.kp T.b_ratio (da_cons (de_op od_mulA (db_of (de_ixA hu (db_var 0 (pv 0)) (db_of de_int))) (db_of (de_ixA hu (db_var 1 (pv 1)) (db_of de_int)))) (da_cons (de_op od_mulA (db_of (de_ixA hu (db_var 0 (pv 0)) (db_of de_int))) (db_of (de_ixA hu (db_var 1 (pv 1)) (db_of de_int)))) da_nil)))))

abbrev s_weighted : Stmt := topS 17
theorem sc_weighted : FnScope [Str.ofString "weights", Str.ofString "amounts", Str.ofString "weight", Str.ofString "amount"] [Str.ofString "weights", Str.ofString "amounts"] (defScope s_weighted) := ⟨rfl, rfl, rfl, by decide +kernel, rfl, by decide +kernel, by decide +kernel⟩

theorem ok_weighted (T : Txt K mg) : FnOk P w K mg base CX0 4 T.f_weighted T.d_weighted [Str.ofString "weights", Str.ofString "amounts"] (spD K 2 F_weighted) := by
  unfold F_weighted
  refine def_ok' s_weighted [Str.ofString "weights", Str.ofString "amounts", Str.ofString "weight", Str.ofString "amount"] [Str.ofString "weights", Str.ofString "amounts"] 3 4 2 g_weighted T.fun_weighted sc_weighted rfl rfl fun cdv A outer s H E hr => ?_
  have hu := hr.units
  have h5 := hr.units5
  exact (dss_one (ds_ret (de_call (ok_total T) (hr.mono (by decide)) (by rfl) T.m_total T.fun_total.kp T.b_total (da_cons (de_of (df_lc [(Str.ofString "weight", 2), (Str.ofString "amount", 3)] rfl sc_weighted.nd (di_zipX (by rfl) T.n_zip (de_var 0 (pv 0)) (de_var 1 (pv 1))) (blkOk_by (by kernel_rfl)) (fun _ _ _ _ _ => (dg_tup 2 rfl (dgs_cons (dg_name 2 sc_weighted.nd) (dgs_cons (dg_name 3 sc_weighted.nd) dgs_nil)) (bCons_len (bCons_len bNil_len)))) (fun _ _ _ _ _ => dts_nil) (fun _ _ _ _ _ => (de_call (ok_times T) (hr.mono (by decide)) (by rfl) T.m_times T.fun_times.kp T.b_times (da_cons (de_var 2 (pv 2)) (da_cons (de_var 3 (pv 3)) da_nil)))))) da_nil))))

abbrev s_mix_shows : Stmt := topS 30
theorem sc_mix_shows : FnScope [Str.ofString "views", Str.ofString "efforts", Str.ofString "work", Str.ofString "mix", Str.ofString "others", Str.ofString "factors", Str.ofString "case", Str.ofString "chance", Str.ofString "other", Str.ofString "factor"] [Str.ofString "views", Str.ofString "efforts", Str.ofString "work", Str.ofString "mix"] (defScope s_mix_shows) := ⟨rfl, rfl, rfl, by decide +kernel, rfl, by decide +kernel, by decide +kernel⟩

theorem ok_mix_shows (T : Txt K mg) : FnOk P w K mg base CX0 5 T.f_mix_shows T.d_mix_shows [Str.ofString "views", Str.ofString "efforts", Str.ofString "work", Str.ofString "mix"] (spD K 4 F_mix_shows) := by
  unfold F_mix_shows
  refine def_ok' s_mix_shows [Str.ofString "views", Str.ofString "efforts", Str.ofString "work", Str.ofString "mix", Str.ofString "others", Str.ofString "factors", Str.ofString "case", Str.ofString "chance", Str.ofString "other", Str.ofString "factor"] [Str.ofString "views", Str.ofString "efforts", Str.ofString "work", Str.ofString "mix"] 4 10 4 g_mix_shows T.fun_mix_shows sc_mix_shows rfl rfl fun cdv A outer s H E hr => ?_
  have hu := hr.units
  have h5 := hr.units5
  exact (dss_cons (ds_set 4 sc_mix_shows.nd (de_of (df_callTy (cf_listA rfl) (by rfl) T.n_list boot_list (dab_cons (db_var 3 (pv 3)) dab_nil))))
      (dss_cons (ds_if (dt_not (dt_val (de_callB (cd_all rfl) (by rfl) T.n_all (by decide +kernel) (dab_cons (db_of (de_of (df_lc [(Str.ofString "other", 8)] rfl sc_mix_shows.nd (di_A (de_var 4 (pv 4))) (blkOk_by (by kernel_rfl)) (fun _ _ _ _ _ => (dg_name 8 sc_mix_shows.nd)) (fun _ _ _ _ _ => dts_nil) (fun _ _ _ _ _ => (de_call (ok_u_is_other T) (hr.mono (by decide)) (by rfl) T.m_u_is_other T.fun_u_is_other.kp T.b_u_is_other (da_cons (de_var 0 (pv 0)) (da_cons (de_var 2 (pv 2)) (da_cons (de_var 8 (pv 8)) da_nil)))))))) dab_nil)))) (dss_one (ds_ret de_bl)) dss_nil)
      (dss_cons (ds_setLcE 5 [(Str.ofString "other", 8)] rfl sc_mix_shows.nd rfl rfl (sw_true rfl rfl rfl (by decide +kernel)) (di_A (de_var 4 (pv 4))) (blkOk_by (by kernel_rfl)) (fun _ _ _ _ _ => (dg_name 8 sc_mix_shows.nd)) (fun _ _ _ _ _ => dts_nil) (fun _ _ _ _ _ => (de_ixA hu (db_var 3 (pv 3)) (db_var 8 (pv 8)))))
      (dss_cons (ds_if (dt_w (dw_or (dt_not (dt_val (de_callB (cd_all rfl) (by rfl) T.n_all (by decide +kernel) (dab_cons (db_of (de_of (df_lc [(Str.ofString "factor", 9)] rfl sc_mix_shows.nd (di_A (de_var 5 (pv 5))) (blkOk_by (by kernel_rfl)) (fun _ _ _ _ _ => (dg_name 9 sc_mix_shows.nd)) (fun _ _ _ _ _ => dts_nil) (fun _ _ _ _ _ => (de_call (ok_is_amount T) (hr.mono (by decide)) (by rfl) T.m_is_amount T.fun_is_amount.kp T.b_is_amount (da_cons (de_var 9 (pv 9)) da_nil)))))) dab_nil)))) (dw_or1 (dt_cmp (od_neA h5) (db_of (de_call (ok_total T) (hr.mono (by decide)) (by rfl) T.m_total T.fun_total.kp T.b_total (da_cons (de_var 5 (pv 5)) da_nil))) (db_of (de_glob (pe_glob (v := L2.V.ref T.a_ONE) rfl T.m_ONE rfl) (fun _ => T.r_ONE _))) (nomark _))))) (dss_one (ds_ret de_bl)) dss_nil)
      (dss_cons (ds_for PassesOwn.never rfl (di_enumA (by rfl) T.n_enumerate (de_ixA hu (db_var 0 (pv 0)) (db_var 2 (pv 2)))) (dg_tup 2 rfl (dgs_cons (dg_name 6 sc_mix_shows.nd) (dgs_cons (dg_name 7 sc_mix_shows.nd) dgs_nil)) (bCons_len (bCons_len bNil_len)))
      (dss_one (ds_if (dt_val (de_call (ok_is_less T) (hr.mono (by decide)) (by rfl) T.m_is_less T.fun_is_less.kp T.b_is_less (da_cons (de_call (ok_weighted T) (hr.mono (by decide)) (by rfl) T.m_weighted T.fun_weighted.kp T.b_weighted (da_cons (de_var 5 (pv 5)) (da_cons (de_of (df_lc [(Str.ofString "other", 8)] rfl sc_mix_shows.nd (di_A (de_var 4 (pv 4))) (blkOk_by (by kernel_rfl)) (fun _ _ _ _ _ => (dg_name 8 sc_mix_shows.nd)) (fun _ _ _ _ _ => dts_nil) (fun _ _ _ _ _ => (de_ixA hu (db_of (de_ixA hu (db_var 0 (pv 0)) (db_var 8 (pv 8)))) (db_var 6 (pv 6)))))) da_nil))) (da_cons (de_var 7 (pv 7)) da_nil)))) (dss_one (ds_ret de_bl)) dss_nil)))
      (dss_one (ds_ret (de_call (ok_is_less T) (hr.mono (by decide)) (by rfl) T.m_is_less T.fun_is_less.kp T.b_is_less (da_cons (de_call (ok_weighted T) (hr.mono (by decide)) (by rfl) T.m_weighted T.fun_weighted.kp T.b_weighted (da_cons (de_var 5 (pv 5)) (da_cons (de_of (df_lc [(Str.ofString "other", 8)] rfl sc_mix_shows.nd (di_A (de_var 4 (pv 4))) (blkOk_by (by kernel_rfl)) (fun _ _ _ _ _ => (dg_name 8 sc_mix_shows.nd)) (fun _ _ _ _ _ => dts_nil) (fun _ _ _ _ _ => (de_ixA hu (db_var 1 (pv 1)) (db_var 8 (pv 8)))))) da_nil))) (da_cons (de_ixA hu (db_var 1 (pv 1)) (db_var 2 (pv 2))) da_nil))))))))))

abbrev s_work_efforts : Stmt := topS 55
theorem sc_work_efforts : FnScope [Str.ofString "job", Str.ofString "effort", Str.ofString "parts"] [Str.ofString "job"] (defScope s_work_efforts) := ⟨rfl, rfl, rfl, by decide +kernel, rfl, by decide +kernel, by decide +kernel⟩

theorem ok_work_efforts (T : Txt K mg) : FnOk P w K mg base CX0 3 T.f_work_efforts T.d_work_efforts [Str.ofString "job"] (spD K 1 F_work_efforts) := by
  unfold F_work_efforts
  refine def_ok' s_work_efforts [Str.ofString "job", Str.ofString "effort", Str.ofString "parts"] [Str.ofString "job"] 2 3 1 g_work_efforts T.fun_work_efforts sc_work_efforts rfl rfl fun cdv A outer s H E hr => ?_
  have hu := hr.units
  have h5 := hr.units5
  exact (dss_one (ds_ret (de_of (df_lc [(Str.ofString "effort", 1), (Str.ofString "parts", 2)] rfl sc_work_efforts.nd (di_A (de_prop T.cl_Job T.pr_Job_works (ok_Job_works T) (hr.mono (by decide)) T.b_Job_works (de_var 0 (pv 0)))) (blkOk_by (by kernel_rfl)) (fun _ _ _ _ _ => (dg_tup 2 rfl (dgs_cons (dg_name 1 sc_work_efforts.nd) (dgs_cons (dg_name 2 sc_work_efforts.nd) dgs_nil)) (bCons_len (bCons_len bNil_len)))) (fun _ _ _ _ _ => dts_nil) (fun _ _ _ _ _ => (de_tup (da_cons (de_var 1 (pv 1)) (da_cons de_int da_nil))))))))

abbrev s_Barred_shows : Stmt := inClass (topS 64) 3
theorem sc_Barred_shows : FnScope [Str.ofString "self", Str.ofString "job", Str.ofString "work", Str.ofString "rising"] [Str.ofString "self", Str.ofString "job", Str.ofString "work", Str.ofString "rising"] (defScope s_Barred_shows) := ⟨rfl, rfl, rfl, by decide +kernel, rfl, by decide +kernel, by decide +kernel⟩

theorem ok_Barred_shows (T : Txt K mg) : FnOk P w K mg base CX0 6 T.f_Barred_shows T.d_Barred_shows [Str.ofString "self", Str.ofString "job", Str.ofString "work", Str.ofString "rising"] (spD K 4 F_Barred_shows) := by
  unfold F_Barred_shows
  refine defK_ok s_Barred_shows [Str.ofString "self", Str.ofString "job", Str.ofString "work", Str.ofString "rising"] [Str.ofString "self", Str.ofString "job", Str.ofString "work", Str.ofString "rising"] 5 4 4 g_Barred_shows T.fun_Barred_shows sc_Barred_shows rfl rfl fun cdv A outer s H E hr => ?_
  have hu := hr.units
  have h5 := hr.units5
  exact (dss_cons (ds_expr (de_call (ok_check_job T) (hr.mono (by decide)) (by rfl) T.m_check_job T.fun_check_job.kp T.b_check_job (da_cons (de_var 1 (pv 1)) da_nil)))
      (dss_cons (ds_expr (de_call (ok_check_work T) (hr.mono (by decide)) (by rfl) T.m_check_work T.fun_check_work.kp T.b_check_work (da_cons (de_var 1 (pv 1)) (da_cons (de_var 2 (pv 2)) da_nil))))
      (dss_one (ds_ret (de_call (ok_mix_shows T) (hr.mono (by decide)) (by rfl) T.m_mix_shows T.fun_mix_shows.kp T.b_mix_shows (da_cons (de_call (ok_u_views T) (hr.mono (by decide)) (by rfl) T.m_u_views T.fun_u_views.kp T.b_u_views (da_cons (de_var 1 (pv 1)) (da_cons (de_var 3 (pv 3)) da_nil))) (da_cons (de_call (ok_work_efforts T) (hr.mono (by decide)) (by rfl) T.m_work_efforts T.fun_work_efforts.kp T.b_work_efforts (da_cons (de_var 1 (pv 1)) da_nil)) (da_cons (de_var 2 (pv 2)) (da_cons (de_fld T.at_mix (de_var 0 (pv 0))) da_nil)))))))))

abbrev s_u_is_rising : Stmt := topS 69
theorem sc_u_is_rising : FnScope [Str.ofString "pay", Str.ofString "earlier", Str.ofString "later"] [Str.ofString "pay"] (defScope s_u_is_rising) := ⟨rfl, rfl, rfl, by decide +kernel, rfl, by decide +kernel, by decide +kernel⟩

theorem ok_u_is_rising (T : Txt K mg) : FnOk P w K mg base CX0 2 T.f_u_is_rising T.d_u_is_rising [Str.ofString "pay"] (spD K 1 F_u_is_rising) := by
  unfold F_u_is_rising
  refine def_ok' s_u_is_rising [Str.ofString "pay", Str.ofString "earlier", Str.ofString "later"] [Str.ofString "pay"] 1 3 1 g_u_is_rising T.fun_u_is_rising sc_u_is_rising rfl rfl fun cdv A outer s H E hr => ?_
  have hu := hr.units
  have h5 := hr.units5
  exact (dss_one (ds_ret (de_not (de_callB (cd_any rfl) (by rfl) T.n_any (by decide +kernel) (dab_cons (db_of (de_of (df_lc [(Str.ofString "earlier", 1), (Str.ofString "later", 2)] rfl sc_u_is_rising.nd (di_zipX (by rfl) T.n_zip (de_var 0 (pv 0)) (de_slA (db_var 0 (pv 0)) (do_some de_int) do_none)) (blkOk_by (by kernel_rfl)) (fun _ _ _ _ _ => (dg_tup 2 rfl (dgs_cons (dg_name 1 sc_u_is_rising.nd) (dgs_cons (dg_name 2 sc_u_is_rising.nd) dgs_nil)) (bCons_len (bCons_len bNil_len)))) (fun _ _ _ _ _ => dts_nil) (fun _ _ _ _ _ => (de_call (ok_is_less T) (hr.mono (by decide)) (by rfl) T.m_is_less T.fun_is_less.kp T.b_is_less (da_cons (de_var 2 (pv 2)) (da_cons (de_var 1 (pv 1)) da_nil))))))) dab_nil)))))

abbrev s_average_pay : Stmt := topS 57
theorem sc_average_pay : FnScope [Str.ofString "job", Str.ofString "work", Str.ofString "pay"] [Str.ofString "job", Str.ofString "work", Str.ofString "pay"] (defScope s_average_pay) := ⟨rfl, rfl, rfl, by decide +kernel, rfl, by decide +kernel, by decide +kernel⟩

theorem ok_average_pay (T : Txt K mg) : FnOk P w K mg base CX0 5 T.f_average_pay T.d_average_pay [Str.ofString "job", Str.ofString "work", Str.ofString "pay"] (spD K 3 F_average_pay) := by
  unfold F_average_pay
  refine def_ok' s_average_pay [Str.ofString "job", Str.ofString "work", Str.ofString "pay"] [Str.ofString "job", Str.ofString "work", Str.ofString "pay"] 4 3 3 g_average_pay T.fun_average_pay sc_average_pay rfl rfl fun cdv A outer s H E hr => ?_
  have hu := hr.units
  have h5 := hr.units5
  exact (dss_one (ds_ret (de_call (ok_weighted T) (hr.mono (by decide)) (by rfl) T.m_weighted T.fun_weighted.kp T.b_weighted (da_cons (de_call (ok_work_chances T) (hr.mono (by decide)) (by rfl) T.m_work_chances T.fun_work_chances.kp T.b_work_chances (da_cons (de_var 0 (pv 0)) (da_cons (de_var 1 (pv 1)) da_nil))) (da_cons (de_var 2 (pv 2)) da_nil)))))

abbrev s_Job_worths : Stmt := inClass (topS 46) 1
theorem sc_Job_worths : FnScope [Str.ofString "self"] [Str.ofString "self"] (defScope s_Job_worths) := ⟨rfl, rfl, rfl, by decide +kernel, rfl, by decide +kernel, by decide +kernel⟩

theorem ok_Job_worths (T : Txt K mg) : FnOk P w K mg base CX0 1 T.f_Job_worths T.d_Job_worths [Str.ofString "self"] (spD K 1 F_Job_worths) := by
  unfold F_Job_worths
  refine def_ok' s_Job_worths [Str.ofString "self"] [Str.ofString "self"] 0 1 1 g_Job_worths T.fun_Job_worths sc_Job_worths rfl rfl fun cdv A outer s H E hr => ?_
  have hu := hr.units
  have h5 := hr.units5
  exact (dss_one (ds_ret (de_fld T.at_worths (de_var 0 (pv 0)))))

abbrev s_is_pay : Stmt := topS 53
theorem sc_is_pay : FnScope [Str.ofString "job", Str.ofString "pay", Str.ofString "amount"] [Str.ofString "job", Str.ofString "pay"] (defScope s_is_pay) := ⟨rfl, rfl, rfl, by decide +kernel, rfl, by decide +kernel, by decide +kernel⟩

theorem ok_is_pay (T : Txt K mg) : FnOk P w K mg base CX0 4 T.f_is_pay T.d_is_pay [Str.ofString "job", Str.ofString "pay"] (spD K 2 F_is_pay) := by
  unfold F_is_pay
  refine def_ok' s_is_pay [Str.ofString "job", Str.ofString "pay", Str.ofString "amount"] [Str.ofString "job", Str.ofString "pay"] 3 3 2 g_is_pay T.fun_is_pay sc_is_pay rfl rfl fun cdv A outer s H E hr => ?_
  have hu := hr.units
  have h5 := hr.units5
  exact (dss_cons (ds_if (dt_w (dw_or (dt_not (dt_val (de_isi (by rfl) T.n_isinstance (by decide +kernel) (db_var 1 (pv 1)) (pe_bltn (by rfl) T.n_tuple (by decide +kernel) rfl)))) (dw_or1 (dt_cmp (od_neA h5) (db_of (de_callB cd_lenA (by rfl) T.n_len (by decide +kernel) (dab_cons (db_var 1 (pv 1)) dab_nil))) (db_of (de_callB cd_lenA (by rfl) T.n_len (by decide +kernel) (dab_cons (db_of (de_prop T.cl_Job T.pr_Job_worths (ok_Job_worths T) (hr.mono (by decide)) T.b_Job_worths (de_var 0 (pv 0)))) dab_nil))) (nomark _))))) (dss_one (ds_ret de_bl)) dss_nil)
      (dss_one (ds_ret (de_callB (cd_all rfl) (by rfl) T.n_all (by decide +kernel) (dab_cons (db_of (de_of (df_lc [(Str.ofString "amount", 2)] rfl sc_is_pay.nd (di_A (de_var 1 (pv 1))) (blkOk_by (by kernel_rfl)) (fun _ _ _ _ _ => (dg_name 2 sc_is_pay.nd)) (fun _ _ _ _ _ => dts_nil) (fun _ _ _ _ _ => (de_call (ok_is_amount T) (hr.mono (by decide)) (by rfl) T.m_is_amount T.fun_is_amount.kp T.b_is_amount (da_cons (de_var 2 (pv 2)) da_nil)))))) dab_nil)))))

abbrev s_check_pay : Stmt := topS 54
theorem sc_check_pay : FnScope [Str.ofString "job", Str.ofString "pay"] [Str.ofString "job", Str.ofString "pay"] (defScope s_check_pay) := ⟨rfl, rfl, rfl, by decide +kernel, rfl, by decide +kernel, by decide +kernel⟩

theorem ok_check_pay (T : Txt K mg) : FnOk P w K mg base CX0 5 T.f_check_pay T.d_check_pay [Str.ofString "job", Str.ofString "pay"] (spD K 2 F_check_pay) := by
  unfold F_check_pay
  refine def_ok' s_check_pay [Str.ofString "job", Str.ofString "pay"] [Str.ofString "job", Str.ofString "pay"] 4 2 2 g_check_pay T.fun_check_pay sc_check_pay rfl rfl fun cdv A outer s H E hr => ?_
  have hu := hr.units
  have h5 := hr.units5
  exact (dss_one (ds_if (dt_not (dt_val (de_call (ok_is_pay T) (hr.mono (by decide)) (by rfl) T.m_is_pay T.fun_is_pay.kp T.b_is_pay (da_cons (de_var 0 (pv 0)) (da_cons (de_var 1 (pv 1)) da_nil))))) (dss_one ds_stuck) dss_nil))

abbrev s_negative : Stmt := topS 10
theorem sc_negative : FnScope [Str.ofString "one"] [Str.ofString "one"] (defScope s_negative) := ⟨rfl, rfl, rfl, by decide +kernel, rfl, by decide +kernel, by decide +kernel⟩

theorem ok_negative (T : Txt K mg) : FnOk P w K mg base CX0 1 T.f_negative T.d_negative [Str.ofString "one"] (spD K 1 F_negative) := by
  unfold F_negative
  refine def_ok' s_negative [Str.ofString "one"] [Str.ofString "one"] 0 1 1 g_negative T.fun_negative sc_negative rfl rfl fun cdv A outer s H E hr => ?_
  have hu := hr.units
  have h5 := hr.units5
  exact (dss_one (ds_ret (de_tup (da_cons (de_neg (db_of (de_ixA hu (db_var 0 (pv 0)) (db_of de_int)))) (da_cons (de_ixA hu (db_var 0 (pv 0)) (db_of de_int)) da_nil)))))

abbrev s_minus : Stmt := topS 11
theorem sc_minus : FnScope [Str.ofString "one", Str.ofString "other"] [Str.ofString "one", Str.ofString "other"] (defScope s_minus) := ⟨rfl, rfl, rfl, by decide +kernel, rfl, by decide +kernel, by decide +kernel⟩

theorem ok_minus (T : Txt K mg) : FnOk P w K mg base CX0 3 T.f_minus T.d_minus [Str.ofString "one", Str.ofString "other"] (spD K 2 F_minus) := by
  unfold F_minus
  refine def_ok' s_minus [Str.ofString "one", Str.ofString "other"] [Str.ofString "one", Str.ofString "other"] 2 2 2 g_minus T.fun_minus sc_minus rfl rfl fun cdv A outer s H E hr => ?_
  have hu := hr.units
  have h5 := hr.units5
  exact (dss_one (ds_ret (de_call (ok_plus T) (hr.mono (by decide)) (by rfl) T.m_plus T.fun_plus.kp T.b_plus (da_cons (de_var 0 (pv 0)) (da_cons (de_call (ok_negative T) (hr.mono (by decide)) (by rfl) T.m_negative T.fun_negative.kp T.b_negative (da_cons (de_var 1 (pv 1)) da_nil)) da_nil)))))

abbrev s_gain : Stmt := topS 59
theorem sc_gain : FnScope [Str.ofString "job", Str.ofString "work", Str.ofString "pay"] [Str.ofString "job", Str.ofString "work", Str.ofString "pay"] (defScope s_gain) := ⟨rfl, rfl, rfl, by decide +kernel, rfl, by decide +kernel, by decide +kernel⟩

theorem ok_gain (T : Txt K mg) : FnOk P w K mg base CX0 6 T.f_gain T.d_gain [Str.ofString "job", Str.ofString "work", Str.ofString "pay"] (spD K 3 F_gain) := by
  unfold F_gain
  refine def_ok' s_gain [Str.ofString "job", Str.ofString "work", Str.ofString "pay"] [Str.ofString "job", Str.ofString "work", Str.ofString "pay"] 5 3 3 g_gain T.fun_gain sc_gain rfl rfl fun cdv A outer s H E hr => ?_
  have hu := hr.units
  have h5 := hr.units5
  exact (dss_cons (ds_expr (de_call (ok_check_job T) (hr.mono (by decide)) (by rfl) T.m_check_job T.fun_check_job.kp T.b_check_job (da_cons (de_var 0 (pv 0)) da_nil)))
      (dss_cons (ds_expr (de_call (ok_check_work T) (hr.mono (by decide)) (by rfl) T.m_check_work T.fun_check_work.kp T.b_check_work (da_cons (de_var 0 (pv 0)) (da_cons (de_var 1 (pv 1)) da_nil))))
      (dss_cons (ds_expr (de_call (ok_check_pay T) (hr.mono (by decide)) (by rfl) T.m_check_pay T.fun_check_pay.kp T.b_check_pay (da_cons (de_var 0 (pv 0)) (da_cons (de_var 2 (pv 2)) da_nil))))
      (dss_one (ds_ret (de_call (ok_minus T) (hr.mono (by decide)) (by rfl) T.m_minus T.fun_minus.kp T.b_minus (da_cons (de_call (ok_average_pay T) (hr.mono (by decide)) (by rfl) T.m_average_pay T.fun_average_pay.kp T.b_average_pay (da_cons (de_var 0 (pv 0)) (da_cons (de_var 1 (pv 1)) (da_cons (de_var 2 (pv 2)) da_nil)))) (da_cons (de_ixA hu (db_of (de_call (ok_work_efforts T) (hr.mono (by decide)) (by rfl) T.m_work_efforts T.fun_work_efforts.kp T.b_work_efforts (da_cons (de_var 0 (pv 0)) da_nil))) (db_var 1 (pv 1))) da_nil))))))))

abbrev s_wanted : Stmt := topS 61
theorem sc_wanted : FnScope [Str.ofString "job", Str.ofString "pay", Str.ofString "best", Str.ofString "found", Str.ofString "work", Str.ofString "gained"] [Str.ofString "job", Str.ofString "pay"] (defScope s_wanted) := ⟨rfl, rfl, rfl, by decide +kernel, rfl, by decide +kernel, by decide +kernel⟩

theorem ok_wanted (T : Txt K mg) : FnOk P w K mg base CX0 7 T.f_wanted T.d_wanted [Str.ofString "job", Str.ofString "pay"] (spD K 2 F_wanted) := by
  unfold F_wanted
  refine def_ok' s_wanted [Str.ofString "job", Str.ofString "pay", Str.ofString "best", Str.ofString "found", Str.ofString "work", Str.ofString "gained"] [Str.ofString "job", Str.ofString "pay"] 6 6 2 g_wanted T.fun_wanted sc_wanted rfl rfl fun cdv A outer s H E hr => ?_
  have hu := hr.units
  have h5 := hr.units5
  exact (dss_cons (ds_expr (de_call (ok_check_job T) (hr.mono (by decide)) (by rfl) T.m_check_job T.fun_check_job.kp T.b_check_job (da_cons (de_var 0 (pv 0)) da_nil)))
      (dss_cons (ds_expr (de_call (ok_check_pay T) (hr.mono (by decide)) (by rfl) T.m_check_pay T.fun_check_pay.kp T.b_check_pay (da_cons (de_var 0 (pv 0)) (da_cons (de_var 1 (pv 1)) da_nil))))
      (dss_cons (ds_set 2 sc_wanted.nd (de_glob (pe_glob (v := L2.V.ref T.a_ZERO) rfl T.m_ZERO rfl) (fun _ => T.r_ZERO _)))
      (dss_cons (ds_setF 3 sc_wanted.nd (df_lst (da_cons de_non da_nil)))
      (dss_cons (ds_for PassesOwn.never rfl (di_range1 (by rfl) T.n_range (de_lenO T.cl_Job T.me_JobD_lenD (ok_JobD_lenD T) (hr.mono (by decide)) T.b_JobD_lenD (by rfl) T.n_len PySem.boot_len (dab_cons (db_var 0 (pv 0)) dab_nil))) (dg_name 4 sc_wanted.nd)
      (dss_cons (ds_set 5 sc_wanted.nd (de_call (ok_gain T) (hr.mono (by decide)) (by rfl) T.m_gain T.fun_gain.kp T.b_gain (da_cons (de_var 0 (pv 0)) (da_cons (de_var 4 (pv 4)) (da_cons (de_var 1 (pv 1)) da_nil)))))
      (dss_one (ds_if (dt_val (de_call (ok_is_less T) (hr.mono (by decide)) (by rfl) T.m_is_less T.fun_is_less.kp T.b_is_less (da_cons (de_var 2 (pv 2)) (da_cons (de_var 5 (pv 5)) da_nil)))) (dss_cons (ds_set 2 sc_wanted.nd (de_var 5 (pv 5)))
      (dss_one (ds_setF 3 sc_wanted.nd (df_lst (da_cons (de_var 4 (pv 4)) da_nil))))) (dss_one (ds_if (dt_cmp (od_eqA h5) (db_var 5 (pv 5)) (db_var 2 (pv 2)) (nomark _)) (dss_one (ds_app 3 (pv 3) (de_var 4 (pv 4)) fun a b => ps_expr (pe_bm PySem.F.plainAttrs_list PySem.F.slot_list_append PySem.F.type_list_append mt_append a (pa_cons b pa_nil)))) dss_nil))))))
      (dss_one (ds_frz 3 (ds_ret (de_var 3 (pv 3))))))))))

abbrev s_u_differences : Stmt := topS 32
theorem sc_u_differences : FnScope [Str.ofString "views", Str.ofString "work", Str.ofString "other", Str.ofString "mine", Str.ofString "its"] [Str.ofString "views", Str.ofString "work", Str.ofString "other"] (defScope s_u_differences) := ⟨rfl, rfl, rfl, by decide +kernel, rfl, by decide +kernel, by decide +kernel⟩

theorem ok_u_differences (T : Txt K mg) : FnOk P w K mg base CX0 4 T.f_u_differences T.d_u_differences [Str.ofString "views", Str.ofString "work", Str.ofString "other"] (spD K 3 F_u_differences) := by
  unfold F_u_differences
  refine def_ok' s_u_differences [Str.ofString "views", Str.ofString "work", Str.ofString "other", Str.ofString "mine", Str.ofString "its"] [Str.ofString "views", Str.ofString "work", Str.ofString "other"] 3 5 3 g_u_differences T.fun_u_differences sc_u_differences rfl rfl fun cdv A outer s H E hr => ?_
  have hu := hr.units
  have h5 := hr.units5
  exact (dss_cons (ds_if (dt_cmp od_isN (db_var 2 (pv 2)) (db_of de_non) (nomark _)) (dss_one (ds_ret (de_of (df_callTy (cf_listA rfl) (by rfl) T.n_list boot_list (dab_cons (db_of (de_ixA hu (db_var 0 (pv 0)) (db_var 1 (pv 1)))) dab_nil))))) dss_nil)
      (dss_one (ds_ret (de_of (df_lc [(Str.ofString "mine", 3), (Str.ofString "its", 4)] rfl sc_u_differences.nd (di_zipX (by rfl) T.n_zip (de_ixA hu (db_var 0 (pv 0)) (db_var 1 (pv 1))) (de_ixA hu (db_var 0 (pv 0)) (db_var 2 (pv 2)))) (blkOk_by (by kernel_rfl)) (fun _ _ _ _ _ => (dg_tup 2 rfl (dgs_cons (dg_name 3 sc_u_differences.nd) (dgs_cons (dg_name 4 sc_u_differences.nd) dgs_nil)) (bCons_len (bCons_len bNil_len)))) (fun _ _ _ _ _ => dts_nil) (fun _ _ _ _ _ => (de_call (ok_minus T) (hr.mono (by decide)) (by rfl) T.m_minus T.fun_minus.kp T.b_minus (da_cons (de_var 3 (pv 3)) (da_cons (de_var 4 (pv 4)) da_nil)))))))))

abbrev s_u_effort_difference : Stmt := topS 33
theorem sc_u_effort_difference : FnScope [Str.ofString "efforts", Str.ofString "work", Str.ofString "other"] [Str.ofString "efforts", Str.ofString "work", Str.ofString "other"] (defScope s_u_effort_difference) := ⟨rfl, rfl, rfl, by decide +kernel, rfl, by decide +kernel, by decide +kernel⟩

theorem ok_u_effort_difference (T : Txt K mg) : FnOk P w K mg base CX0 4 T.f_u_effort_difference T.d_u_effort_difference [Str.ofString "efforts", Str.ofString "work", Str.ofString "other"] (spD K 3 F_u_effort_difference) := by
  unfold F_u_effort_difference
  refine def_ok' s_u_effort_difference [Str.ofString "efforts", Str.ofString "work", Str.ofString "other"] [Str.ofString "efforts", Str.ofString "work", Str.ofString "other"] 3 3 3 g_u_effort_difference T.fun_u_effort_difference sc_u_effort_difference rfl rfl fun cdv A outer s H E hr => ?_
  have hu := hr.units
  have h5 := hr.units5
  exact (dss_one (ds_ret (de_if (dt_cmp od_isN (db_var 2 (pv 2)) (db_of de_non) (nomark _)) (de_ixA hu (db_var 0 (pv 0)) (db_var 1 (pv 1))) (de_call (ok_minus T) (hr.mono (by decide)) (by rfl) T.m_minus T.fun_minus.kp T.b_minus (da_cons (de_ixA hu (db_var 0 (pv 0)) (db_var 1 (pv 1))) (da_cons (de_ixA hu (db_var 0 (pv 0)) (db_var 2 (pv 2))) da_nil))))))

abbrev s_are_within : Stmt := topS 29
theorem sc_are_within : FnScope [Str.ofString "factors", Str.ofString "rows", Str.ofString "limits", Str.ofString "sums", Str.ofString "at", Str.ofString "row", Str.ofString "limit", Str.ofString "reached"] [Str.ofString "factors", Str.ofString "rows", Str.ofString "limits"] (defScope s_are_within) := ⟨rfl, rfl, rfl, by decide +kernel, rfl, by decide +kernel, by decide +kernel⟩

theorem ok_are_within (T : Txt K mg) : FnOk P w K mg base CX0 5 T.f_are_within T.d_are_within [Str.ofString "factors", Str.ofString "rows", Str.ofString "limits"] (spD K 3 F_are_within) := by
  unfold F_are_within
  refine def_ok' s_are_within [Str.ofString "factors", Str.ofString "rows", Str.ofString "limits", Str.ofString "sums", Str.ofString "at", Str.ofString "row", Str.ofString "limit", Str.ofString "reached"] [Str.ofString "factors", Str.ofString "rows", Str.ofString "limits"] 4 8 3 g_are_within T.fun_are_within sc_are_within rfl rfl fun cdv A outer s H E hr => ?_
  have hu := hr.units
  have h5 := hr.units5
  exact (dss_cons (ds_setLcE 3 [(Str.ofString "at", 4)] rfl sc_are_within.nd rfl rfl (sw_true rfl rfl rfl (by decide +kernel)) (di_range1 (by rfl) T.n_range (de_callB cd_lenA (by rfl) T.n_len (by decide +kernel) (dab_cons (db_var 2 (pv 2)) dab_nil))) (blkOk_by (by kernel_rfl)) (fun _ _ _ _ _ => (dg_name 4 sc_are_within.nd)) (fun _ _ _ _ _ => dts_nil) (fun _ _ _ _ _ => (de_call (ok_weighted T) (hr.mono (by decide)) (by rfl) T.m_weighted T.fun_weighted.kp T.b_weighted (da_cons (de_var 0 (pv 0)) (da_cons (de_of (df_lc [(Str.ofString "row", 5)] rfl sc_are_within.nd (di_A (de_var 1 (pv 1))) (blkOk_by (by kernel_rfl)) (fun _ _ _ _ _ => (dg_name 5 sc_are_within.nd)) (fun _ _ _ _ _ => dts_nil) (fun _ _ _ _ _ => (de_ixA hu (db_var 5 (pv 5)) (db_var 4 (pv 4)))))) da_nil)))))
      (dss_one (ds_ret (de_not (de_callB (cd_any rfl) (by rfl) T.n_any (by decide +kernel) (dab_cons (db_of (de_of (df_lc [(Str.ofString "limit", 6), (Str.ofString "reached", 7)] rfl sc_are_within.nd (di_zipX (by rfl) T.n_zip (de_var 2 (pv 2)) (de_var 3 (pv 3))) (blkOk_by (by kernel_rfl)) (fun _ _ _ _ _ => (dg_tup 2 rfl (dgs_cons (dg_name 6 sc_are_within.nd) (dgs_cons (dg_name 7 sc_are_within.nd) dgs_nil)) (bCons_len (bCons_len bNil_len)))) (fun _ _ _ _ _ => dts_nil) (fun _ _ _ _ _ => (de_call (ok_is_less T) (hr.mono (by decide)) (by rfl) T.m_is_less T.fun_is_less.kp T.b_is_less (da_cons (de_var 6 (pv 6)) (da_cons (de_var 7 (pv 7)) da_nil))))))) dab_nil))))))

abbrev s_weights_show : Stmt := topS 28
theorem sc_weights_show : FnScope [Str.ofString "views", Str.ofString "efforts", Str.ofString "work", Str.ofString "weights", Str.ofString "cost", Str.ofString "others", Str.ofString "factors", Str.ofString "needs", Str.ofString "other", Str.ofString "factor"] [Str.ofString "views", Str.ofString "efforts", Str.ofString "work", Str.ofString "weights", Str.ofString "cost"] (defScope s_weights_show) := ⟨rfl, rfl, rfl, by decide +kernel, rfl, by decide +kernel, by decide +kernel⟩

theorem ok_weights_show (T : Txt K mg) : FnOk P w K mg base CX0 6 T.f_weights_show T.d_weights_show [Str.ofString "views", Str.ofString "efforts", Str.ofString "work", Str.ofString "weights", Str.ofString "cost"] (spD K 5 F_weights_show) := by
  unfold F_weights_show
  refine def_ok' s_weights_show [Str.ofString "views", Str.ofString "efforts", Str.ofString "work", Str.ofString "weights", Str.ofString "cost", Str.ofString "others", Str.ofString "factors", Str.ofString "needs", Str.ofString "other", Str.ofString "factor"] [Str.ofString "views", Str.ofString "efforts", Str.ofString "work", Str.ofString "weights", Str.ofString "cost"] 5 10 5 g_weights_show T.fun_weights_show sc_weights_show rfl rfl fun cdv A outer s H E hr => ?_
  have hu := hr.units
  have h5 := hr.units5
  exact (dss_cons (ds_set 5 sc_weights_show.nd (de_of (df_callTy (cf_listA rfl) (by rfl) T.n_list boot_list (dab_cons (db_var 3 (pv 3)) dab_nil))))
      (dss_cons (ds_if (dt_not (dt_val (de_callB (cd_all rfl) (by rfl) T.n_all (by decide +kernel) (dab_cons (db_of (de_of (df_lc [(Str.ofString "other", 8)] rfl sc_weights_show.nd (di_A (de_var 5 (pv 5))) (blkOk_by (by kernel_rfl)) (fun _ _ _ _ _ => (dg_name 8 sc_weights_show.nd)) (fun _ _ _ _ _ => dts_nil) (fun _ _ _ _ _ => (de_or (de_cmp od_isN (db_var 8 (pv 8)) (db_of de_non) (nomark _)) (de_and1 (de_call (ok_u_is_other T) (hr.mono (by decide)) (by rfl) T.m_u_is_other T.fun_u_is_other.kp T.b_u_is_other (da_cons (de_var 0 (pv 0)) (da_cons (de_var 2 (pv 2)) (da_cons (de_var 8 (pv 8)) da_nil)))))))))) dab_nil)))) (dss_one (ds_ret de_bl)) dss_nil)
      (dss_cons (ds_setLcE 6 [(Str.ofString "other", 8)] rfl sc_weights_show.nd rfl rfl (sw_true rfl rfl rfl (by decide +kernel)) (di_A (de_var 5 (pv 5))) (blkOk_by (by kernel_rfl)) (fun _ _ _ _ _ => (dg_name 8 sc_weights_show.nd)) (fun _ _ _ _ _ => dts_nil) (fun _ _ _ _ _ => (de_ixA hu (db_var 3 (pv 3)) (db_var 8 (pv 8)))))
      (dss_cons (ds_if (dt_not (dt_val (de_callB (cd_all rfl) (by rfl) T.n_all (by decide +kernel) (dab_cons (db_of (de_of (df_lc [(Str.ofString "factor", 9)] rfl sc_weights_show.nd (di_A (de_var 6 (pv 6))) (blkOk_by (by kernel_rfl)) (fun _ _ _ _ _ => (dg_name 9 sc_weights_show.nd)) (fun _ _ _ _ _ => dts_nil) (fun _ _ _ _ _ => (de_call (ok_is_amount T) (hr.mono (by decide)) (by rfl) T.m_is_amount T.fun_is_amount.kp T.b_is_amount (da_cons (de_var 9 (pv 9)) da_nil)))))) dab_nil)))) (dss_one (ds_ret de_bl)) dss_nil)
      (dss_cons (ds_if (dt_not (dt_val (de_call (ok_are_within T) (hr.mono (by decide)) (by rfl) T.m_are_within T.fun_are_within.kp T.b_are_within (da_cons (de_var 6 (pv 6)) (da_cons (de_of (df_lc [(Str.ofString "other", 8)] rfl sc_weights_show.nd (di_A (de_var 5 (pv 5))) (blkOk_by (by kernel_rfl)) (fun _ _ _ _ _ => (dg_name 8 sc_weights_show.nd)) (fun _ _ _ _ _ => dts_nil) (fun _ _ _ _ _ => (de_call (ok_u_differences T) (hr.mono (by decide)) (by rfl) T.m_u_differences T.fun_u_differences.kp T.b_u_differences (da_cons (de_var 0 (pv 0)) (da_cons (de_var 2 (pv 2)) (da_cons (de_var 8 (pv 8)) da_nil))))))) (da_cons (de_ixA hu (db_var 0 (pv 0)) (db_var 2 (pv 2))) da_nil)))))) (dss_one (ds_ret de_bl)) dss_nil)
      (dss_cons (ds_setLcE 7 [(Str.ofString "other", 8)] rfl sc_weights_show.nd rfl rfl (sw_true rfl rfl rfl (by decide +kernel)) (di_A (de_var 5 (pv 5))) (blkOk_by (by kernel_rfl)) (fun _ _ _ _ _ => (dg_name 8 sc_weights_show.nd)) (fun _ _ _ _ _ => dts_nil) (fun _ _ _ _ _ => (de_call (ok_u_effort_difference T) (hr.mono (by decide)) (by rfl) T.m_u_effort_difference T.fun_u_effort_difference.kp T.b_u_effort_difference (da_cons (de_var 1 (pv 1)) (da_cons (de_var 2 (pv 2)) (da_cons (de_var 8 (pv 8)) da_nil))))))
      (dss_one (ds_ret (de_cmp (od_eqA h5) (db_of (de_call (ok_weighted T) (hr.mono (by decide)) (by rfl) T.m_weighted T.fun_weighted.kp T.b_weighted (da_cons (de_var 6 (pv 6)) (da_cons (de_var 7 (pv 7)) da_nil)))) (db_var 4 (pv 4)) (nomark _))))))))))

abbrev s_Enough_shows : Stmt := inClass (topS 63) 2
theorem sc_Enough_shows : FnScope [Str.ofString "self", Str.ofString "job", Str.ofString "work", Str.ofString "rising", Str.ofString "cost"] [Str.ofString "self", Str.ofString "job", Str.ofString "work", Str.ofString "rising"] (defScope s_Enough_shows) := ⟨rfl, rfl, rfl, by decide +kernel, rfl, by decide +kernel, by decide +kernel⟩

theorem ok_Enough_shows (T : Txt K mg) : FnOk P w K mg base CX0 8 T.f_Enough_shows T.d_Enough_shows [Str.ofString "self", Str.ofString "job", Str.ofString "work", Str.ofString "rising"] (spD K 4 F_Enough_shows) := by
  unfold F_Enough_shows
  refine defK_ok s_Enough_shows [Str.ofString "self", Str.ofString "job", Str.ofString "work", Str.ofString "rising", Str.ofString "cost"] [Str.ofString "self", Str.ofString "job", Str.ofString "work", Str.ofString "rising"] 7 5 4 g_Enough_shows T.fun_Enough_shows sc_Enough_shows rfl rfl fun cdv A outer s H E hr => ?_
  have hu := hr.units
  have h5 := hr.units5
  exact (dss_cons (ds_expr (de_call (ok_check_job T) (hr.mono (by decide)) (by rfl) T.m_check_job T.fun_check_job.kp T.b_check_job (da_cons (de_var 1 (pv 1)) da_nil)))
      (dss_cons (ds_expr (de_call (ok_check_work T) (hr.mono (by decide)) (by rfl) T.m_check_work T.fun_check_work.kp T.b_check_work (da_cons (de_var 1 (pv 1)) (da_cons (de_var 2 (pv 2)) da_nil))))
      (dss_cons (ds_if (dt_w (dw_or (dt_not (dt_val (de_call (ok_is_pay T) (hr.mono (by decide)) (by rfl) T.m_is_pay T.fun_is_pay.kp T.b_is_pay (da_cons (de_var 1 (pv 1)) (da_cons (de_fld T.at_pay (de_var 0 (pv 0))) da_nil))))) (dw_or1 (dt_w (dw_and (dt_tru (db_var 3 (pv 3))) (dw_and1 (dt_not (dt_val (de_call (ok_u_is_rising T) (hr.mono (by decide)) (by rfl) T.m_u_is_rising T.fun_u_is_rising.kp T.b_u_is_rising (da_cons (de_fld T.at_pay (de_var 0 (pv 0))) da_nil)))))))))) (dss_one (ds_ret de_bl)) dss_nil)
      (dss_cons (ds_if (dt_cmp (od_notInA h5) (db_var 2 (pv 2)) (db_of (de_call (ok_wanted T) (hr.mono (by decide)) (by rfl) T.m_wanted T.fun_wanted.kp T.b_wanted (da_cons (de_var 1 (pv 1)) (da_cons (de_fld T.at_pay (de_var 0 (pv 0))) da_nil)))) (by rfl)) (dss_one (ds_ret de_bl)) dss_nil)
      (dss_cons (ds_set 4 sc_Enough_shows.nd (de_call (ok_average_pay T) (hr.mono (by decide)) (by rfl) T.m_average_pay T.fun_average_pay.kp T.b_average_pay (da_cons (de_var 1 (pv 1)) (da_cons (de_var 2 (pv 2)) (da_cons (de_fld T.at_pay (de_var 0 (pv 0))) da_nil)))))
      (dss_one (ds_ret (de_call (ok_weights_show T) (hr.mono (by decide)) (by rfl) T.m_weights_show T.fun_weights_show.kp T.b_weights_show (da_cons (de_call (ok_u_views T) (hr.mono (by decide)) (by rfl) T.m_u_views T.fun_u_views.kp T.b_u_views (da_cons (de_var 1 (pv 1)) (da_cons (de_var 3 (pv 3)) da_nil))) (da_cons (de_call (ok_work_efforts T) (hr.mono (by decide)) (by rfl) T.m_work_efforts T.fun_work_efforts.kp T.b_work_efforts (da_cons (de_var 1 (pv 1)) da_nil)) (da_cons (de_var 2 (pv 2)) (da_cons (de_fld T.at_weights (de_var 0 (pv 0))) (da_cons (de_var 4 (pv 4)) da_nil)))))))))))))

abbrev s_u_law_blend : Stmt := topS 89
theorem sc_u_law_blend : FnScope [] [] (defScope s_u_law_blend) := ⟨rfl, rfl, rfl, by decide +kernel, rfl, by decide +kernel, by decide +kernel⟩

theorem ok_u_law_blend (T : Txt K mg) : FnOk P w K mg base CX0 8 T.f_u_law_blend T.d_u_law_blend [] (spD K 0 F_u_law_blend) := by
  unfold F_u_law_blend
  refine def_ok' s_u_law_blend [] [] 7 0 0 g_u_law_blend T.fun_u_law_blend sc_u_law_blend rfl rfl fun cdv A outer s H E hr => ?_
  have hu := hr.units
  have h5 := hr.units5
  exact (dss_one (ds_ret (de_make T.mk_Job (ok_JobD_initD T) (hr.mono (by decide)) (by rfl) T.mc_Job T.b_JobD_initD (da_cons (de_tup (da_cons de_int (da_cons de_int (da_cons de_int da_nil)))) (da_cons (de_tup (da_cons (de_tup (da_cons de_int (da_cons (de_tup (da_cons de_int (da_cons de_int (da_cons de_int da_nil)))) da_nil))) (da_cons (de_tup (da_cons de_int (da_cons (de_tup (da_cons de_int (da_cons de_int (da_cons de_int da_nil)))) da_nil))) (da_cons (de_tup (da_cons de_int (da_cons (de_tup (da_cons de_int (da_cons de_int (da_cons de_int da_nil)))) da_nil))) da_nil)))) da_nil)))))

abbrev s_EnoughD_initD : Stmt := inClass (topS 63) 0
theorem sc_EnoughD_initD : FnScope [Str.ofString "self", Str.ofString "pay", Str.ofString "weights", Str.ofString "other"] [Str.ofString "self", Str.ofString "pay", Str.ofString "weights"] (defScope s_EnoughD_initD) := ⟨rfl, rfl, rfl, by decide +kernel, rfl, by decide +kernel, by decide +kernel⟩

theorem ok_EnoughD_initD (T : Txt K mg) : FnOk P w K mg base CX0 1 T.f_EnoughD_initD T.d_EnoughD_initD [Str.ofString "self", Str.ofString "pay", Str.ofString "weights"] (spI K 1 2 F_EnoughD_initD) := by
  unfold F_EnoughD_initD
  refine init_ok s_EnoughD_initD [Str.ofString "self", Str.ofString "pay", Str.ofString "weights", Str.ofString "other"] [Str.ofString "self", Str.ofString "pay", Str.ofString "weights"] 0 3 2 g_EnoughD_initD T.fun_EnoughD_initD sc_EnoughD_initD rfl rfl fun cdv A outer s H E hr => ?_
  have hu := hr.units
  have h5 := hr.units5
  exact (din_fld T.cl_Enough T.na_Enough_pay (pv 0) (de_var 1 (pv 1))
      (din_fld T.cl_Enough T.na_Enough_weights (pv 0) (de_of (df_dc [(Str.ofString "other", 3)] hu rfl sc_EnoughD_initD.nd (di_A (de_var 2 (pv 2))) (blkOk_by (by kernel_rfl)) (fun _ _ _ _ _ => (dg_name 3 sc_EnoughD_initD.nd)) (fun _ _ _ _ _ => dts_nil) (fun _ _ _ _ _ => (de_var 3 (pv 3))) (fun _ _ _ _ _ => (de_ixA hu (db_var 2 (pv 2)) (db_var 3 (pv 3))))))
      din_nil))

abbrev s_u_endless_weights : Stmt := topS 25
theorem sc_u_endless_weights : FnScope [Str.ofString "table", Str.ofString "told", Str.ofString "many", Str.ofString "column", Str.ofString "weights", Str.ofString "line", Str.ofString "place"] [Str.ofString "table", Str.ofString "told", Str.ofString "many", Str.ofString "column"] (defScope s_u_endless_weights) := ⟨rfl, rfl, rfl, by decide +kernel, rfl, by decide +kernel, by decide +kernel⟩

theorem ok_u_endless_weights (T : Txt K mg) : FnOk P w K mg base CX0 2 T.f_u_endless_weights T.d_u_endless_weights [Str.ofString "table", Str.ofString "told", Str.ofString "many", Str.ofString "column"] (spD K 4 F_u_endless_weights) := by
  unfold F_u_endless_weights
  refine def_ok' s_u_endless_weights [Str.ofString "table", Str.ofString "told", Str.ofString "many", Str.ofString "column", Str.ofString "weights", Str.ofString "line", Str.ofString "place"] [Str.ofString "table", Str.ofString "told", Str.ofString "many", Str.ofString "column"] 1 7 4 g_u_endless_weights T.fun_u_endless_weights sc_u_endless_weights rfl rfl fun cdv A outer s H E hr => ?_
  have hu := hr.units
  have h5 := hr.units5
  exact (dss_cons (ds_setF 4 sc_u_endless_weights.nd (df_op of_rep (db_of (de_of (df_lst (da_cons (de_glob (pe_glob (v := L2.V.ref T.a_ZERO) rfl T.m_ZERO rfl) (fun _ => T.r_ZERO _)) da_nil)))) (db_var 2 (pv 2))))
      (dss_cons (ds_if (dt_cmp od_lt (db_var 3 (pv 3)) (db_var 2 (pv 2)) (nomark _)) (dss_one (ds_setA hu 4 (pv 4) (de_var 3 (pv 3)) (de_glob (pe_glob (v := L2.V.ref T.a_ONE) rfl T.m_ONE rfl) (fun _ => T.r_ONE _)) (ps_asg (de_glob (pe_glob (v := L2.V.ref T.a_ONE) rfl T.m_ONE rfl) (fun _ => T.r_ONE _)) (pg_sub (pv 4) (de_var 3 (pv 3)) set_list)) (ps_asg (de_glob (pe_glob (v := L2.V.ref T.a_ONE) rfl T.m_ONE rfl) (fun _ => T.r_ONE _)) (pg_sub (pv 4) (de_var 3 (pv 3)) (set_tab hu))))) dss_nil)
      (dss_cons (ds_for PassesOwn.never rfl (di_enumA (by rfl) T.n_enumerate (de_var 1 (pv 1))) (dg_tup 2 rfl (dgs_cons (dg_name 5 sc_u_endless_weights.nd) (dgs_cons (dg_name 6 sc_u_endless_weights.nd) dgs_nil)) (bCons_len (bCons_len bNil_len)))
      (dss_one (ds_if (dt_cmp od_lt (db_var 6 (pv 6)) (db_var 2 (pv 2)) (nomark _)) (dss_one (ds_setA hu 4 (pv 4) (de_var 6 (pv 6)) (de_call (ok_negative T) (hr.mono (by decide)) (by rfl) T.m_negative T.fun_negative.kp T.b_negative (da_cons (de_ixA hu (db_of (de_ixA hu (db_var 0 (pv 0)) (db_var 5 (pv 5)))) (db_var 3 (pv 3))) da_nil)) (ps_asg (de_call (ok_negative T) (hr.mono (by decide)) (by rfl) T.m_negative T.fun_negative.kp T.b_negative (da_cons (de_ixA hu (db_of (de_ixA hu (db_var 0 (pv 0)) (db_var 5 (pv 5)))) (db_var 3 (pv 3))) da_nil)) (pg_sub (pv 4) (de_var 6 (pv 6)) set_list)) (ps_asg (de_call (ok_negative T) (hr.mono (by decide)) (by rfl) T.m_negative T.fun_negative.kp T.b_negative (da_cons (de_ixA hu (db_of (de_ixA hu (db_var 0 (pv 0)) (db_var 5 (pv 5)))) (db_var 3 (pv 3))) da_nil)) (pg_sub (pv 4) (de_var 6 (pv 6)) (set_tab hu))))) dss_nil)))
      (dss_one (ds_frz 4 (ds_ret (de_var 4 (pv 4))))))))

abbrev s_u_first_table : Stmt := topS 20
theorem sc_u_first_table : FnScope [Str.ofString "costs", Str.ofString "rows", Str.ofString "needs", Str.ofString "table", Str.ofString "k", Str.ofString "cost", Str.ofString "slacks", Str.ofString "other", Str.ofString "row"] [Str.ofString "costs", Str.ofString "rows", Str.ofString "needs"] (defScope s_u_first_table) := ⟨rfl, rfl, rfl, by decide +kernel, rfl, by decide +kernel, by decide +kernel⟩

theorem ok_u_first_table (T : Txt K mg) : FnOk P w K mg base CX0 1 T.f_u_first_table T.d_u_first_table [Str.ofString "costs", Str.ofString "rows", Str.ofString "needs"] (spD K 3 F_u_first_table) := by
  unfold F_u_first_table
  refine def_ok' s_u_first_table [Str.ofString "costs", Str.ofString "rows", Str.ofString "needs", Str.ofString "table", Str.ofString "k", Str.ofString "cost", Str.ofString "slacks", Str.ofString "other", Str.ofString "row"] [Str.ofString "costs", Str.ofString "rows", Str.ofString "needs"] 0 9 3 g_u_first_table T.fun_u_first_table sc_u_first_table rfl rfl fun cdv A outer s H E hr => ?_
  have hu := hr.units
  have h5 := hr.units5
  exact (dss_cons (ds_setF 3 sc_u_first_table.nd (df_lst da_nil))
      (dss_cons (ds_for PassesOwn.never rfl (di_enumA (by rfl) T.n_enumerate (de_var 0 (pv 0))) (dg_tup 2 rfl (dgs_cons (dg_name 4 sc_u_first_table.nd) (dgs_cons (dg_name 5 sc_u_first_table.nd) dgs_nil)) (bCons_len (bCons_len bNil_len)))
      (dss_cons (ds_setLcE 6 [(Str.ofString "other", 7)] rfl sc_u_first_table.nd rfl rfl (sw_true rfl rfl rfl (by decide +kernel)) (di_range1 (by rfl) T.n_range (de_callB cd_lenA (by rfl) T.n_len (by decide +kernel) (dab_cons (db_var 0 (pv 0)) dab_nil))) (blkOk_by (by kernel_rfl)) (fun _ _ _ _ _ => (dg_name 7 sc_u_first_table.nd)) (fun _ _ _ _ _ => dts_nil) (fun _ _ _ _ _ => (de_if (dt_cmp (od_eqA h5) (db_var 4 (pv 4)) (db_var 7 (pv 7)) (nomark _)) (de_glob (pe_glob (v := L2.V.ref T.a_ONE) rfl T.m_ONE rfl) (fun _ => T.r_ONE _)) (de_glob (pe_glob (v := L2.V.ref T.a_ZERO) rfl T.m_ZERO rfl) (fun _ => T.r_ZERO _)))))
      (dss_one (ds_app 3 (pv 3) (de_op od_addA (db_of (de_op od_addA (db_of (de_of (df_lc [(Str.ofString "row", 8)] rfl sc_u_first_table.nd (di_A (de_var 1 (pv 1))) (blkOk_by (by kernel_rfl)) (fun _ _ _ _ _ => (dg_name 8 sc_u_first_table.nd)) (fun _ _ _ _ _ => dts_nil) (fun _ _ _ _ _ => (de_ixA hu (db_var 8 (pv 8)) (db_var 4 (pv 4))))))) (db_var 6 (pv 6)))) (db_of (de_of (df_lst (da_cons (de_var 5 (pv 5)) da_nil))))) fun a b => ps_expr (pe_bm PySem.F.plainAttrs_list PySem.F.slot_list_append PySem.F.type_list_append mt_append a (pa_cons b pa_nil))))))
      (dss_cons (ds_app 3 (pv 3) (de_op od_addA (db_of (de_of (df_callTy (cf_listA rfl) (by rfl) T.n_list boot_list (dab_cons (db_var 2 (pv 2)) dab_nil)))) (db_of (de_op od_mulA (db_of (de_of (df_lst (da_cons (de_glob (pe_glob (v := L2.V.ref T.a_ZERO) rfl T.m_ZERO rfl) (fun _ => T.r_ZERO _)) da_nil)))) (db_of (de_op od_addA (db_of (de_callB cd_lenA (by rfl) T.n_len (by decide +kernel) (dab_cons (db_var 0 (pv 0)) dab_nil))) (db_of de_int)))))) fun a b => ps_expr (pe_bm PySem.F.plainAttrs_list PySem.F.slot_list_append PySem.F.type_list_append mt_append a (pa_cons b pa_nil)))
      (dss_one (ds_frz 3 (ds_ret (de_var 3 (pv 3))))))))

abbrev s_inverse : Stmt := topS 13
theorem sc_inverse : FnScope [Str.ofString "one", Str.ofString "top", Str.ofString "bottom"] [Str.ofString "one"] (defScope s_inverse) := ⟨rfl, rfl, rfl, by decide +kernel, rfl, by decide +kernel, by decide +kernel⟩

theorem ok_inverse (T : Txt K mg) : FnOk P w K mg base CX0 1 T.f_inverse T.d_inverse [Str.ofString "one"] (spD K 1 F_inverse) := by
  unfold F_inverse
  refine def_ok' s_inverse [Str.ofString "one", Str.ofString "top", Str.ofString "bottom"] [Str.ofString "one"] 0 3 1 g_inverse T.fun_inverse sc_inverse rfl rfl fun cdv A outer s H E hr => ?_
  have hu := hr.units
  have h5 := hr.units5
  exact (dss_cons (ds_asg (de_var 0 (pv 0)) (dg_tup 2 rfl (dgs_cons (dg_name 1 sc_inverse.nd) (dgs_cons (dg_name 2 sc_inverse.nd) dgs_nil)) (bCons_len (bCons_len bNil_len))))
      (dss_one (ds_ret (de_if (dt_cmp od_gt (db_var 1 (pv 1)) (db_of de_int) (nomark _)) (de_tup (da_cons (de_var 2 (pv 2)) (da_cons (de_var 1 (pv 1)) da_nil))) (de_tup (da_cons (de_neg (db_var 2 (pv 2))) (da_cons (de_neg (db_var 1 (pv 1))) da_nil)))))))

abbrev s_over : Stmt := topS 14
theorem sc_over : FnScope [Str.ofString "one", Str.ofString "other"] [Str.ofString "one", Str.ofString "other"] (defScope s_over) := ⟨rfl, rfl, rfl, by decide +kernel, rfl, by decide +kernel, by decide +kernel⟩

theorem ok_over (T : Txt K mg) : FnOk P w K mg base CX0 3 T.f_over T.d_over [Str.ofString "one", Str.ofString "other"] (spD K 2 F_over) := by
  unfold F_over
  refine def_ok' s_over [Str.ofString "one", Str.ofString "other"] [Str.ofString "one", Str.ofString "other"] 2 2 2 g_over T.fun_over sc_over rfl rfl fun cdv A outer s H E hr => ?_
  have hu := hr.units
  have h5 := hr.units5
  exact (dss_one (ds_ret (de_call (ok_times T) (hr.mono (by decide)) (by rfl) T.m_times T.fun_times.kp T.b_times (da_cons (de_var 0 (pv 0)) (da_cons (de_call (ok_inverse T) (hr.mono (by decide)) (by rfl) T.m_inverse T.fun_inverse.kp T.b_inverse (da_cons (de_var 1 (pv 1)) da_nil)) da_nil)))))

abbrev s_u_pivoted : Stmt := topS 23
theorem sc_u_pivoted : FnScope [Str.ofString "table", Str.ofString "line", Str.ofString "column", Str.ofString "pivot", Str.ofString "solved", Str.ofString "found", Str.ofString "at", Str.ofString "entries", Str.ofString "factor", Str.ofString "entry", Str.ofString "part"] [Str.ofString "table", Str.ofString "line", Str.ofString "column"] (defScope s_u_pivoted) := ⟨rfl, rfl, rfl, by decide +kernel, rfl, by decide +kernel, by decide +kernel⟩

theorem ok_u_pivoted (T : Txt K mg) : FnOk P w K mg base CX0 4 T.f_u_pivoted T.d_u_pivoted [Str.ofString "table", Str.ofString "line", Str.ofString "column"] (spD K 3 F_u_pivoted) := by
  unfold F_u_pivoted
  refine def_ok' s_u_pivoted [Str.ofString "table", Str.ofString "line", Str.ofString "column", Str.ofString "pivot", Str.ofString "solved", Str.ofString "found", Str.ofString "at", Str.ofString "entries", Str.ofString "factor", Str.ofString "entry", Str.ofString "part"] [Str.ofString "table", Str.ofString "line", Str.ofString "column"] 3 11 3 g_u_pivoted T.fun_u_pivoted sc_u_pivoted rfl rfl fun cdv A outer s H E hr => ?_
  have hu := hr.units
  have h5 := hr.units5
  exact (dss_cons (ds_set 3 sc_u_pivoted.nd (de_ixA hu (db_of (de_ixA hu (db_var 0 (pv 0)) (db_var 1 (pv 1)))) (db_var 2 (pv 2))))
      (dss_cons (ds_setLcE 4 [(Str.ofString "entry", 9)] rfl sc_u_pivoted.nd rfl rfl (sw_true rfl rfl rfl (by decide +kernel)) (di_A (de_ixA hu (db_var 0 (pv 0)) (db_var 1 (pv 1)))) (blkOk_by (by kernel_rfl)) (fun _ _ _ _ _ => (dg_name 9 sc_u_pivoted.nd)) (fun _ _ _ _ _ => dts_nil) (fun _ _ _ _ _ => (de_call (ok_over T) (hr.mono (by decide)) (by rfl) T.m_over T.fun_over.kp T.b_over (da_cons (de_var 9 (pv 9)) (da_cons (de_var 3 (pv 3)) da_nil)))))
      (dss_cons (ds_setF 5 sc_u_pivoted.nd (df_lst da_nil))
      (dss_cons (ds_for PassesOwn.never rfl (di_enumA (by rfl) T.n_enumerate (de_var 0 (pv 0))) (dg_tup 2 rfl (dgs_cons (dg_name 6 sc_u_pivoted.nd) (dgs_cons (dg_name 7 sc_u_pivoted.nd) dgs_nil)) (bCons_len (bCons_len bNil_len)))
      (dss_one (ds_if (dt_cmp (od_eqA h5) (db_var 6 (pv 6)) (db_var 1 (pv 1)) (nomark _)) (dss_one (ds_app 5 (pv 5) (de_var 4 (pv 4)) fun a b => ps_expr (pe_bm PySem.F.plainAttrs_list PySem.F.slot_list_append PySem.F.type_list_append mt_append a (pa_cons b pa_nil)))) (dss_cons (ds_set 8 sc_u_pivoted.nd (de_ixA hu (db_var 7 (pv 7)) (db_var 2 (pv 2))))
      (dss_one (ds_app 5 (pv 5) (de_of (df_lc [(Str.ofString "entry", 9), (Str.ofString "part", 10)] rfl sc_u_pivoted.nd (di_zipX (by rfl) T.n_zip (de_var 7 (pv 7)) (de_var 4 (pv 4))) (blkOk_by (by kernel_rfl)) (fun _ _ _ _ _ => (dg_tup 2 rfl (dgs_cons (dg_name 9 sc_u_pivoted.nd) (dgs_cons (dg_name 10 sc_u_pivoted.nd) dgs_nil)) (bCons_len (bCons_len bNil_len)))) (fun _ _ _ _ _ => dts_nil) (fun _ _ _ _ _ => (de_call (ok_minus T) (hr.mono (by decide)) (by rfl) T.m_minus T.fun_minus.kp T.b_minus (da_cons (de_var 9 (pv 9)) (da_cons (de_call (ok_times T) (hr.mono (by decide)) (by rfl) T.m_times T.fun_times.kp T.b_times (da_cons (de_var 8 (pv 8)) (da_cons (de_var 10 (pv 10)) da_nil))) da_nil)))))) fun a b => ps_expr (pe_bm PySem.F.plainAttrs_list PySem.F.slot_list_append PySem.F.type_list_append mt_append a (pa_cons b pa_nil))))))))
      (dss_one (ds_frz 5 (ds_ret (de_var 5 (pv 5)))))))))

abbrev s_u_rising_column : Stmt := topS 21
theorem sc_u_rising_column : FnScope [Str.ofString "goal", Str.ofString "column", Str.ofString "entry"] [Str.ofString "goal"] (defScope s_u_rising_column) := ⟨rfl, rfl, rfl, by decide +kernel, rfl, by decide +kernel, by decide +kernel⟩

theorem ok_u_rising_column (T : Txt K mg) : FnOk P w K mg base CX0 2 T.f_u_rising_column T.d_u_rising_column [Str.ofString "goal"] (spD K 1 F_u_rising_column) := by
  unfold F_u_rising_column
  refine def_ok' s_u_rising_column [Str.ofString "goal", Str.ofString "column", Str.ofString "entry"] [Str.ofString "goal"] 1 3 1 g_u_rising_column T.fun_u_rising_column sc_u_rising_column rfl rfl fun cdv A outer s H E hr => ?_
  have hu := hr.units
  have h5 := hr.units5
  exact (dss_cons (ds_for PassesOwn.never rfl (di_enumA (by rfl) T.n_enumerate (de_slA (db_var 0 (pv 0)) do_none (do_some (de_neg (db_of de_int))))) (dg_tup 2 rfl (dgs_cons (dg_name 1 sc_u_rising_column.nd) (dgs_cons (dg_name 2 sc_u_rising_column.nd) dgs_nil)) (bCons_len (bCons_len bNil_len)))
      (dss_one (ds_if (dt_val (de_call (ok_is_less T) (hr.mono (by decide)) (by rfl) T.m_is_less T.fun_is_less.kp T.b_is_less (da_cons (de_glob (pe_glob (v := L2.V.ref T.a_ZERO) rfl T.m_ZERO rfl) (fun _ => T.r_ZERO _)) (da_cons (de_var 2 (pv 2)) da_nil)))) (dss_one (ds_ret (de_var 1 (pv 1)))) dss_nil)))
      (dss_one (ds_ret de_non)))

abbrev s_u_tightest_line : Stmt := topS 22
theorem sc_u_tightest_line : FnScope [Str.ofString "table", Str.ofString "told", Str.ofString "column", Str.ofString "best", Str.ofString "bound", Str.ofString "line", Str.ofString "place", Str.ofString "entry", Str.ofString "reach"] [Str.ofString "table", Str.ofString "told", Str.ofString "column"] (defScope s_u_tightest_line) := ⟨rfl, rfl, rfl, by decide +kernel, rfl, by decide +kernel, by decide +kernel⟩

theorem ok_u_tightest_line (T : Txt K mg) : FnOk P w K mg base CX0 4 T.f_u_tightest_line T.d_u_tightest_line [Str.ofString "table", Str.ofString "told", Str.ofString "column"] (spD K 3 F_u_tightest_line) := by
  unfold F_u_tightest_line
  refine def_ok' s_u_tightest_line [Str.ofString "table", Str.ofString "told", Str.ofString "column", Str.ofString "best", Str.ofString "bound", Str.ofString "line", Str.ofString "place", Str.ofString "entry", Str.ofString "reach"] [Str.ofString "table", Str.ofString "told", Str.ofString "column"] 3 9 3 g_u_tightest_line T.fun_u_tightest_line sc_u_tightest_line rfl rfl fun cdv A outer s H E hr => ?_
  have hu := hr.units
  have h5 := hr.units5
  exact (dss_cons (ds_set 3 sc_u_tightest_line.nd de_non)
      (dss_cons (ds_set 4 sc_u_tightest_line.nd de_non)
      (dss_cons (ds_for PassesOwn.never rfl (di_enumA (by rfl) T.n_enumerate (de_var 1 (pv 1))) (dg_tup 2 rfl (dgs_cons (dg_name 5 sc_u_tightest_line.nd) (dgs_cons (dg_name 6 sc_u_tightest_line.nd) dgs_nil)) (bCons_len (bCons_len bNil_len)))
      (dss_cons (ds_set 7 sc_u_tightest_line.nd (de_ixA hu (db_of (de_ixA hu (db_var 0 (pv 0)) (db_var 5 (pv 5)))) (db_var 2 (pv 2))))
      (dss_cons (ds_if (dt_not (dt_val (de_call (ok_is_less T) (hr.mono (by decide)) (by rfl) T.m_is_less T.fun_is_less.kp T.b_is_less (da_cons (de_glob (pe_glob (v := L2.V.ref T.a_ZERO) rfl T.m_ZERO rfl) (fun _ => T.r_ZERO _)) (da_cons (de_var 7 (pv 7)) da_nil))))) (dss_one ds_cnt) dss_nil)
      (dss_cons (ds_set 8 sc_u_tightest_line.nd (de_call (ok_over T) (hr.mono (by decide)) (by rfl) T.m_over T.fun_over.kp T.b_over (da_cons (de_ixA hu (db_of (de_ixA hu (db_var 0 (pv 0)) (db_var 5 (pv 5)))) (db_of (de_neg (db_of de_int)))) (da_cons (de_var 7 (pv 7)) da_nil))))
      (dss_one (ds_if (dt_w (dw_or (dt_cmp od_isN (db_var 3 (pv 3)) (db_of de_non) (nomark _)) (dw_or (dt_val (de_call (ok_is_less T) (hr.mono (by decide)) (by rfl) T.m_is_less T.fun_is_less.kp T.b_is_less (da_cons (de_var 8 (pv 8)) (da_cons (de_var 4 (pv 4)) da_nil)))) (dw_or1 (dt_w (dw_and (dt_cmp (od_eqA h5) (db_var 8 (pv 8)) (db_var 4 (pv 4)) (nomark _)) (dw_and1 (dt_cmp od_lt (db_var 6 (pv 6)) (db_of (de_ixA hu (db_var 1 (pv 1)) (db_var 3 (pv 3)))) (nomark _))))))))) (dss_cons (ds_set 3 sc_u_tightest_line.nd (de_var 5 (pv 5)))
      (dss_one (ds_set 4 sc_u_tightest_line.nd (de_var 8 (pv 8))))) dss_nil))))))
      (dss_one (ds_ret (de_var 3 (pv 3)))))))

abbrev s_u_weights : Stmt := topS 24
theorem sc_u_weights : FnScope [Str.ofString "table", Str.ofString "told", Str.ofString "many", Str.ofString "weights", Str.ofString "line", Str.ofString "place"] [Str.ofString "table", Str.ofString "told", Str.ofString "many"] (defScope s_u_weights) := ⟨rfl, rfl, rfl, by decide +kernel, rfl, by decide +kernel, by decide +kernel⟩

theorem ok_u_weights (T : Txt K mg) : FnOk P w K mg base CX0 1 T.f_u_weights T.d_u_weights [Str.ofString "table", Str.ofString "told", Str.ofString "many"] (spD K 3 F_u_weights) := by
  unfold F_u_weights
  refine def_ok' s_u_weights [Str.ofString "table", Str.ofString "told", Str.ofString "many", Str.ofString "weights", Str.ofString "line", Str.ofString "place"] [Str.ofString "table", Str.ofString "told", Str.ofString "many"] 0 6 3 g_u_weights T.fun_u_weights sc_u_weights rfl rfl fun cdv A outer s H E hr => ?_
  have hu := hr.units
  have h5 := hr.units5
  exact (dss_cons (ds_setF 3 sc_u_weights.nd (df_op of_rep (db_of (de_of (df_lst (da_cons (de_glob (pe_glob (v := L2.V.ref T.a_ZERO) rfl T.m_ZERO rfl) (fun _ => T.r_ZERO _)) da_nil)))) (db_var 2 (pv 2))))
      (dss_cons (ds_for PassesOwn.never rfl (di_enumA (by rfl) T.n_enumerate (de_var 1 (pv 1))) (dg_tup 2 rfl (dgs_cons (dg_name 4 sc_u_weights.nd) (dgs_cons (dg_name 5 sc_u_weights.nd) dgs_nil)) (bCons_len (bCons_len bNil_len)))
      (dss_one (ds_if (dt_cmp od_lt (db_var 5 (pv 5)) (db_var 2 (pv 2)) (nomark _)) (dss_one (ds_setA hu 3 (pv 3) (de_var 5 (pv 5)) (de_ixA hu (db_of (de_ixA hu (db_var 0 (pv 0)) (db_var 4 (pv 4)))) (db_of (de_neg (db_of de_int)))) (ps_asg (de_ixA hu (db_of (de_ixA hu (db_var 0 (pv 0)) (db_var 4 (pv 4)))) (db_of (de_neg (db_of de_int)))) (pg_sub (pv 3) (de_var 5 (pv 5)) set_list)) (ps_asg (de_ixA hu (db_of (de_ixA hu (db_var 0 (pv 0)) (db_var 4 (pv 4)))) (db_of (de_neg (db_of de_int)))) (pg_sub (pv 3) (de_var 5 (pv 5)) (set_tab hu))))) dss_nil)))
      (dss_one (ds_frz 3 (ds_ret (de_var 3 (pv 3)))))))

abbrev s_cheapest : Stmt := topS 19
theorem sc_cheapest : FnScope [Str.ofString "costs", Str.ofString "rows", Str.ofString "needs", Str.ofString "table", Str.ofString "many", Str.ofString "told", Str.ofString "column", Str.ofString "line", Str.ofString "k", Str.ofString "entry"] [Str.ofString "costs", Str.ofString "rows", Str.ofString "needs"] (defScope s_cheapest) := ⟨rfl, rfl, rfl, by decide +kernel, rfl, by decide +kernel, by decide +kernel⟩

theorem ok_cheapest (T : Txt K mg) : FnOk P w K mg base CX0 5 T.f_cheapest T.d_cheapest [Str.ofString "costs", Str.ofString "rows", Str.ofString "needs"] (spD K 3 F_cheapest) := by
  unfold F_cheapest
  refine def_ok' s_cheapest [Str.ofString "costs", Str.ofString "rows", Str.ofString "needs", Str.ofString "table", Str.ofString "many", Str.ofString "told", Str.ofString "column", Str.ofString "line", Str.ofString "k", Str.ofString "entry"] [Str.ofString "costs", Str.ofString "rows", Str.ofString "needs"] 4 10 3 g_cheapest T.fun_cheapest sc_cheapest rfl rfl fun cdv A outer s H E hr => ?_
  have hu := hr.units
  have h5 := hr.units5
  exact (dss_cons (ds_set 3 sc_cheapest.nd (de_call (ok_u_first_table T) (hr.mono (by decide)) (by rfl) T.m_u_first_table T.fun_u_first_table.kp T.b_u_first_table (da_cons (de_var 0 (pv 0)) (da_cons (de_var 1 (pv 1)) (da_cons (de_var 2 (pv 2)) da_nil)))))
      (dss_cons (ds_set 4 sc_cheapest.nd (de_callB cd_lenA (by rfl) T.n_len (by decide +kernel) (dab_cons (db_var 1 (pv 1)) dab_nil)))
      (dss_cons (ds_setLc 5 [(Str.ofString "k", 8)] rfl sc_cheapest.nd rfl rfl (sw_true rfl rfl rfl (by decide +kernel)) (di_range1 (by rfl) T.n_range (de_callB cd_lenA (by rfl) T.n_len (by decide +kernel) (dab_cons (db_var 0 (pv 0)) dab_nil))) (blkOk_by (by kernel_rfl)) (fun _ _ _ _ _ => (dg_name 8 sc_cheapest.nd)) (fun _ _ _ _ _ => dts_nil) (fun _ _ _ _ _ => (de_op od_addA (db_var 4 (pv 4)) (db_var 8 (pv 8)))))
      (dss_one (ds_while (fun _ => 100) PassesOwn.never (dt_val de_bl) (dss_cons (ds_set 6 sc_cheapest.nd (de_call (ok_u_rising_column T) (hr.mono (by decide)) (by rfl) T.m_u_rising_column T.fun_u_rising_column.kp T.b_u_rising_column (da_cons (de_ixA hu (db_var 3 (pv 3)) (db_of (de_neg (db_of de_int)))) da_nil)))
      (dss_cons (ds_if (dt_cmp od_isN (db_var 6 (pv 6)) (db_of de_non) (nomark _)) (dss_one (ds_frz 5 (ds_ret (de_tup (da_cons (de_of (df_lc [(Str.ofString "entry", 9)] rfl sc_cheapest.nd (di_A (de_slA (db_of (de_ixA hu (db_var 3 (pv 3)) (db_of (de_neg (db_of de_int))))) (do_some (de_var 4 (pv 4))) (do_some (de_neg (db_of de_int))))) (blkOk_by (by kernel_rfl)) (fun _ _ _ _ _ => (dg_name 9 sc_cheapest.nd)) (fun _ _ _ _ _ => dts_nil) (fun _ _ _ _ _ => (de_call (ok_negative T) (hr.mono (by decide)) (by rfl) T.m_negative T.fun_negative.kp T.b_negative (da_cons (de_var 9 (pv 9)) da_nil))))) (da_cons (de_call (ok_u_weights T) (hr.mono (by decide)) (by rfl) T.m_u_weights T.fun_u_weights.kp T.b_u_weights (da_cons (de_var 3 (pv 3)) (da_cons (de_var 5 (pv 5)) (da_cons (de_var 4 (pv 4)) da_nil)))) da_nil)))))) dss_nil)
      (dss_cons (ds_set 7 sc_cheapest.nd (de_lend 5 (de_call (ok_u_tightest_line T) (hr.mono (by decide)) (by rfl) T.m_u_tightest_line T.fun_u_tightest_line.kp T.b_u_tightest_line (da_cons (de_var 3 (pv 3)) (da_cons (de_var 5 (pv 5)) (da_cons (de_var 6 (pv 6)) da_nil))))))
      (dss_cons (ds_if (dt_cmp od_isN (db_var 7 (pv 7)) (db_of de_non) (nomark _)) (dss_one (ds_frz 5 (ds_ret (de_tup (da_cons de_non (da_cons (de_call (ok_u_endless_weights T) (hr.mono (by decide)) (by rfl) T.m_u_endless_weights T.fun_u_endless_weights.kp T.b_u_endless_weights (da_cons (de_var 3 (pv 3)) (da_cons (de_var 5 (pv 5)) (da_cons (de_var 4 (pv 4)) (da_cons (de_var 6 (pv 6)) da_nil))))) da_nil)))))) dss_nil)
      (dss_cons (ds_set 3 sc_cheapest.nd (de_call (ok_u_pivoted T) (hr.mono (by decide)) (by rfl) T.m_u_pivoted T.fun_u_pivoted.kp T.b_u_pivoted (da_cons (de_var 3 (pv 3)) (da_cons (de_var 7 (pv 7)) (da_cons (de_var 6 (pv 6)) da_nil)))))
      (dss_one (ds_setA hu 5 (pv 5) (de_var 7 (pv 7)) (de_var 6 (pv 6)) (ps_asg (de_var 6 (pv 6)) (pg_sub (pv 5) (de_var 7 (pv 7)) set_list)) (ps_asg (de_var 6 (pv 6)) (pg_sub (pv 5) (de_var 7 (pv 7)) (set_tab hu)))))))))))))))

abbrev s_least_amounts : Stmt := topS 27
theorem sc_least_amounts : FnScope [Str.ofString "views", Str.ofString "efforts", Str.ofString "work", Str.ofString "others", Str.ofString "rows", Str.ofString "needs", Str.ofString "amounts", Str.ofString "weights", Str.ofString "proof", Str.ofString "whole", Str.ofString "other", Str.ofString "weight"] [Str.ofString "views", Str.ofString "efforts", Str.ofString "work"] (defScope s_least_amounts) := ⟨rfl, rfl, rfl, by decide +kernel, rfl, by decide +kernel, by decide +kernel⟩

theorem ok_least_amounts (T : Txt K mg) : FnOk P w K mg base CX0 6 T.f_least_amounts T.d_least_amounts [Str.ofString "views", Str.ofString "efforts", Str.ofString "work"] (spD K 3 F_least_amounts) := by
  unfold F_least_amounts
  refine def_ok' s_least_amounts [Str.ofString "views", Str.ofString "efforts", Str.ofString "work", Str.ofString "others", Str.ofString "rows", Str.ofString "needs", Str.ofString "amounts", Str.ofString "weights", Str.ofString "proof", Str.ofString "whole", Str.ofString "other", Str.ofString "weight"] [Str.ofString "views", Str.ofString "efforts", Str.ofString "work"] 5 12 3 g_least_amounts T.fun_least_amounts sc_least_amounts rfl rfl fun cdv A outer s H E hr => ?_
  have hu := hr.units
  have h5 := hr.units5
  exact (dss_cons (ds_set 3 sc_least_amounts.nd (de_op od_addA (db_of (de_of (df_lst (da_cons de_non da_nil)))) (db_of (de_of (df_lc [(Str.ofString "other", 10)] rfl sc_least_amounts.nd (di_range1 (by rfl) T.n_range (de_callB cd_lenA (by rfl) T.n_len (by decide +kernel) (dab_cons (db_var 0 (pv 0)) dab_nil))) (blkOk_by (by kernel_rfl)) (fun _ _ _ _ _ => (dg_name 10 sc_least_amounts.nd)) (fun _ _ _ _ _ => (dts_one (dt_cmp (od_neA h5) (db_var 10 (pv 10)) (db_var 2 (pv 2)) (nomark _)))) (fun _ _ _ _ _ => (de_var 10 (pv 10))))))))
      (dss_cons (ds_setLcE 4 [(Str.ofString "other", 10)] rfl sc_least_amounts.nd rfl rfl (sw_true rfl rfl rfl (by decide +kernel)) (di_A (de_var 3 (pv 3))) (blkOk_by (by kernel_rfl)) (fun _ _ _ _ _ => (dg_name 10 sc_least_amounts.nd)) (fun _ _ _ _ _ => dts_nil) (fun _ _ _ _ _ => (de_call (ok_u_differences T) (hr.mono (by decide)) (by rfl) T.m_u_differences T.fun_u_differences.kp T.b_u_differences (da_cons (de_var 0 (pv 0)) (da_cons (de_var 2 (pv 2)) (da_cons (de_var 10 (pv 10)) da_nil))))))
      (dss_cons (ds_setLcE 5 [(Str.ofString "other", 10)] rfl sc_least_amounts.nd rfl rfl (sw_true rfl rfl rfl (by decide +kernel)) (di_A (de_var 3 (pv 3))) (blkOk_by (by kernel_rfl)) (fun _ _ _ _ _ => (dg_name 10 sc_least_amounts.nd)) (fun _ _ _ _ _ => dts_nil) (fun _ _ _ _ _ => (de_call (ok_u_effort_difference T) (hr.mono (by decide)) (by rfl) T.m_u_effort_difference T.fun_u_effort_difference.kp T.b_u_effort_difference (da_cons (de_var 1 (pv 1)) (da_cons (de_var 2 (pv 2)) (da_cons (de_var 10 (pv 10)) da_nil))))))
      (dss_cons (ds_asg (de_call (ok_cheapest T) (hr.mono (by decide)) (by rfl) T.m_cheapest T.fun_cheapest.kp T.b_cheapest (da_cons (de_ixA hu (db_var 0 (pv 0)) (db_var 2 (pv 2))) (da_cons (de_var 4 (pv 4)) (da_cons (de_var 5 (pv 5)) da_nil)))) (dg_tup 2 rfl (dgs_cons (dg_name 6 sc_least_amounts.nd) (dgs_cons (dg_name 7 sc_least_amounts.nd) dgs_nil)) (bCons_len (bCons_len bNil_len))))
      (dss_cons (ds_setDc 8 [(Str.ofString "other", 10), (Str.ofString "weight", 11)] hu rfl sc_least_amounts.nd rfl rfl (DK.sw_dc rfl rfl rfl (by decide +kernel)) (di_zipX (by rfl) T.n_zip (de_var 3 (pv 3)) (de_var 7 (pv 7))) (blkOk_by (by kernel_rfl)) (fun _ _ _ _ _ => (dg_tup 2 rfl (dgs_cons (dg_name 10 sc_least_amounts.nd) (dgs_cons (dg_name 11 sc_least_amounts.nd) dgs_nil)) (bCons_len (bCons_len bNil_len)))) (fun _ _ _ _ _ => (dts_one (dt_cmp (od_neA h5) (db_var 11 (pv 11)) (db_of (de_glob (pe_glob (v := L2.V.ref T.a_ZERO) rfl T.m_ZERO rfl) (fun _ => T.r_ZERO _))) (nomark _)))) (fun _ _ _ _ _ => (de_var 10 (pv 10))) (fun _ _ _ _ _ => (de_var 11 (pv 11))))
      (dss_cons (ds_if (dt_cmp od_notN (db_var 6 (pv 6)) (db_of de_non) (nomark _)) (dss_one (ds_ret (de_tup (da_cons (de_var 6 (pv 6)) (da_cons (de_var 8 (pv 8)) da_nil))))) dss_nil)
      (dss_cons (ds_set 9 sc_least_amounts.nd (de_call (ok_total T) (hr.mono (by decide)) (by rfl) T.m_total T.fun_total.kp T.b_total (da_cons (de_of (df_vals rfl (by rfl) T.n_list (de_var 8 (pv 8)))) da_nil)))
      (dss_one (ds_ret (de_tup (da_cons de_non (da_cons (de_of (df_dc [(Str.ofString "other", 10), (Str.ofString "weight", 11)] hu rfl sc_least_amounts.nd (di_itemsD (de_var 8 (pv 8))) (blkOk_by (by kernel_rfl)) (fun _ _ _ _ _ => (dg_tup 2 rfl (dgs_cons (dg_name 10 sc_least_amounts.nd) (dgs_cons (dg_name 11 sc_least_amounts.nd) dgs_nil)) (bCons_len (bCons_len bNil_len)))) (fun _ _ _ _ _ => dts_nil) (fun _ _ _ _ _ => (de_var 10 (pv 10))) (fun _ _ _ _ _ => (de_call (ok_over T) (hr.mono (by decide)) (by rfl) T.m_over T.fun_over.kp T.b_over (da_cons (de_var 11 (pv 11)) (da_cons (de_var 9 (pv 9)) da_nil)))))) da_nil))))))))))))

abbrev s_least_pay : Stmt := topS 65
theorem sc_least_pay : FnScope [Str.ofString "job", Str.ofString "work", Str.ofString "rising", Str.ofString "amounts", Str.ofString "proof"] [Str.ofString "job", Str.ofString "work", Str.ofString "rising"] (defScope s_least_pay) := ⟨rfl, rfl, rfl, by decide +kernel, rfl, by decide +kernel, by decide +kernel⟩

theorem ok_least_pay (T : Txt K mg) : FnOk P w K mg base CX0 7 T.f_least_pay T.d_least_pay [Str.ofString "job", Str.ofString "work", Str.ofString "rising"] (spD K 3 F_least_pay) := by
  unfold F_least_pay
  refine defK_ok s_least_pay [Str.ofString "job", Str.ofString "work", Str.ofString "rising", Str.ofString "amounts", Str.ofString "proof"] [Str.ofString "job", Str.ofString "work", Str.ofString "rising"] 6 5 3 g_least_pay T.fun_least_pay sc_least_pay rfl rfl fun cdv A outer s H E hr => ?_
  have hu := hr.units
  have h5 := hr.units5
  exact (dss_cons (ds_expr (de_call (ok_check_job T) (hr.mono (by decide)) (by rfl) T.m_check_job T.fun_check_job.kp T.b_check_job (da_cons (de_var 0 (pv 0)) da_nil)))
      (dss_cons (ds_expr (de_call (ok_check_work T) (hr.mono (by decide)) (by rfl) T.m_check_work T.fun_check_work.kp T.b_check_work (da_cons (de_var 0 (pv 0)) (da_cons (de_var 1 (pv 1)) da_nil))))
      (dss_cons (ds_asg (de_call (ok_least_amounts T) (hr.mono (by decide)) (by rfl) T.m_least_amounts T.fun_least_amounts.kp T.b_least_amounts (da_cons (de_call (ok_u_views T) (hr.mono (by decide)) (by rfl) T.m_u_views T.fun_u_views.kp T.b_u_views (da_cons (de_var 0 (pv 0)) (da_cons (de_var 2 (pv 2)) da_nil))) (da_cons (de_call (ok_work_efforts T) (hr.mono (by decide)) (by rfl) T.m_work_efforts T.fun_work_efforts.kp T.b_work_efforts (da_cons (de_var 0 (pv 0)) da_nil)) (da_cons (de_var 1 (pv 1)) da_nil)))) (dg_tup 2 rfl (dgs_cons (dg_name 3 sc_least_pay.nd) (dgs_cons (dg_name 4 sc_least_pay.nd) dgs_nil)) (bCons_len (bCons_len bNil_len))))
      (dss_cons (ds_if (dt_cmp od_isN (db_var 3 (pv 3)) (db_of de_non) (nomark _)) (dss_one (ds_ret (de_make T.mk_Barred (ok_BarredD_initD T) (hr.mono (by decide)) (by rfl) T.mc_Barred T.b_BarredD_initD (da_cons (de_var 4 (pv 4)) da_nil)))) dss_nil)
      (dss_one (ds_ret (de_make T.mk_Enough (ok_EnoughD_initD T) (hr.mono (by decide)) (by rfl) T.mc_Enough T.b_EnoughD_initD (da_cons (de_callTy cd_tuple (by rfl) T.n_tuple (by decide +kernel) (dab_cons (db_of (de_if (dt_tru (db_var 2 (pv 2))) (de_call (ok_u_sums T) (hr.mono (by decide)) (by rfl) T.m_u_sums T.fun_u_sums.kp T.b_u_sums (da_cons (de_var 3 (pv 3)) da_nil)) (de_var 3 (pv 3)))) dab_nil)) (da_cons (de_var 4 (pv 4)) da_nil)))))))))

abbrev s_pay_cost : Stmt := topS 66
theorem sc_pay_cost : FnScope [Str.ofString "job", Str.ofString "work", Str.ofString "rising", Str.ofString "found"] [Str.ofString "job", Str.ofString "work", Str.ofString "rising"] (defScope s_pay_cost) := ⟨rfl, rfl, rfl, by decide +kernel, rfl, by decide +kernel, by decide +kernel⟩

theorem ok_pay_cost (T : Txt K mg) : FnOk P w K mg base CX0 8 T.f_pay_cost T.d_pay_cost [Str.ofString "job", Str.ofString "work", Str.ofString "rising"] (spD K 3 F_pay_cost) := by
  unfold F_pay_cost
  refine defK_ok s_pay_cost [Str.ofString "job", Str.ofString "work", Str.ofString "rising", Str.ofString "found"] [Str.ofString "job", Str.ofString "work", Str.ofString "rising"] 7 4 3 g_pay_cost T.fun_pay_cost sc_pay_cost rfl rfl fun cdv A outer s H E hr => ?_
  have hu := hr.units
  have h5 := hr.units5
  exact (dss_cons (ds_set 3 sc_pay_cost.nd (de_callK (ok_least_pay T) (hr.mono (by decide)) (by rfl) T.m_least_pay T.fun_least_pay.kp T.kb_least_pay (da_cons (de_var 0 (pv 0)) (da_cons (de_var 1 (pv 1)) da_nil)) (dk_cons (de_var 2 (pv 2)) dk_nil) rfl rfl))
      (dss_cons (ds_if (dt_val (de_isC T.isa_Barred (by rfl) T.n_isinstance (by decide +kernel) (de_var 3 (pv 3)) (pe_glob (by rfl) T.mc_Barred rfl))) (dss_one (ds_ret de_non)) dss_nil)
      (dss_one (ds_ret (de_call (ok_average_pay T) (hr.mono (by decide)) (by rfl) T.m_average_pay T.fun_average_pay.kp T.b_average_pay (da_cons (de_var 0 (pv 0)) (da_cons (de_var 1 (pv 1)) (da_cons (de_fld T.at_pay (de_var 3 (pv 3))) da_nil))))))))

theorem mt_shows_2 (T : Txt K mg) : MthD P w K mg base 8 (Str.ofString "shows") 2 [(.bl false)] [(1, F_Enough_shows), (2, F_Barred_shows)] := (.cons (dvs := [(V.bl false)]) (.cons (dvs := [(V.bl false)]) MthD.nil (by decide) T.cl_Barred T.me_Barred_shows (ok_Barred_shows T) (fun _ => (.cons (.bl _) .nil)) T.db_Barred_shows) (by decide) T.cl_Enough T.me_Enough_shows (ok_Enough_shows T) (fun _ => (.cons (.bl _) .nil)) T.db_Enough_shows)

theorem mt_shows_2K (T : Txt K mg) : MthK P w K mg base 8 (Str.ofString "shows") 2 [Str.ofString "rising"] [(1, F_Enough_shows), (2, F_Barred_shows)] := (.cons (.cons MthK.nil (by decide) T.cl_Barred T.me_Barred_shows (ok_Barred_shows T) T.kb_Barred_shows) (by decide) T.cl_Enough T.me_Enough_shows (ok_Enough_shows T) T.kb_Enough_shows)

abbrev s_u_law_bars_right : Stmt := topS 91
theorem sc_u_law_bars_right : FnScope [Str.ofString "cell", Str.ofString "job", Str.ofString "rows", Str.ofString "mix", Str.ofString "due", Str.ofString "other", Str.ofString "even"] [Str.ofString "cell"] (defScope s_u_law_bars_right) := ⟨rfl, rfl, rfl, by decide +kernel, rfl, by decide +kernel, by decide +kernel⟩

theorem ok_u_law_bars_right (T : Txt K mg) : FnOk P w K mg base CX0 9 T.f_u_law_bars_right T.d_u_law_bars_right [Str.ofString "cell"] (spD K 1 F_u_law_bars_right) := by
  unfold F_u_law_bars_right
  refine def_ok' s_u_law_bars_right [Str.ofString "cell", Str.ofString "job", Str.ofString "rows", Str.ofString "mix", Str.ofString "due", Str.ofString "other", Str.ofString "even"] [Str.ofString "cell"] 8 7 1 g_u_law_bars_right T.fun_u_law_bars_right sc_u_law_bars_right rfl rfl fun cdv A outer s H E hr => ?_
  have hu := hr.units
  have h5 := hr.units5
  exact (dss_cons (ds_set 1 sc_u_law_bars_right.nd (de_call0 (ok_u_law_blend T) (hr.mono (by decide)) (by rfl) T.m_u_law_blend T.fun_u_law_blend.kp T.b_u_law_blend))
      (dss_cons (ds_if (dt_w (dw_or (dt_cmp od_notN (db_of (de_callD (dvs := [(V.bl false)]) (ok_pay_cost T) (hr.mono (by decide)) (by rfl) T.m_pay_cost T.fun_pay_cost.kp T.db_pay_cost (da_cons (de_var 1 (pv 1)) (da_cons de_int da_nil)) rfl rfl (fun _ => (.cons (.bl _) .nil)))) (db_of de_non) (nomark _)) (dw_or1 (dt_cmp (od_neA h5) (db_of (de_callD (dvs := [(V.bl false)]) (ok_pay_cost T) (hr.mono (by decide)) (by rfl) T.m_pay_cost T.fun_pay_cost.kp T.db_pay_cost (da_cons (de_var 1 (pv 1)) (da_cons de_int da_nil)) rfl rfl (fun _ => (.cons (.bl _) .nil)))) (db_of (de_tup (da_cons de_int (da_cons de_int da_nil)))) (nomark _))))) (dss_one (ds_ret de_bl)) dss_nil)
      (dss_cons (ds_if (dt_w (dw_or (dt_cmp (od_neA h5) (db_of (de_callD (dvs := [(V.bl false)]) (ok_pay_cost T) (hr.mono (by decide)) (by rfl) T.m_pay_cost T.fun_pay_cost.kp T.db_pay_cost (da_cons (de_var 1 (pv 1)) (da_cons de_int da_nil)) rfl rfl (fun _ => (.cons (.bl _) .nil)))) (db_of (de_tup (da_cons de_int (da_cons de_int da_nil)))) (nomark _)) (dw_or1 (dt_cmp (od_neA h5) (db_of (de_fld T.at_mix (de_callD (dvs := [(V.bl false)]) (ok_least_pay T) (hr.mono (by decide)) (by rfl) T.m_least_pay T.fun_least_pay.kp T.db_least_pay (da_cons (de_var 1 (pv 1)) (da_cons de_int da_nil)) rfl rfl (fun _ => (.cons (.bl _) .nil))))) (db_of (de_of (df_disp hu (dps_cons de_int (de_tup (da_cons de_int (da_cons de_int da_nil))) (dps_cons de_int (de_tup (da_cons de_int (da_cons de_int da_nil))) dps_nil))))) (nomark _))))) (dss_one (ds_ret de_bl)) dss_nil)
      (dss_cons (ds_set 2 sc_u_law_bars_right.nd (de_of (df_lst (da_cons (de_tup (da_cons (de_of (df_disp hu (dps_cons de_int (de_tup (da_cons de_int (da_cons de_int da_nil))) (dps_cons de_int (de_tup (da_cons de_int (da_cons de_int da_nil))) dps_nil)))) (da_cons de_bl (da_cons de_bl da_nil)))) (da_cons (de_tup (da_cons (de_of (df_disp hu (dps_cons de_int (de_tup (da_cons de_int (da_cons de_int da_nil))) dps_nil))) (da_cons de_bl (da_cons de_bl da_nil)))) da_nil)))))
      (dss_cons (ds_set 2 sc_u_law_bars_right.nd (de_op od_addA (db_var 2 (pv 2)) (db_of (de_of (df_lst (da_cons (de_tup (da_cons (de_of (df_disp hu (dps_cons de_int (de_tup (da_cons de_int (da_cons de_int da_nil))) dps_nil))) (da_cons de_bl (da_cons de_bl da_nil)))) (da_cons (de_tup (da_cons (de_of (df_disp hu (dps_cons de_int (de_tup (da_cons de_int (da_cons de_int da_nil))) (dps_cons de_int (de_tup (da_cons de_int (da_cons de_int da_nil))) dps_nil)))) (da_cons de_bl (da_cons de_bl da_nil)))) da_nil)))))))
      (dss_cons (ds_set 2 sc_u_law_bars_right.nd (de_op od_addA (db_var 2 (pv 2)) (db_of (de_of (df_lst (da_cons (de_tup (da_cons (de_of df_dic0) (da_cons de_bl (da_cons de_bl da_nil)))) (da_cons (de_tup (da_cons (de_of (df_disp hu (dps_cons de_int (de_tup (da_cons de_int (da_cons de_int da_nil))) dps_nil))) (da_cons de_bl (da_cons de_bl da_nil)))) da_nil)))))))
      (dss_cons (ds_set 2 sc_u_law_bars_right.nd (de_op od_addA (db_var 2 (pv 2)) (db_of (de_of (df_lst (da_cons (de_tup (da_cons (de_of (df_disp hu (dps_cons de_int (de_tup (da_cons de_int (da_cons de_int da_nil))) dps_nil))) (da_cons de_bl (da_cons de_bl da_nil)))) (da_cons (de_tup (da_cons (de_of (df_disp hu (dps_cons de_int (de_tup (da_cons de_int (da_cons de_int da_nil))) (dps_cons de_int (de_tup (da_cons de_int (da_cons de_int da_nil))) (dps_cons de_int (de_tup (da_cons de_int (da_cons de_int da_nil))) dps_nil))))) (da_cons de_bl (da_cons de_bl da_nil)))) da_nil)))))))
      (dss_cons (ds_set 2 sc_u_law_bars_right.nd (de_op od_addA (db_var 2 (pv 2)) (db_of (de_of (df_lst (da_cons (de_tup (da_cons (de_of (df_disp hu (dps_cons de_int (de_tup (da_cons (de_neg (db_of de_int)) (da_cons de_int da_nil))) (dps_cons de_int (de_tup (da_cons de_int (da_cons de_int da_nil))) dps_nil)))) (da_cons de_bl (da_cons de_bl da_nil)))) (da_cons (de_tup (da_cons (de_of (df_disp hu (dps_cons de_int (de_tup (da_cons de_int (da_cons de_int da_nil))) (dps_cons de_int (de_tup (da_cons de_int (da_cons de_int da_nil))) dps_nil)))) (da_cons de_bl (da_cons de_bl da_nil)))) da_nil)))))))
      (dss_cons (ds_set 2 sc_u_law_bars_right.nd (de_op od_addA (db_var 2 (pv 2)) (db_of (de_of (df_lst (da_cons (de_tup (da_cons (de_of (df_disp hu (dps_cons (de_neg (db_of de_int)) (de_tup (da_cons de_int (da_cons de_int da_nil))) dps_nil))) (da_cons de_bl (da_cons de_bl da_nil)))) da_nil))))))
      (dss_cons (ds_for PassesOwn.never rfl (di_A (de_var 2 (pv 2))) (dg_tup 3 rfl (dgs_cons (dg_name 3 sc_u_law_bars_right.nd) (dgs_cons (dg_name 4 sc_u_law_bars_right.nd) (dgs_cons (dg_name 5 sc_u_law_bars_right.nd) dgs_nil))) (bCons_len (bCons_len (bCons_len bNil_len))))
      (dss_one (ds_if (dt_w (dw_or (dt_cmp (od_neA h5) (db_of (de_mth (mt_shows_2 T) (hr.mono (by decide)) (de_make T.mk_Barred (ok_BarredD_initD T) (hr.mono (by decide)) (by rfl) T.mc_Barred T.b_BarredD_initD (da_cons (de_var 3 (pv 3)) da_nil)) (da_cons (de_var 1 (pv 1)) (da_cons de_int da_nil)))) (db_var 4 (pv 4)) (nomark _)) (dw_or1 (dt_cmp (od_neA h5) (db_of (de_mthK (mt_shows_2K T) (hr.mono (by decide)) (de_make T.mk_Barred (ok_BarredD_initD T) (hr.mono (by decide)) (by rfl) T.mc_Barred T.b_BarredD_initD (da_cons (de_var 3 (pv 3)) da_nil)) (da_cons (de_var 1 (pv 1)) (da_cons de_int da_nil)) (dk_cons de_bl dk_nil) rfl)) (db_var 5 (pv 5)) (nomark _))))) (dss_one (ds_ret de_bl)) dss_nil)))
      (dss_cons (ds_set 6 sc_u_law_bars_right.nd (de_make T.mk_Job (ok_JobD_initD T) (hr.mono (by decide)) (by rfl) T.mc_Job T.b_JobD_initD (da_cons (de_tup (da_cons de_int (da_cons de_int da_nil))) (da_cons (de_tup (da_cons (de_tup (da_cons de_int (da_cons (de_tup (da_cons de_int (da_cons de_int da_nil))) da_nil))) (da_cons (de_tup (da_cons de_int (da_cons (de_tup (da_cons de_int (da_cons de_int da_nil))) da_nil))) (da_cons (de_tup (da_cons de_int (da_cons (de_tup (da_cons de_int (da_cons de_int da_nil))) da_nil))) da_nil)))) da_nil))))
      (dss_cons (ds_if (dt_w (dw_or (dt_val (de_mth (mt_shows_2 T) (hr.mono (by decide)) (de_make T.mk_Barred (ok_BarredD_initD T) (hr.mono (by decide)) (by rfl) T.mc_Barred T.b_BarredD_initD (da_cons (de_of (df_disp hu (dps_cons de_int (de_tup (da_cons de_int (da_cons de_int da_nil))) dps_nil))) da_nil)) (da_cons (de_var 6 (pv 6)) (da_cons de_int da_nil)))) (dw_or1 (dt_cmp (od_neA h5) (db_of (de_callD (dvs := [(V.bl false)]) (ok_pay_cost T) (hr.mono (by decide)) (by rfl) T.m_pay_cost T.fun_pay_cost.kp T.db_pay_cost (da_cons (de_var 6 (pv 6)) (da_cons de_int da_nil)) rfl rfl (fun _ => (.cons (.bl _) .nil)))) (db_of (de_tup (da_cons de_int (da_cons de_int da_nil)))) (nomark _))))) (dss_one (ds_ret de_bl)) dss_nil)
      (dss_cons (ds_if (dt_cmp od_notN (db_of (de_callK (ok_pay_cost T) (hr.mono (by decide)) (by rfl) T.m_pay_cost T.fun_pay_cost.kp T.kb_pay_cost (da_cons (de_var 6 (pv 6)) (da_cons de_int da_nil)) (dk_cons de_bl dk_nil) rfl rfl)) (db_of de_non) (nomark _)) (dss_one (ds_ret de_bl)) dss_nil)
      (dss_cons (ds_if (dt_not (dt_w (dw_and (dt_val (de_mthK (mt_shows_2K T) (hr.mono (by decide)) (de_make T.mk_Barred (ok_BarredD_initD T) (hr.mono (by decide)) (by rfl) T.mc_Barred T.b_BarredD_initD (da_cons (de_of (df_disp hu (dps_cons de_int (de_tup (da_cons de_int (da_cons de_int da_nil))) dps_nil))) da_nil)) (da_cons (de_var 6 (pv 6)) (da_cons de_int da_nil)) (dk_cons de_bl dk_nil) rfl)) (dw_and1 (dt_not (dt_val (de_mth (mt_shows_2 T) (hr.mono (by decide)) (de_make T.mk_Barred (ok_BarredD_initD T) (hr.mono (by decide)) (by rfl) T.mc_Barred T.b_BarredD_initD (da_cons (de_of (df_disp hu (dps_cons de_int (de_tup (da_cons de_int (da_cons de_int da_nil))) dps_nil))) da_nil)) (da_cons (de_var 6 (pv 6)) (da_cons de_int da_nil))))))))) (dss_one (ds_ret de_bl)) dss_nil)
      (dss_one (ds_ret (de_cmp (od_eqA h5) (db_of (de_callD (dvs := [(V.bl false)]) (ok_pay_cost T) (hr.mono (by decide)) (by rfl) T.m_pay_cost T.fun_pay_cost.kp T.db_pay_cost (da_cons (de_var 6 (pv 6)) (da_cons de_int da_nil)) rfl rfl (fun _ => (.cons (.bl _) .nil)))) (db_of (de_tup (da_cons de_int (da_cons de_int da_nil)))) (nomark _))))))))))))))))))

abbrev s_BestD_initD : Stmt := inClass (topS 71) 0
theorem sc_BestD_initD : FnScope [Str.ofString "self", Str.ofString "work", Str.ofString "needs", Str.ofString "key"] [Str.ofString "self", Str.ofString "work", Str.ofString "needs"] (defScope s_BestD_initD) := ⟨rfl, rfl, rfl, by decide +kernel, rfl, by decide +kernel, by decide +kernel⟩

theorem ok_BestD_initD (T : Txt K mg) : FnOk P w K mg base CX0 1 T.f_BestD_initD T.d_BestD_initD [Str.ofString "self", Str.ofString "work", Str.ofString "needs"] (spI K 3 2 F_BestD_initD) := by
  unfold F_BestD_initD
  refine init_ok s_BestD_initD [Str.ofString "self", Str.ofString "work", Str.ofString "needs", Str.ofString "key"] [Str.ofString "self", Str.ofString "work", Str.ofString "needs"] 0 3 2 g_BestD_initD T.fun_BestD_initD sc_BestD_initD rfl rfl fun cdv A outer s H E hr => ?_
  have hu := hr.units
  have h5 := hr.units5
  exact (din_fld T.cl_Best T.na_Best_work (pv 0) (de_var 1 (pv 1))
      (din_fld T.cl_Best T.na_Best_needs (pv 0) (de_of (df_dc [(Str.ofString "key", 3)] hu rfl sc_BestD_initD.nd (di_A (de_var 2 (pv 2))) (blkOk_by (by kernel_rfl)) (fun _ _ _ _ _ => (dg_name 3 sc_BestD_initD.nd)) (fun _ _ _ _ _ => dts_nil) (fun _ _ _ _ _ => (de_var 3 (pv 3))) (fun _ _ _ _ _ => (de_ixA hu (db_var 2 (pv 2)) (db_var 3 (pv 3))))))
      din_nil))

abbrev s_u_are_needs : Stmt := topS 74
theorem sc_u_are_needs : FnScope [Str.ofString "job", Str.ofString "rising", Str.ofString "needs", Str.ofString "work", Str.ofString "need"] [Str.ofString "job", Str.ofString "rising", Str.ofString "needs"] (defScope s_u_are_needs) := ⟨rfl, rfl, rfl, by decide +kernel, rfl, by decide +kernel, by decide +kernel⟩

theorem ok_u_are_needs (T : Txt K mg) : FnOk P w K mg base CX0 9 T.f_u_are_needs T.d_u_are_needs [Str.ofString "job", Str.ofString "rising", Str.ofString "needs"] (spD K 3 F_u_are_needs) := by
  unfold F_u_are_needs
  refine def_ok' s_u_are_needs [Str.ofString "job", Str.ofString "rising", Str.ofString "needs", Str.ofString "work", Str.ofString "need"] [Str.ofString "job", Str.ofString "rising", Str.ofString "needs"] 8 5 3 g_u_are_needs T.fun_u_are_needs sc_u_are_needs rfl rfl fun cdv A outer s H E hr => ?_
  have hu := hr.units
  have h5 := hr.units5
  exact (dss_cons (ds_if (dt_w (dw_or (dt_cmp (od_neA h5) (db_of (de_callB cd_lenA (by rfl) T.n_len (by decide +kernel) (dab_cons (db_var 2 (pv 2)) dab_nil))) (db_of (de_lenO T.cl_Job T.me_JobD_lenD (ok_JobD_lenD T) (hr.mono (by decide)) T.b_JobD_lenD (by rfl) T.n_len PySem.boot_len (dab_cons (db_var 0 (pv 0)) dab_nil))) (nomark _)) (dw_or1 (dt_not (dt_val (de_callB (cd_all rfl) (by rfl) T.n_all (by decide +kernel) (dab_cons (db_of (de_of (df_lc [(Str.ofString "work", 3)] rfl sc_u_are_needs.nd (di_A (de_var 2 (pv 2))) (blkOk_by (by kernel_rfl)) (fun _ _ _ _ _ => (dg_name 3 sc_u_are_needs.nd)) (fun _ _ _ _ _ => dts_nil) (fun _ _ _ _ _ => (de_call (ok_is_integer_within T) (hr.mono (by decide)) (by rfl) T.m_is_integer_within T.fun_is_integer_within.kp T.b_is_integer_within (da_cons (de_var 3 (pv 3)) (da_cons de_int (da_cons (de_op od_sub (db_of (de_lenO T.cl_Job T.me_JobD_lenD (ok_JobD_lenD T) (hr.mono (by decide)) T.b_JobD_lenD (by rfl) T.n_len PySem.boot_len (dab_cons (db_var 0 (pv 0)) dab_nil))) (db_of de_int)) da_nil)))))))) dab_nil))))))) (dss_one (ds_ret de_bl)) dss_nil)
      (dss_one (ds_ret (de_callB (cd_all rfl) (by rfl) T.n_all (by decide +kernel) (dab_cons (db_of (de_of (df_lc [(Str.ofString "work", 3), (Str.ofString "need", 4)] rfl sc_u_are_needs.nd (di_itemsD (de_var 2 (pv 2))) (blkOk_by (by kernel_rfl)) (fun _ _ _ _ _ => (dg_tup 2 rfl (dgs_cons (dg_name 3 sc_u_are_needs.nd) (dgs_cons (dg_name 4 sc_u_are_needs.nd) dgs_nil)) (bCons_len (bCons_len bNil_len)))) (fun _ _ _ _ _ => dts_nil) (fun _ _ _ _ _ => (de_mthK (mt_shows_2K T) (hr.mono (by decide)) (de_var 4 (pv 4)) (da_cons (de_var 0 (pv 0)) (da_cons (de_var 3 (pv 3)) da_nil)) (dk_cons (de_var 1 (pv 1)) dk_nil) rfl))))) dab_nil)))))

abbrev s_average_worth : Stmt := topS 58
theorem sc_average_worth : FnScope [Str.ofString "job", Str.ofString "work", Str.ofString "worth"] [Str.ofString "job", Str.ofString "work"] (defScope s_average_worth) := ⟨rfl, rfl, rfl, by decide +kernel, rfl, by decide +kernel, by decide +kernel⟩

theorem ok_average_worth (T : Txt K mg) : FnOk P w K mg base CX0 5 T.f_average_worth T.d_average_worth [Str.ofString "job", Str.ofString "work"] (spD K 2 F_average_worth) := by
  unfold F_average_worth
  refine def_ok' s_average_worth [Str.ofString "job", Str.ofString "work", Str.ofString "worth"] [Str.ofString "job", Str.ofString "work"] 4 3 2 g_average_worth T.fun_average_worth sc_average_worth rfl rfl fun cdv A outer s H E hr => ?_
  have hu := hr.units
  have h5 := hr.units5
  exact (dss_one (ds_ret (de_call (ok_weighted T) (hr.mono (by decide)) (by rfl) T.m_weighted T.fun_weighted.kp T.b_weighted (da_cons (de_call (ok_work_chances T) (hr.mono (by decide)) (by rfl) T.m_work_chances T.fun_work_chances.kp T.b_work_chances (da_cons (de_var 0 (pv 0)) (da_cons (de_var 1 (pv 1)) da_nil))) (da_cons (de_of (df_lc [(Str.ofString "worth", 2)] rfl sc_average_worth.nd (di_A (de_prop T.cl_Job T.pr_Job_worths (ok_Job_worths T) (hr.mono (by decide)) T.b_Job_worths (de_var 0 (pv 0)))) (blkOk_by (by kernel_rfl)) (fun _ _ _ _ _ => (dg_name 2 sc_average_worth.nd)) (fun _ _ _ _ _ => dts_nil) (fun _ _ _ _ _ => (de_tup (da_cons (de_var 2 (pv 2)) (da_cons de_int da_nil)))))) da_nil)))))

abbrev s_profit : Stmt := topS 60
theorem sc_profit : FnScope [Str.ofString "job", Str.ofString "work", Str.ofString "pay"] [Str.ofString "job", Str.ofString "work", Str.ofString "pay"] (defScope s_profit) := ⟨rfl, rfl, rfl, by decide +kernel, rfl, by decide +kernel, by decide +kernel⟩

theorem ok_profit (T : Txt K mg) : FnOk P w K mg base CX0 6 T.f_profit T.d_profit [Str.ofString "job", Str.ofString "work", Str.ofString "pay"] (spD K 3 F_profit) := by
  unfold F_profit
  refine def_ok' s_profit [Str.ofString "job", Str.ofString "work", Str.ofString "pay"] [Str.ofString "job", Str.ofString "work", Str.ofString "pay"] 5 3 3 g_profit T.fun_profit sc_profit rfl rfl fun cdv A outer s H E hr => ?_
  have hu := hr.units
  have h5 := hr.units5
  exact (dss_cons (ds_expr (de_call (ok_check_job T) (hr.mono (by decide)) (by rfl) T.m_check_job T.fun_check_job.kp T.b_check_job (da_cons (de_var 0 (pv 0)) da_nil)))
      (dss_cons (ds_expr (de_call (ok_check_work T) (hr.mono (by decide)) (by rfl) T.m_check_work T.fun_check_work.kp T.b_check_work (da_cons (de_var 0 (pv 0)) (da_cons (de_var 1 (pv 1)) da_nil))))
      (dss_cons (ds_expr (de_call (ok_check_pay T) (hr.mono (by decide)) (by rfl) T.m_check_pay T.fun_check_pay.kp T.b_check_pay (da_cons (de_var 0 (pv 0)) (da_cons (de_var 2 (pv 2)) da_nil))))
      (dss_one (ds_ret (de_call (ok_minus T) (hr.mono (by decide)) (by rfl) T.m_minus T.fun_minus.kp T.b_minus (da_cons (de_call (ok_average_worth T) (hr.mono (by decide)) (by rfl) T.m_average_worth T.fun_average_worth.kp T.b_average_worth (da_cons (de_var 0 (pv 0)) (da_cons (de_var 1 (pv 1)) da_nil))) (da_cons (de_call (ok_average_pay T) (hr.mono (by decide)) (by rfl) T.m_average_pay T.fun_average_pay.kp T.b_average_pay (da_cons (de_var 0 (pv 0)) (da_cons (de_var 1 (pv 1)) (da_cons (de_var 2 (pv 2)) da_nil)))) da_nil))))))))

abbrev s_u_best_works : Stmt := topS 75
theorem sc_u_best_works : FnScope [Str.ofString "job", Str.ofString "needs", Str.ofString "profits", Str.ofString "good", Str.ofString "found", Str.ofString "work", Str.ofString "need", Str.ofString "other"] [Str.ofString "job", Str.ofString "needs"] (defScope s_u_best_works) := ⟨rfl, rfl, rfl, by decide +kernel, rfl, by decide +kernel, by decide +kernel⟩

theorem ok_u_best_works (T : Txt K mg) : FnOk P w K mg base CX0 7 T.f_u_best_works T.d_u_best_works [Str.ofString "job", Str.ofString "needs"] (spD K 2 F_u_best_works) := by
  unfold F_u_best_works
  refine def_ok' s_u_best_works [Str.ofString "job", Str.ofString "needs", Str.ofString "profits", Str.ofString "good", Str.ofString "found", Str.ofString "work", Str.ofString "need", Str.ofString "other"] [Str.ofString "job", Str.ofString "needs"] 6 8 2 g_u_best_works T.fun_u_best_works sc_u_best_works rfl rfl fun cdv A outer s H E hr => ?_
  have hu := hr.units
  have h5 := hr.units5
  exact (dss_cons (ds_set 2 sc_u_best_works.nd (de_of (df_dc [(Str.ofString "work", 5), (Str.ofString "need", 6)] hu rfl sc_u_best_works.nd (di_itemsD (de_var 1 (pv 1))) (blkOk_by (by kernel_rfl)) (fun _ _ _ _ _ => (dg_tup 2 rfl (dgs_cons (dg_name 5 sc_u_best_works.nd) (dgs_cons (dg_name 6 sc_u_best_works.nd) dgs_nil)) (bCons_len (bCons_len bNil_len)))) (fun _ _ _ _ _ => (dts_one (dt_not (dt_val (de_isC T.isa_Barred (by rfl) T.n_isinstance (by decide +kernel) (de_var 6 (pv 6)) (pe_glob (by rfl) T.mc_Barred rfl)))))) (fun _ _ _ _ _ => (de_var 5 (pv 5))) (fun _ _ _ _ _ => (de_call (ok_profit T) (hr.mono (by decide)) (by rfl) T.m_profit T.fun_profit.kp T.b_profit (da_cons (de_var 0 (pv 0)) (da_cons (de_var 5 (pv 5)) (da_cons (de_fld T.at_pay (de_var 6 (pv 6))) da_nil))))))))
      (dss_cons (ds_set 3 sc_u_best_works.nd (de_of (df_lc [(Str.ofString "work", 5)] rfl sc_u_best_works.nd (di_A (de_var 2 (pv 2))) (blkOk_by (by kernel_rfl)) (fun _ _ _ _ _ => (dg_name 5 sc_u_best_works.nd)) (fun _ _ _ _ _ => (dts_one (dt_not (dt_val (de_call (ok_is_less T) (hr.mono (by decide)) (by rfl) T.m_is_less T.fun_is_less.kp T.b_is_less (da_cons (de_ixA hu (db_var 2 (pv 2)) (db_var 5 (pv 5))) (da_cons (de_glob (pe_glob (v := L2.V.ref T.a_ZERO) rfl T.m_ZERO rfl) (fun _ => T.r_ZERO _)) da_nil))))))) (fun _ _ _ _ _ => (de_var 5 (pv 5))))))
      (dss_cons (ds_setLcE 4 [(Str.ofString "work", 5)] rfl sc_u_best_works.nd rfl rfl (sw_true rfl rfl rfl (by decide +kernel)) (di_A (de_var 3 (pv 3))) (blkOk_by (by kernel_rfl)) (fun _ _ _ _ _ => (dg_name 5 sc_u_best_works.nd)) (fun _ _ _ _ _ => (dts_one (dt_not (dt_val (de_callB (cd_any rfl) (by rfl) T.n_any (by decide +kernel) (dab_cons (db_of (de_of (df_lc [(Str.ofString "other", 7)] rfl sc_u_best_works.nd (di_A (de_var 3 (pv 3))) (blkOk_by (by kernel_rfl)) (fun _ _ _ _ _ => (dg_name 7 sc_u_best_works.nd)) (fun _ _ _ _ _ => dts_nil) (fun _ _ _ _ _ => (de_call (ok_is_less T) (hr.mono (by decide)) (by rfl) T.m_is_less T.fun_is_less.kp T.b_is_less (da_cons (de_ixA hu (db_var 2 (pv 2)) (db_var 5 (pv 5))) (da_cons (de_ixA hu (db_var 2 (pv 2)) (db_var 7 (pv 7))) da_nil))))))) dab_nil)))))) (fun _ _ _ _ _ => (de_var 5 (pv 5))))
      (dss_one (ds_ret (de_if (dt_tru (db_var 4 (pv 4))) (de_var 4 (pv 4)) (de_of (df_lst (da_cons de_non da_nil)))))))))

abbrev s_Best_shows : Stmt := inClass (topS 71) 3
theorem sc_Best_shows : FnScope [Str.ofString "self", Str.ofString "job", Str.ofString "rising"] [Str.ofString "self", Str.ofString "job", Str.ofString "rising"] (defScope s_Best_shows) := ⟨rfl, rfl, rfl, by decide +kernel, rfl, by decide +kernel, by decide +kernel⟩

theorem ok_Best_shows (T : Txt K mg) : FnOk P w K mg base CX0 10 T.f_Best_shows T.d_Best_shows [Str.ofString "self", Str.ofString "job", Str.ofString "rising"] (spD K 3 F_Best_shows) := by
  unfold F_Best_shows
  refine defK_ok s_Best_shows [Str.ofString "self", Str.ofString "job", Str.ofString "rising"] [Str.ofString "self", Str.ofString "job", Str.ofString "rising"] 9 3 3 g_Best_shows T.fun_Best_shows sc_Best_shows rfl rfl fun cdv A outer s H E hr => ?_
  have hu := hr.units
  have h5 := hr.units5
  exact (dss_cons (ds_expr (de_call (ok_check_job T) (hr.mono (by decide)) (by rfl) T.m_check_job T.fun_check_job.kp T.b_check_job (da_cons (de_var 1 (pv 1)) da_nil)))
      (dss_cons (ds_if (dt_not (dt_val (de_call (ok_u_are_needs T) (hr.mono (by decide)) (by rfl) T.m_u_are_needs T.fun_u_are_needs.kp T.b_u_are_needs (da_cons (de_var 1 (pv 1)) (da_cons (de_var 2 (pv 2)) (da_cons (de_fld T.at_needs (de_var 0 (pv 0))) da_nil)))))) (dss_one (ds_ret de_bl)) dss_nil)
      (dss_cons (ds_if (dt_w (dw_and (dt_cmp od_notN (db_of (de_fld T.at_work (de_var 0 (pv 0)))) (db_of de_non) (nomark _)) (dw_and1 (dt_not (dt_val (de_call (ok_is_integer T) (hr.mono (by decide)) (by rfl) T.m_is_integer T.fun_is_integer.kp T.b_is_integer (da_cons (de_fld T.at_work (de_var 0 (pv 0))) da_nil))))))) (dss_one (ds_ret de_bl)) dss_nil)
      (dss_one (ds_ret (de_cmp (od_inA h5) (db_of (de_fld T.at_work (de_var 0 (pv 0)))) (db_of (de_call (ok_u_best_works T) (hr.mono (by decide)) (by rfl) T.m_u_best_works T.fun_u_best_works.kp T.b_u_best_works (da_cons (de_var 1 (pv 1)) (da_cons (de_fld T.at_needs (de_var 0 (pv 0))) da_nil)))) (by rfl)))))))

abbrev s_u_law_two : Stmt := topS 88
theorem sc_u_law_two : FnScope [] [] (defScope s_u_law_two) := ⟨rfl, rfl, rfl, by decide +kernel, rfl, by decide +kernel, by decide +kernel⟩

theorem ok_u_law_two (T : Txt K mg) : FnOk P w K mg base CX0 8 T.f_u_law_two T.d_u_law_two [] (spD K 0 F_u_law_two) := by
  unfold F_u_law_two
  refine def_ok' s_u_law_two [] [] 7 0 0 g_u_law_two T.fun_u_law_two sc_u_law_two rfl rfl fun cdv A outer s H E hr => ?_
  have hu := hr.units
  have h5 := hr.units5
  exact (dss_one (ds_ret (de_make T.mk_Job (ok_JobD_initD T) (hr.mono (by decide)) (by rfl) T.mc_Job T.b_JobD_initD (da_cons (de_tup (da_cons de_int (da_cons de_int da_nil))) (da_cons (de_tup (da_cons (de_tup (da_cons de_int (da_cons (de_tup (da_cons de_int (da_cons de_int da_nil))) da_nil))) (da_cons (de_tup (da_cons de_int (da_cons (de_tup (da_cons de_int (da_cons de_int da_nil))) da_nil))) (da_cons (de_tup (da_cons de_int (da_cons (de_tup (da_cons de_int (da_cons de_int da_nil))) da_nil))) da_nil)))) da_nil)))))

abbrev s_choose : Stmt := topS 72
theorem sc_choose : FnScope [Str.ofString "job", Str.ofString "rising", Str.ofString "needs", Str.ofString "work"] [Str.ofString "job", Str.ofString "rising"] (defScope s_choose) := ⟨rfl, rfl, rfl, by decide +kernel, rfl, by decide +kernel, by decide +kernel⟩

theorem ok_choose (T : Txt K mg) : FnOk P w K mg base CX0 8 T.f_choose T.d_choose [Str.ofString "job", Str.ofString "rising"] (spD K 2 F_choose) := by
  unfold F_choose
  refine defK_ok s_choose [Str.ofString "job", Str.ofString "rising", Str.ofString "needs", Str.ofString "work"] [Str.ofString "job", Str.ofString "rising"] 7 4 2 g_choose T.fun_choose sc_choose rfl rfl fun cdv A outer s H E hr => ?_
  have hu := hr.units
  have h5 := hr.units5
  exact (dss_cons (ds_expr (de_call (ok_check_job T) (hr.mono (by decide)) (by rfl) T.m_check_job T.fun_check_job.kp T.b_check_job (da_cons (de_var 0 (pv 0)) da_nil)))
      (dss_cons (ds_setDc 2 [(Str.ofString "work", 3)] hu rfl sc_choose.nd rfl rfl (DK.sw_dc rfl rfl rfl (by decide +kernel)) (di_range1 (by rfl) T.n_range (de_lenO T.cl_Job T.me_JobD_lenD (ok_JobD_lenD T) (hr.mono (by decide)) T.b_JobD_lenD (by rfl) T.n_len PySem.boot_len (dab_cons (db_var 0 (pv 0)) dab_nil))) (blkOk_by (by kernel_rfl)) (fun _ _ _ _ _ => (dg_name 3 sc_choose.nd)) (fun _ _ _ _ _ => dts_nil) (fun _ _ _ _ _ => (de_var 3 (pv 3))) (fun _ _ _ _ _ => (de_callK (ok_least_pay T) (hr.mono (by decide)) (by rfl) T.m_least_pay T.fun_least_pay.kp T.kb_least_pay (da_cons (de_var 0 (pv 0)) (da_cons (de_var 3 (pv 3)) da_nil)) (dk_cons (de_var 1 (pv 1)) dk_nil) rfl rfl)))
      (dss_one (ds_ret (de_make T.mk_Best (ok_BestD_initD T) (hr.mono (by decide)) (by rfl) T.mc_Best T.b_BestD_initD (da_cons (de_ixA hu (db_of (de_call (ok_u_best_works T) (hr.mono (by decide)) (by rfl) T.m_u_best_works T.fun_u_best_works.kp T.b_u_best_works (da_cons (de_var 0 (pv 0)) (da_cons (de_var 2 (pv 2)) da_nil)))) (db_of de_int)) (da_cons (de_var 2 (pv 2)) da_nil)))))))

abbrev s_best_profit : Stmt := topS 73
theorem sc_best_profit : FnScope [Str.ofString "job", Str.ofString "rising", Str.ofString "found"] [Str.ofString "job", Str.ofString "rising"] (defScope s_best_profit) := ⟨rfl, rfl, rfl, by decide +kernel, rfl, by decide +kernel, by decide +kernel⟩

theorem ok_best_profit (T : Txt K mg) : FnOk P w K mg base CX0 9 T.f_best_profit T.d_best_profit [Str.ofString "job", Str.ofString "rising"] (spD K 2 F_best_profit) := by
  unfold F_best_profit
  refine defK_ok s_best_profit [Str.ofString "job", Str.ofString "rising", Str.ofString "found"] [Str.ofString "job", Str.ofString "rising"] 8 3 2 g_best_profit T.fun_best_profit sc_best_profit rfl rfl fun cdv A outer s H E hr => ?_
  have hu := hr.units
  have h5 := hr.units5
  exact (dss_cons (ds_set 2 sc_best_profit.nd (de_callK (ok_choose T) (hr.mono (by decide)) (by rfl) T.m_choose T.fun_choose.kp T.kb_choose (da_cons (de_var 0 (pv 0)) da_nil) (dk_cons (de_var 1 (pv 1)) dk_nil) rfl rfl))
      (dss_cons (ds_if (dt_cmp od_isN (db_of (de_fld T.at_work (de_var 2 (pv 2)))) (db_of de_non) (nomark _)) (dss_one (ds_ret (de_glob (pe_glob (v := L2.V.ref T.a_ZERO) rfl T.m_ZERO rfl) (fun _ => T.r_ZERO _)))) dss_nil)
      (dss_one (ds_ret (de_call (ok_profit T) (hr.mono (by decide)) (by rfl) T.m_profit T.fun_profit.kp T.b_profit (da_cons (de_var 0 (pv 0)) (da_cons (de_fld T.at_work (de_var 2 (pv 2))) (da_cons (de_fld T.at_pay (de_ixA hu (db_of (de_fld T.at_needs (de_var 2 (pv 2)))) (db_of (de_fld T.at_work (de_var 2 (pv 2)))))) da_nil))))))))

theorem mt_shows_1 (T : Txt K mg) : MthD P w K mg base 10 (Str.ofString "shows") 1 [(.bl false)] [(3, F_Best_shows)] := (.cons (dvs := [(V.bl false)]) MthD.nil (by decide) T.cl_Best T.me_Best_shows (ok_Best_shows T) (fun _ => (.cons (.bl _) .nil)) T.db_Best_shows)

abbrev s_u_law_choices_right : Stmt := topS 92
theorem sc_u_law_choices_right : FnScope [Str.ofString "cell", Str.ofString "job", Str.ofString "poor", Str.ofString "found", Str.ofString "rich", Str.ofString "pay", Str.ofString "work"] [Str.ofString "cell"] (defScope s_u_law_choices_right) := ⟨rfl, rfl, rfl, by decide +kernel, rfl, by decide +kernel, by decide +kernel⟩

theorem ok_u_law_choices_right (T : Txt K mg) : FnOk P w K mg base CX0 11 T.f_u_law_choices_right T.d_u_law_choices_right [Str.ofString "cell"] (spD K 1 F_u_law_choices_right) := by
  unfold F_u_law_choices_right
  refine def_ok' s_u_law_choices_right [Str.ofString "cell", Str.ofString "job", Str.ofString "poor", Str.ofString "found", Str.ofString "rich", Str.ofString "pay", Str.ofString "work"] [Str.ofString "cell"] 10 7 1 g_u_law_choices_right T.fun_u_law_choices_right sc_u_law_choices_right rfl rfl fun cdv A outer s H E hr => ?_
  have hu := hr.units
  have h5 := hr.units5
  exact (dss_cons (ds_asg (de_tup (da_cons (de_call0 (ok_u_law_two T) (hr.mono (by decide)) (by rfl) T.m_u_law_two T.fun_u_law_two.kp T.b_u_law_two) (da_cons (de_make T.mk_Job (ok_JobD_initD T) (hr.mono (by decide)) (by rfl) T.mc_Job T.b_JobD_initD (da_cons (de_tup (da_cons de_int (da_cons de_int da_nil))) (da_cons (de_tup (da_cons (de_tup (da_cons de_int (da_cons (de_tup (da_cons de_int (da_cons de_int da_nil))) da_nil))) (da_cons (de_tup (da_cons de_int (da_cons (de_tup (da_cons de_int (da_cons de_int da_nil))) da_nil))) da_nil))) da_nil))) da_nil))) (dg_tup 2 rfl (dgs_cons (dg_name 1 sc_u_law_choices_right.nd) (dgs_cons (dg_name 2 sc_u_law_choices_right.nd) dgs_nil)) (bCons_len (bCons_len bNil_len))))
      (dss_cons (ds_set 3 sc_u_law_choices_right.nd (de_callD (dvs := [(V.bl false)]) (ok_choose T) (hr.mono (by decide)) (by rfl) T.m_choose T.fun_choose.kp T.db_choose (da_cons (de_var 1 (pv 1)) da_nil) rfl rfl (fun _ => (.cons (.bl _) .nil))))
      (dss_cons (ds_if (dt_cmp (od_neA h5) (db_of (de_tup (da_cons (de_fld T.at_work (de_var 3 (pv 3))) (da_cons (de_callD (dvs := [(V.bl false)]) (ok_best_profit T) (hr.mono (by decide)) (by rfl) T.m_best_profit T.fun_best_profit.kp T.db_best_profit (da_cons (de_var 1 (pv 1)) da_nil) rfl rfl (fun _ => (.cons (.bl _) .nil))) (da_cons (de_fld T.at_work (de_callD (dvs := [(V.bl false)]) (ok_choose T) (hr.mono (by decide)) (by rfl) T.m_choose T.fun_choose.kp T.db_choose (da_cons (de_var 2 (pv 2)) da_nil) rfl rfl (fun _ => (.cons (.bl _) .nil)))) (da_cons (de_callD (dvs := [(V.bl false)]) (ok_best_profit T) (hr.mono (by decide)) (by rfl) T.m_best_profit T.fun_best_profit.kp T.db_best_profit (da_cons (de_var 2 (pv 2)) da_nil) rfl rfl (fun _ => (.cons (.bl _) .nil))) da_nil)))))) (db_of (de_tup (da_cons de_int (da_cons (de_tup (da_cons de_int (da_cons de_int da_nil))) (da_cons de_non (da_cons (de_tup (da_cons de_int (da_cons de_int da_nil))) da_nil)))))) (nomark _)) (dss_one (ds_ret de_bl)) dss_nil)
      (dss_cons (ds_set 4 sc_u_law_choices_right.nd (de_make T.mk_Job (ok_JobD_initD T) (hr.mono (by decide)) (by rfl) T.mc_Job T.b_JobD_initD (da_cons (de_tup (da_cons de_int (da_cons de_int da_nil))) (da_cons (de_tup (da_cons (de_tup (da_cons de_int (da_cons (de_tup (da_cons de_int (da_cons de_int da_nil))) da_nil))) (da_cons (de_tup (da_cons de_int (da_cons (de_tup (da_cons de_int (da_cons de_int da_nil))) da_nil))) (da_cons (de_tup (da_cons de_int (da_cons (de_tup (da_cons de_int (da_cons de_int da_nil))) da_nil))) da_nil)))) da_nil))))
      (dss_cons (ds_if (dt_w (dw_or (dt_cmp (od_neA h5) (db_of (de_fld T.at_work (de_callD (dvs := [(V.bl false)]) (ok_choose T) (hr.mono (by decide)) (by rfl) T.m_choose T.fun_choose.kp T.db_choose (da_cons (de_var 4 (pv 4)) da_nil) rfl rfl (fun _ => (.cons (.bl _) .nil))))) (db_of de_int) (nomark _)) (dw_or1 (dt_cmp (od_neA h5) (db_of (de_callD (dvs := [(V.bl false)]) (ok_best_profit T) (hr.mono (by decide)) (by rfl) T.m_best_profit T.fun_best_profit.kp T.db_best_profit (da_cons (de_var 4 (pv 4)) da_nil) rfl rfl (fun _ => (.cons (.bl _) .nil)))) (db_of (de_tup (da_cons de_int (da_cons de_int da_nil)))) (nomark _))))) (dss_one (ds_ret de_bl)) dss_nil)
      (dss_cons (ds_if (dt_w (dw_or (dt_cmp (od_neA h5) (db_of (de_fld T.at_work (de_callD (dvs := [(V.bl false)]) (ok_choose T) (hr.mono (by decide)) (by rfl) T.m_choose T.fun_choose.kp T.db_choose (da_cons (de_call0 (ok_u_law_blend T) (hr.mono (by decide)) (by rfl) T.m_u_law_blend T.fun_u_law_blend.kp T.b_u_law_blend) da_nil) rfl rfl (fun _ => (.cons (.bl _) .nil))))) (db_of de_int) (nomark _)) (dw_or1 (dt_cmp (od_neA h5) (db_of (de_callD (dvs := [(V.bl false)]) (ok_best_profit T) (hr.mono (by decide)) (by rfl) T.m_best_profit T.fun_best_profit.kp T.db_best_profit (da_cons (de_call0 (ok_u_law_blend T) (hr.mono (by decide)) (by rfl) T.m_u_law_blend T.fun_u_law_blend.kp T.b_u_law_blend) da_nil) rfl rfl (fun _ => (.cons (.bl _) .nil)))) (db_of (de_tup (da_cons de_int (da_cons de_int da_nil)))) (nomark _))))) (dss_one (ds_ret de_bl)) dss_nil)
      (dss_cons (ds_if (dt_cmp (od_neA h5) (db_of (de_of (df_lc [(Str.ofString "work", 6)] rfl sc_u_law_choices_right.nd (di_A (de_tup (da_cons de_int (da_cons de_int (da_cons de_int (da_cons de_non da_nil)))))) (blkOk_by (by kernel_rfl)) (fun _ _ _ _ _ => (dg_name 6 sc_u_law_choices_right.nd)) (fun _ _ _ _ _ => dts_nil) (fun _ _ _ _ _ => (de_mth (mt_shows_1 T) (hr.mono (by decide)) (de_make T.mk_Best (ok_BestD_initD T) (hr.mono (by decide)) (by rfl) T.mc_Best T.b_BestD_initD (da_cons (de_var 6 (pv 6)) (da_cons (de_fld T.at_needs (de_var 3 (pv 3))) da_nil))) (da_cons (de_var 1 (pv 1)) da_nil)))))) (db_of (de_of (df_lst (da_cons de_bl (da_cons de_bl (da_cons de_bl (da_cons de_bl da_nil))))))) (nomark _)) (dss_one (ds_ret de_bl)) dss_nil)
      (dss_cons (ds_set 5 sc_u_law_choices_right.nd (de_tup (da_cons (de_tup (da_cons de_int (da_cons de_int da_nil))) (da_cons (de_tup (da_cons de_int (da_cons de_int da_nil))) da_nil))))
      (dss_cons (ds_if (dt_cmp (od_neA h5) (db_of (de_of (df_lc [(Str.ofString "work", 6)] rfl sc_u_law_choices_right.nd (di_range1 (by rfl) T.n_range de_int) (blkOk_by (by kernel_rfl)) (fun _ _ _ _ _ => (dg_name 6 sc_u_law_choices_right.nd)) (fun _ _ _ _ _ => dts_nil) (fun _ _ _ _ _ => (de_call (ok_gain T) (hr.mono (by decide)) (by rfl) T.m_gain T.fun_gain.kp T.b_gain (da_cons (de_var 1 (pv 1)) (da_cons (de_var 6 (pv 6)) (da_cons (de_var 5 (pv 5)) da_nil)))))))) (db_of (de_of (df_lst (da_cons (de_tup (da_cons de_int (da_cons de_int da_nil))) (da_cons (de_tup (da_cons de_int (da_cons de_int da_nil))) (da_cons (de_tup (da_cons de_int (da_cons de_int da_nil))) da_nil)))))) (nomark _)) (dss_one (ds_ret de_bl)) dss_nil)
      (dss_cons (ds_if (dt_cmp (od_neA h5) (db_of (de_call (ok_wanted T) (hr.mono (by decide)) (by rfl) T.m_wanted T.fun_wanted.kp T.b_wanted (da_cons (de_var 1 (pv 1)) (da_cons (de_tup (da_cons (de_tup (da_cons de_int (da_cons de_int da_nil))) (da_cons (de_tup (da_cons de_int (da_cons de_int da_nil))) da_nil))) da_nil)))) (db_of (de_of (df_lst (da_cons de_int (da_cons de_int da_nil))))) (nomark _)) (dss_one (ds_ret de_bl)) dss_nil)
      (dss_cons (ds_if (dt_not (dt_w (dw_and (dt_cmp (od_eqA h5) (db_of (de_call (ok_profit T) (hr.mono (by decide)) (by rfl) T.m_profit T.fun_profit.kp T.b_profit (da_cons (de_var 1 (pv 1)) (da_cons de_int (da_cons (de_var 5 (pv 5)) da_nil))))) (db_of (de_tup (da_cons (de_neg (db_of de_int)) (da_cons de_int da_nil)))) (nomark _)) (dw_and1 (dt_cmp (od_eqA h5) (db_of (de_call (ok_wanted T) (hr.mono (by decide)) (by rfl) T.m_wanted T.fun_wanted.kp T.b_wanted (da_cons (de_var 1 (pv 1)) (da_cons (de_tup (da_cons (de_tup (da_cons de_int (da_cons de_int da_nil))) (da_cons (de_tup (da_cons de_int (da_cons de_int da_nil))) da_nil))) da_nil)))) (db_of (de_of (df_lst (da_cons de_non (da_cons de_int da_nil))))) (nomark _)))))) (dss_one (ds_ret de_bl)) dss_nil)
      (dss_one (ds_ret (de_cmp (od_eqA h5) (db_of (de_call (ok_wanted T) (hr.mono (by decide)) (by rfl) T.m_wanted T.fun_wanted.kp T.b_wanted (da_cons (de_var 1 (pv 1)) (da_cons (de_tup (da_cons (de_tup (da_cons de_int (da_cons de_int da_nil))) (da_cons (de_tup (da_cons de_int (da_cons de_int da_nil))) da_nil))) da_nil)))) (db_of (de_of (df_lst (da_cons de_int da_nil)))) (nomark _)))))))))))))))

abbrev s_u_law_number : Stmt := topS 87
theorem sc_u_law_number : FnScope [Str.ofString "script", Str.ofString "index", Str.ofString "cells", Str.ofString "cell", Str.ofString "low", Str.ofString "high", Str.ofString "mixed"] [Str.ofString "script", Str.ofString "index"] (defScope s_u_law_number) := ⟨rfl, rfl, rfl, by decide +kernel, rfl, by decide +kernel, by decide +kernel⟩

theorem ok_u_law_number (T : Txt K mg) : FnOk P w K mg base CX0 1 T.f_u_law_number T.d_u_law_number [Str.ofString "script", Str.ofString "index"] (spD K 2 F_u_law_number) := by
  unfold F_u_law_number
  refine def_ok' s_u_law_number [Str.ofString "script", Str.ofString "index", Str.ofString "cells", Str.ofString "cell", Str.ofString "low", Str.ofString "high", Str.ofString "mixed"] [Str.ofString "script", Str.ofString "index"] 0 7 2 g_u_law_number T.fun_u_law_number sc_u_law_number rfl rfl fun cdv A outer s H E hr => ?_
  have hu := hr.units
  have h5 := hr.units5
  exact (dss_cons (ds_set 2 sc_u_law_number.nd (de_if (dt_cmp (od_neA h5) (db_var 0 (pv 0)) (db_of (de_of (df_lst da_nil))) (nomark _)) (de_slA (db_var 0 (pv 0)) do_none (do_some de_int)) (de_of (df_lst (da_cons de_int da_nil)))))
      (dss_cons (ds_set 3 sc_u_law_number.nd (de_op od_addA (db_of (de_ixA hu (db_var 2 (pv 2)) (db_of (de_op od_mod (db_of (de_callTy cd_int (by rfl) T.n_int (by decide +kernel) (dab_cons (db_var 1 (pv 1)) dab_nil))) (db_of (de_callB cd_lenA (by rfl) T.n_len (by decide +kernel) (dab_cons (db_var 2 (pv 2)) dab_nil))))))) (db_of (de_op od_mulA (db_of de_int) (db_of (de_op od_div (db_var 1 (pv 1)) (db_of (de_callB cd_lenA (by rfl) T.n_len (by decide +kernel) (dab_cons (db_var 2 (pv 2)) dab_nil)))))))))
      (dss_cons (ds_par 4 5 rfl sc_u_law_number.nd (da_cons (de_op od_mod (db_of (de_callTy cd_int (by rfl) T.n_int (by decide +kernel) (dab_cons (db_var 3 (pv 3)) dab_nil))) (db_of de_int)) (da_cons (de_op od_mod (db_of (de_callTy cd_int (by rfl) T.n_int (by decide +kernel) (dab_cons (db_of (de_op od_div (db_var 3 (pv 3)) (db_of de_int))) dab_nil))) (db_of de_int)) da_nil)))
      (dss_cons (ds_set 6 sc_u_law_number.nd (de_op od_mod (db_of (de_callTy cd_int (by rfl) T.n_int (by decide +kernel) (dab_cons (db_of (de_op od_addA (db_of (de_op od_addA (db_of (de_op od_mulA (db_of (de_op od_addA (db_var 4 (pv 4)) (db_of (de_op od_mulA (db_of de_int) (db_var 1 (pv 1)))))) (db_of de_int))) (db_of (de_op od_mulA (db_of de_int) (db_var 5 (pv 5)))))) (db_of (de_op od_mod (db_of (de_callTy cd_int (by rfl) T.n_int (by decide +kernel) (dab_cons (db_of (de_callB (cd_sum rfl) (by rfl) T.n_sum (by decide +kernel) (dab_cons (db_var 2 (pv 2)) dab_nil))) dab_nil))) (db_of de_int))))) dab_nil))) (db_of de_int)))
      (dss_one (ds_ret (de_op od_addA (db_of (de_op od_mulA (db_of (de_op od_mod (db_of (de_callTy cd_int (by rfl) T.n_int (by decide +kernel) (dab_cons (db_of (de_op od_mulA (db_var 6 (pv 6)) (db_of (de_op od_addA (db_of (de_op od_addA (db_var 6 (pv 6)) (db_of (de_op od_mulA (db_of de_int) (db_var 1 (pv 1)))))) (db_of de_int))))) dab_nil))) (db_of de_int))) (db_of de_int))) (db_var 5 (pv 5)))))))))

abbrev s_u_law_pays_right : Stmt := topS 90
theorem sc_u_law_pays_right : FnScope [Str.ofString "cell", Str.ofString "job", Str.ofString "sure", Str.ofString "odd", Str.ofString "rows", Str.ofString "work", Str.ofString "row"] [Str.ofString "cell"] (defScope s_u_law_pays_right) := ⟨rfl, rfl, rfl, by decide +kernel, rfl, by decide +kernel, by decide +kernel⟩

theorem ok_u_law_pays_right (T : Txt K mg) : FnOk P w K mg base CX0 9 T.f_u_law_pays_right T.d_u_law_pays_right [Str.ofString "cell"] (spD K 1 F_u_law_pays_right) := by
  unfold F_u_law_pays_right
  refine def_ok' s_u_law_pays_right [Str.ofString "cell", Str.ofString "job", Str.ofString "sure", Str.ofString "odd", Str.ofString "rows", Str.ofString "work", Str.ofString "row"] [Str.ofString "cell"] 8 7 1 g_u_law_pays_right T.fun_u_law_pays_right sc_u_law_pays_right rfl rfl fun cdv A outer s H E hr => ?_
  have hu := hr.units
  have h5 := hr.units5
  exact (dss_cons (ds_asg (de_tup (da_cons (de_call0 (ok_u_law_two T) (hr.mono (by decide)) (by rfl) T.m_u_law_two T.fun_u_law_two.kp T.b_u_law_two) (da_cons (de_make T.mk_Job (ok_JobD_initD T) (hr.mono (by decide)) (by rfl) T.mc_Job T.b_JobD_initD (da_cons (de_tup (da_cons de_int (da_cons de_int da_nil))) (da_cons (de_tup (da_cons (de_tup (da_cons de_int (da_cons (de_tup (da_cons de_int (da_cons de_int da_nil))) da_nil))) (da_cons (de_tup (da_cons de_int (da_cons (de_tup (da_cons de_int (da_cons de_int da_nil))) da_nil))) da_nil))) da_nil))) da_nil))) (dg_tup 2 rfl (dgs_cons (dg_name 1 sc_u_law_pays_right.nd) (dgs_cons (dg_name 2 sc_u_law_pays_right.nd) dgs_nil)) (bCons_len (bCons_len bNil_len))))
      (dss_cons (ds_if (dt_cmp (od_neA h5) (db_of (de_of (df_lc [(Str.ofString "work", 5)] rfl sc_u_law_pays_right.nd (di_range1 (by rfl) T.n_range de_int) (blkOk_by (by kernel_rfl)) (fun _ _ _ _ _ => (dg_name 5 sc_u_law_pays_right.nd)) (fun _ _ _ _ _ => dts_nil) (fun _ _ _ _ _ => (de_callD (dvs := [(V.bl false)]) (ok_pay_cost T) (hr.mono (by decide)) (by rfl) T.m_pay_cost T.fun_pay_cost.kp T.db_pay_cost (da_cons (de_var 1 (pv 1)) (da_cons (de_var 5 (pv 5)) da_nil)) rfl rfl (fun _ => (.cons (.bl _) .nil))))))) (db_of (de_of (df_lst (da_cons (de_tup (da_cons de_int (da_cons de_int da_nil))) (da_cons (de_tup (da_cons de_int (da_cons de_int da_nil))) (da_cons (de_tup (da_cons de_int (da_cons de_int da_nil))) da_nil)))))) (nomark _)) (dss_one (ds_ret de_bl)) dss_nil)
      (dss_cons (ds_if (dt_cmp (od_neA h5) (db_of (de_fld T.at_pay (de_callD (dvs := [(V.bl false)]) (ok_least_pay T) (hr.mono (by decide)) (by rfl) T.m_least_pay T.fun_least_pay.kp T.db_least_pay (da_cons (de_var 1 (pv 1)) (da_cons de_int da_nil)) rfl rfl (fun _ => (.cons (.bl _) .nil))))) (db_of (de_tup (da_cons (de_tup (da_cons de_int (da_cons de_int da_nil))) (da_cons (de_tup (da_cons de_int (da_cons de_int da_nil))) da_nil)))) (nomark _)) (dss_one (ds_ret de_bl)) dss_nil)
      (dss_cons (ds_if (dt_w (dw_or (dt_cmp (od_neA h5) (db_of (de_callD (dvs := [(V.bl false)]) (ok_pay_cost T) (hr.mono (by decide)) (by rfl) T.m_pay_cost T.fun_pay_cost.kp T.db_pay_cost (da_cons (de_var 2 (pv 2)) (da_cons de_int da_nil)) rfl rfl (fun _ => (.cons (.bl _) .nil)))) (db_of (de_tup (da_cons de_int (da_cons de_int da_nil)))) (nomark _)) (dw_or (dt_cmp (od_neA h5) (db_of (de_callD (dvs := [(V.bl false)]) (ok_pay_cost T) (hr.mono (by decide)) (by rfl) T.m_pay_cost T.fun_pay_cost.kp T.db_pay_cost (da_cons (de_var 2 (pv 2)) (da_cons de_int da_nil)) rfl rfl (fun _ => (.cons (.bl _) .nil)))) (db_of (de_tup (da_cons de_int (da_cons de_int da_nil)))) (nomark _)) (dw_or1 (dt_cmp od_notN (db_of (de_callK (ok_pay_cost T) (hr.mono (by decide)) (by rfl) T.m_pay_cost T.fun_pay_cost.kp T.kb_pay_cost (da_cons (de_var 2 (pv 2)) (da_cons de_int da_nil)) (dk_cons de_bl dk_nil) rfl rfl)) (db_of de_non) (nomark _)))))) (dss_one (ds_ret de_bl)) dss_nil)
      (dss_cons (ds_if (dt_w (dw_or (dt_cmp (od_neA h5) (db_of (de_ixA hu (db_of (de_fld T.at_pay (de_callD (dvs := [(V.bl false)]) (ok_least_pay T) (hr.mono (by decide)) (by rfl) T.m_least_pay T.fun_least_pay.kp T.db_least_pay (da_cons (de_var 2 (pv 2)) (da_cons de_int da_nil)) rfl rfl (fun _ => (.cons (.bl _) .nil))))) (db_of de_int))) (db_of (de_tup (da_cons de_int (da_cons de_int da_nil)))) (nomark _)) (dw_or1 (dt_cmp (od_neA h5) (db_of (de_callK (ok_pay_cost T) (hr.mono (by decide)) (by rfl) T.m_pay_cost T.fun_pay_cost.kp T.kb_pay_cost (da_cons (de_var 2 (pv 2)) (da_cons de_int da_nil)) (dk_cons de_bl dk_nil) rfl rfl)) (db_of (de_tup (da_cons de_int (da_cons de_int da_nil)))) (nomark _))))) (dss_one (ds_ret de_bl)) dss_nil)
      (dss_cons (ds_set 3 sc_u_law_pays_right.nd (de_make T.mk_Job (ok_JobD_initD T) (hr.mono (by decide)) (by rfl) T.mc_Job T.b_JobD_initD (da_cons (de_tup (da_cons de_int (da_cons de_int (da_cons de_int da_nil)))) (da_cons (de_tup (da_cons (de_tup (da_cons de_int (da_cons (de_tup (da_cons de_int (da_cons de_int (da_cons de_int da_nil)))) da_nil))) (da_cons (de_tup (da_cons de_int (da_cons (de_tup (da_cons de_int (da_cons de_int (da_cons de_int da_nil)))) da_nil))) (da_cons (de_tup (da_cons de_int (da_cons (de_tup (da_cons de_int (da_cons de_int (da_cons de_int da_nil)))) da_nil))) da_nil)))) da_nil))))
      (dss_cons (ds_if (dt_w (dw_or (dt_cmp (od_neA h5) (db_of (de_callD (dvs := [(V.bl false)]) (ok_pay_cost T) (hr.mono (by decide)) (by rfl) T.m_pay_cost T.fun_pay_cost.kp T.db_pay_cost (da_cons (de_var 3 (pv 3)) (da_cons de_int da_nil)) rfl rfl (fun _ => (.cons (.bl _) .nil)))) (db_of (de_tup (da_cons de_int (da_cons de_int da_nil)))) (nomark _)) (dw_or1 (dt_cmp (od_neA h5) (db_of (de_fld T.at_pay (de_callD (dvs := [(V.bl false)]) (ok_least_pay T) (hr.mono (by decide)) (by rfl) T.m_least_pay T.fun_least_pay.kp T.db_least_pay (da_cons (de_var 3 (pv 3)) (da_cons de_int da_nil)) rfl rfl (fun _ => (.cons (.bl _) .nil))))) (db_of (de_tup (da_cons (de_tup (da_cons de_int (da_cons de_int da_nil))) (da_cons (de_tup (da_cons de_int (da_cons de_int da_nil))) (da_cons (de_tup (da_cons de_int (da_cons de_int da_nil))) da_nil))))) (nomark _))))) (dss_one (ds_ret de_bl)) dss_nil)
      (dss_cons (ds_if (dt_cmp od_notN (db_of (de_callK (ok_pay_cost T) (hr.mono (by decide)) (by rfl) T.m_pay_cost T.fun_pay_cost.kp T.kb_pay_cost (da_cons (de_var 3 (pv 3)) (da_cons de_int da_nil)) (dk_cons de_bl dk_nil) rfl rfl)) (db_of de_non) (nomark _)) (dss_one (ds_ret de_bl)) dss_nil)
      (dss_cons (ds_set 4 sc_u_law_pays_right.nd (de_of (df_lst (da_cons (de_tup (da_cons (de_tup (da_cons (de_tup (da_cons de_int (da_cons de_int da_nil))) (da_cons (de_tup (da_cons de_int (da_cons de_int da_nil))) da_nil))) (da_cons (de_of (df_disp hu (dps_cons de_int (de_tup (da_cons de_int (da_cons de_int da_nil))) dps_nil))) (da_cons de_bl da_nil)))) da_nil))))
      (dss_cons (ds_set 4 sc_u_law_pays_right.nd (de_op od_addA (db_var 4 (pv 4)) (db_of (de_of (df_lst (da_cons (de_tup (da_cons (de_tup (da_cons (de_tup (da_cons de_int (da_cons de_int da_nil))) (da_cons (de_tup (da_cons de_int (da_cons de_int da_nil))) da_nil))) (da_cons (de_of (df_disp hu (dps_cons de_int (de_tup (da_cons de_int (da_cons de_int da_nil))) (dps_cons de_int (de_tup (da_cons de_int (da_cons de_int da_nil))) (dps_cons de_non (de_tup (da_cons de_int (da_cons de_int da_nil))) dps_nil))))) (da_cons de_bl da_nil)))) da_nil))))))
      (dss_cons (ds_set 4 sc_u_law_pays_right.nd (de_op od_addA (db_var 4 (pv 4)) (db_of (de_of (df_lst (da_cons (de_tup (da_cons (de_tup (da_cons (de_tup (da_cons de_int (da_cons de_int da_nil))) (da_cons (de_tup (da_cons de_int (da_cons de_int da_nil))) da_nil))) (da_cons (de_of df_dic0) (da_cons de_bl da_nil)))) da_nil))))))
      (dss_cons (ds_set 4 sc_u_law_pays_right.nd (de_op od_addA (db_var 4 (pv 4)) (db_of (de_of (df_lst (da_cons (de_tup (da_cons (de_tup (da_cons (de_tup (da_cons de_int (da_cons de_int da_nil))) (da_cons (de_tup (da_cons de_int (da_cons de_int da_nil))) da_nil))) (da_cons (de_of (df_disp hu (dps_cons de_int (de_tup (da_cons de_int (da_cons de_int da_nil))) dps_nil))) (da_cons de_bl da_nil)))) (da_cons (de_tup (da_cons (de_tup (da_cons (de_tup (da_cons de_int (da_cons de_int da_nil))) (da_cons (de_tup (da_cons de_int (da_cons de_int da_nil))) da_nil))) (da_cons (de_of (df_disp hu (dps_cons de_int (de_tup (da_cons de_int (da_cons de_int da_nil))) dps_nil))) (da_cons de_bl da_nil)))) da_nil)))))))
      (dss_cons (ds_set 4 sc_u_law_pays_right.nd (de_op od_addA (db_var 4 (pv 4)) (db_of (de_of (df_lst (da_cons (de_tup (da_cons (de_tup (da_cons (de_tup (da_cons de_int (da_cons de_int da_nil))) (da_cons (de_tup (da_cons de_int (da_cons de_int da_nil))) da_nil))) (da_cons (de_of (df_disp hu (dps_cons de_int (de_tup (da_cons de_int (da_cons de_int da_nil))) dps_nil))) (da_cons de_bl da_nil)))) da_nil))))))
      (dss_cons (ds_set 4 sc_u_law_pays_right.nd (de_op od_addA (db_var 4 (pv 4)) (db_of (de_of (df_lst (da_cons (de_tup (da_cons (de_tup (da_cons (de_tup (da_cons de_int (da_cons de_int da_nil))) (da_cons (de_tup (da_cons de_int (da_cons de_int da_nil))) da_nil))) (da_cons (de_of (df_disp hu (dps_cons de_int (de_tup (da_cons de_int (da_cons de_int da_nil))) (dps_cons de_int (de_tup (da_cons (de_neg (db_of de_int)) (da_cons de_int da_nil))) dps_nil)))) (da_cons de_bl da_nil)))) da_nil))))))
      (dss_cons (ds_set 4 sc_u_law_pays_right.nd (de_op od_addA (db_var 4 (pv 4)) (db_of (de_of (df_lst (da_cons (de_tup (da_cons (de_tup (da_cons (de_tup (da_cons de_int (da_cons de_int da_nil))) (da_cons (de_tup (da_cons de_int (da_cons de_int da_nil))) da_nil))) (da_cons (de_of (df_disp hu (dps_cons de_int (de_tup (da_cons de_int (da_cons de_int da_nil))) (dps_cons de_int (de_tup (da_cons de_int (da_cons de_int da_nil))) dps_nil)))) (da_cons de_bl da_nil)))) da_nil))))))
      (dss_cons (ds_set 4 sc_u_law_pays_right.nd (de_op od_addA (db_var 4 (pv 4)) (db_of (de_of (df_lst (da_cons (de_tup (da_cons (de_tup (da_cons (de_tup (da_cons de_int (da_cons de_int da_nil))) da_nil)) (da_cons (de_of (df_disp hu (dps_cons de_int (de_tup (da_cons de_int (da_cons de_int da_nil))) dps_nil))) (da_cons de_bl da_nil)))) da_nil))))))
      (dss_cons (ds_set 4 sc_u_law_pays_right.nd (de_op od_addA (db_var 4 (pv 4)) (db_of (de_of (df_lst (da_cons (de_tup (da_cons (de_tup (da_cons (de_tup (da_cons de_int (da_cons de_int da_nil))) (da_cons (de_tup (da_cons de_int (da_cons de_int da_nil))) da_nil))) (da_cons (de_of (df_disp hu (dps_cons de_int (de_tup (da_cons de_int (da_cons de_int da_nil))) dps_nil))) (da_cons de_bl da_nil)))) (da_cons (de_tup (da_cons (de_tup (da_cons (de_tup (da_cons de_int (da_cons de_int da_nil))) (da_cons (de_tup (da_cons de_int (da_cons de_int da_nil))) da_nil))) (da_cons (de_of (df_disp hu (dps_cons de_non (de_tup (da_cons de_int (da_cons de_int da_nil))) dps_nil))) (da_cons de_bl da_nil)))) da_nil)))))))
      (dss_cons (ds_set 4 sc_u_law_pays_right.nd (de_op od_addA (db_var 4 (pv 4)) (db_of (de_of (df_lst (da_cons (de_tup (da_cons (de_tup (da_cons (de_tup (da_cons (de_neg (db_of de_int)) (da_cons de_int da_nil))) (da_cons (de_tup (da_cons de_int (da_cons de_int da_nil))) da_nil))) (da_cons (de_of (df_disp hu (dps_cons de_int (de_tup (da_cons de_int (da_cons de_int da_nil))) dps_nil))) (da_cons de_bl da_nil)))) da_nil))))))
      (dss_one (ds_ret (de_cmp (od_eqA h5) (db_of (de_of (df_lc [(Str.ofString "row", 6)] rfl sc_u_law_pays_right.nd (di_A (de_var 4 (pv 4))) (blkOk_by (by kernel_rfl)) (fun _ _ _ _ _ => (dg_name 6 sc_u_law_pays_right.nd)) (fun _ _ _ _ _ => dts_nil) (fun _ _ _ _ _ => (de_mth (mt_shows_2 T) (hr.mono (by decide)) (de_make T.mk_Enough (ok_EnoughD_initD T) (hr.mono (by decide)) (by rfl) T.mc_Enough T.b_EnoughD_initD (da_cons (de_ixA hu (db_var 6 (pv 6)) (db_of de_int)) (da_cons (de_ixA hu (db_var 6 (pv 6)) (db_of de_int)) da_nil))) (da_cons (de_var 1 (pv 1)) (da_cons de_int da_nil))))))) (db_of (de_of (df_lc [(Str.ofString "row", 6)] rfl sc_u_law_pays_right.nd (di_A (de_var 4 (pv 4))) (blkOk_by (by kernel_rfl)) (fun _ _ _ _ _ => (dg_name 6 sc_u_law_pays_right.nd)) (fun _ _ _ _ _ => dts_nil) (fun _ _ _ _ _ => (de_ixA hu (db_var 6 (pv 6)) (db_of de_int)))))) (nomark _))))))))))))))))))))))

abbrev s_u_worth : Stmt := topS 84
theorem sc_u_worth : FnScope [Str.ofString "job", Str.ofString "work"] [Str.ofString "job", Str.ofString "work"] (defScope s_u_worth) := ⟨rfl, rfl, rfl, by decide +kernel, rfl, by decide +kernel, by decide +kernel⟩

theorem ok_u_worth (T : Txt K mg) : FnOk P w K mg base CX0 6 T.f_u_worth T.d_u_worth [Str.ofString "job", Str.ofString "work"] (spD K 2 F_u_worth) := by
  unfold F_u_worth
  refine def_ok' s_u_worth [Str.ofString "job", Str.ofString "work"] [Str.ofString "job", Str.ofString "work"] 5 2 2 g_u_worth T.fun_u_worth sc_u_worth rfl rfl fun cdv A outer s H E hr => ?_
  have hu := hr.units
  have h5 := hr.units5
  exact (dss_one (ds_ret (de_if (dt_cmp od_isN (db_var 1 (pv 1)) (db_of de_non) (nomark _)) (de_glob (pe_glob (v := L2.V.ref T.a_ZERO) rfl T.m_ZERO rfl) (fun _ => T.r_ZERO _)) (de_call (ok_average_worth T) (hr.mono (by decide)) (by rfl) T.m_average_worth T.fun_average_worth.kp T.b_average_worth (da_cons (de_var 0 (pv 0)) (da_cons (de_var 1 (pv 1)) da_nil))))))

abbrev s_u_effort : Stmt := topS 85
theorem sc_u_effort : FnScope [Str.ofString "job", Str.ofString "work"] [Str.ofString "job", Str.ofString "work"] (defScope s_u_effort) := ⟨rfl, rfl, rfl, by decide +kernel, rfl, by decide +kernel, by decide +kernel⟩

theorem ok_u_effort (T : Txt K mg) : FnOk P w K mg base CX0 4 T.f_u_effort T.d_u_effort [Str.ofString "job", Str.ofString "work"] (spD K 2 F_u_effort) := by
  unfold F_u_effort
  refine def_ok' s_u_effort [Str.ofString "job", Str.ofString "work"] [Str.ofString "job", Str.ofString "work"] 3 2 2 g_u_effort T.fun_u_effort sc_u_effort rfl rfl fun cdv A outer s H E hr => ?_
  have hu := hr.units
  have h5 := hr.units5
  exact (dss_one (ds_ret (de_if (dt_cmp od_isN (db_var 1 (pv 1)) (db_of de_non) (nomark _)) (de_glob (pe_glob (v := L2.V.ref T.a_ZERO) rfl T.m_ZERO rfl) (fun _ => T.r_ZERO _)) (de_ixA hu (db_of (de_call (ok_work_efforts T) (hr.mono (by decide)) (by rfl) T.m_work_efforts T.fun_work_efforts.kp T.b_work_efforts (da_cons (de_var 0 (pv 0)) da_nil))) (db_var 1 (pv 1))))))

abbrev s_u_next_share : Stmt := topS 82
theorem sc_u_next_share : FnScope [Str.ofString "job", Str.ofString "work", Str.ofString "best", Str.ofString "other", Str.ofString "more", Str.ofString "share"] [Str.ofString "job", Str.ofString "work"] (defScope s_u_next_share) := ⟨rfl, rfl, rfl, by decide +kernel, rfl, by decide +kernel, by decide +kernel⟩

theorem ok_u_next_share (T : Txt K mg) : FnOk P w K mg base CX0 7 T.f_u_next_share T.d_u_next_share [Str.ofString "job", Str.ofString "work"] (spD K 2 F_u_next_share) := by
  unfold F_u_next_share
  refine def_ok' s_u_next_share [Str.ofString "job", Str.ofString "work", Str.ofString "best", Str.ofString "other", Str.ofString "more", Str.ofString "share"] [Str.ofString "job", Str.ofString "work"] 6 6 2 g_u_next_share T.fun_u_next_share sc_u_next_share rfl rfl fun cdv A outer s H E hr => ?_
  have hu := hr.units
  have h5 := hr.units5
  exact (dss_cons (ds_set 2 sc_u_next_share.nd de_non)
      (dss_cons (ds_for PassesOwn.never rfl (di_range1 (by rfl) T.n_range (de_lenO T.cl_Job T.me_JobD_lenD (ok_JobD_lenD T) (hr.mono (by decide)) T.b_JobD_lenD (by rfl) T.n_len PySem.boot_len (dab_cons (db_var 0 (pv 0)) dab_nil))) (dg_name 3 sc_u_next_share.nd)
      (dss_cons (ds_set 4 sc_u_next_share.nd (de_call (ok_minus T) (hr.mono (by decide)) (by rfl) T.m_minus T.fun_minus.kp T.b_minus (da_cons (de_call (ok_u_worth T) (hr.mono (by decide)) (by rfl) T.m_u_worth T.fun_u_worth.kp T.b_u_worth (da_cons (de_var 0 (pv 0)) (da_cons (de_var 3 (pv 3)) da_nil))) (da_cons (de_call (ok_u_worth T) (hr.mono (by decide)) (by rfl) T.m_u_worth T.fun_u_worth.kp T.b_u_worth (da_cons (de_var 0 (pv 0)) (da_cons (de_var 1 (pv 1)) da_nil))) da_nil))))
      (dss_cons (ds_if (dt_not (dt_val (de_call (ok_is_less T) (hr.mono (by decide)) (by rfl) T.m_is_less T.fun_is_less.kp T.b_is_less (da_cons (de_glob (pe_glob (v := L2.V.ref T.a_ZERO) rfl T.m_ZERO rfl) (fun _ => T.r_ZERO _)) (da_cons (de_var 4 (pv 4)) da_nil))))) (dss_one ds_cnt) dss_nil)
      (dss_cons (ds_set 5 sc_u_next_share.nd (de_call (ok_over T) (hr.mono (by decide)) (by rfl) T.m_over T.fun_over.kp T.b_over (da_cons (de_call (ok_minus T) (hr.mono (by decide)) (by rfl) T.m_minus T.fun_minus.kp T.b_minus (da_cons (de_call (ok_u_effort T) (hr.mono (by decide)) (by rfl) T.m_u_effort T.fun_u_effort.kp T.b_u_effort (da_cons (de_var 0 (pv 0)) (da_cons (de_var 3 (pv 3)) da_nil))) (da_cons (de_call (ok_u_effort T) (hr.mono (by decide)) (by rfl) T.m_u_effort T.fun_u_effort.kp T.b_u_effort (da_cons (de_var 0 (pv 0)) (da_cons (de_var 1 (pv 1)) da_nil))) da_nil))) (da_cons (de_var 4 (pv 4)) da_nil))))
      (dss_one (ds_if (dt_w (dw_and (dt_not (dt_val (de_call (ok_is_less T) (hr.mono (by decide)) (by rfl) T.m_is_less T.fun_is_less.kp T.b_is_less (da_cons (de_glob (pe_glob (v := L2.V.ref T.a_ONE) rfl T.m_ONE rfl) (fun _ => T.r_ONE _)) (da_cons (de_var 5 (pv 5)) da_nil))))) (dw_and1 (dt_w (dw_or (dt_cmp od_isN (db_var 2 (pv 2)) (db_of de_non) (nomark _)) (dw_or1 (dt_val (de_call (ok_is_less T) (hr.mono (by decide)) (by rfl) T.m_is_less T.fun_is_less.kp T.b_is_less (da_cons (de_var 5 (pv 5)) (da_cons (de_var 2 (pv 2)) da_nil)))))))))) (dss_one (ds_set 2 sc_u_next_share.nd (de_var 5 (pv 5)))) dss_nil))))))
      (dss_one (ds_ret (de_var 2 (pv 2))))))

abbrev s_u_check_share : Stmt := topS 80
theorem sc_u_check_share : FnScope [Str.ofString "share"] [Str.ofString "share"] (defScope s_u_check_share) := ⟨rfl, rfl, rfl, by decide +kernel, rfl, by decide +kernel, by decide +kernel⟩

theorem ok_u_check_share (T : Txt K mg) : FnOk P w K mg base CX0 4 T.f_u_check_share T.d_u_check_share [Str.ofString "share"] (spD K 1 F_u_check_share) := by
  unfold F_u_check_share
  refine def_ok' s_u_check_share [Str.ofString "share"] [Str.ofString "share"] 3 1 1 g_u_check_share T.fun_u_check_share sc_u_check_share rfl rfl fun cdv A outer s H E hr => ?_
  have hu := hr.units
  have h5 := hr.units5
  exact (dss_one (ds_if (dt_w (dw_or (dt_not (dt_val (de_call (ok_is_amount T) (hr.mono (by decide)) (by rfl) T.m_is_amount T.fun_is_amount.kp T.b_is_amount (da_cons (de_var 0 (pv 0)) da_nil)))) (dw_or1 (dt_val (de_call (ok_is_less T) (hr.mono (by decide)) (by rfl) T.m_is_less T.fun_is_less.kp T.b_is_less (da_cons (de_glob (pe_glob (v := L2.V.ref T.a_ONE) rfl T.m_ONE rfl) (fun _ => T.r_ONE _)) (da_cons (de_var 0 (pv 0)) da_nil))))))) (dss_one ds_stuck) dss_nil))

abbrev s_u_gain : Stmt := topS 83
theorem sc_u_gain : FnScope [Str.ofString "job", Str.ofString "share", Str.ofString "work"] [Str.ofString "job", Str.ofString "share", Str.ofString "work"] (defScope s_u_gain) := ⟨rfl, rfl, rfl, by decide +kernel, rfl, by decide +kernel, by decide +kernel⟩

theorem ok_u_gain (T : Txt K mg) : FnOk P w K mg base CX0 7 T.f_u_gain T.d_u_gain [Str.ofString "job", Str.ofString "share", Str.ofString "work"] (spD K 3 F_u_gain) := by
  unfold F_u_gain
  refine def_ok' s_u_gain [Str.ofString "job", Str.ofString "share", Str.ofString "work"] [Str.ofString "job", Str.ofString "share", Str.ofString "work"] 6 3 3 g_u_gain T.fun_u_gain sc_u_gain rfl rfl fun cdv A outer s H E hr => ?_
  have hu := hr.units
  have h5 := hr.units5
  exact (dss_one (ds_ret (de_call (ok_minus T) (hr.mono (by decide)) (by rfl) T.m_minus T.fun_minus.kp T.b_minus (da_cons (de_call (ok_times T) (hr.mono (by decide)) (by rfl) T.m_times T.fun_times.kp T.b_times (da_cons (de_var 1 (pv 1)) (da_cons (de_call (ok_u_worth T) (hr.mono (by decide)) (by rfl) T.m_u_worth T.fun_u_worth.kp T.b_u_worth (da_cons (de_var 0 (pv 0)) (da_cons (de_var 2 (pv 2)) da_nil))) da_nil))) (da_cons (de_call (ok_u_effort T) (hr.mono (by decide)) (by rfl) T.m_u_effort T.fun_u_effort.kp T.b_u_effort (da_cons (de_var 0 (pv 0)) (da_cons (de_var 2 (pv 2)) da_nil))) da_nil)))))

abbrev s_u_is_preferred : Stmt := topS 81
theorem sc_u_is_preferred : FnScope [Str.ofString "job", Str.ofString "share", Str.ofString "work", Str.ofString "other", Str.ofString "mine", Str.ofString "its"] [Str.ofString "job", Str.ofString "share", Str.ofString "work", Str.ofString "other"] (defScope s_u_is_preferred) := ⟨rfl, rfl, rfl, by decide +kernel, rfl, by decide +kernel, by decide +kernel⟩

theorem ok_u_is_preferred (T : Txt K mg) : FnOk P w K mg base CX0 8 T.f_u_is_preferred T.d_u_is_preferred [Str.ofString "job", Str.ofString "share", Str.ofString "work", Str.ofString "other"] (spD K 4 F_u_is_preferred) := by
  unfold F_u_is_preferred
  refine def_ok' s_u_is_preferred [Str.ofString "job", Str.ofString "share", Str.ofString "work", Str.ofString "other", Str.ofString "mine", Str.ofString "its"] [Str.ofString "job", Str.ofString "share", Str.ofString "work", Str.ofString "other"] 7 6 4 g_u_is_preferred T.fun_u_is_preferred sc_u_is_preferred rfl rfl fun cdv A outer s H E hr => ?_
  have hu := hr.units
  have h5 := hr.units5
  exact (dss_cons (ds_set 4 sc_u_is_preferred.nd (de_call (ok_u_gain T) (hr.mono (by decide)) (by rfl) T.m_u_gain T.fun_u_gain.kp T.b_u_gain (da_cons (de_var 0 (pv 0)) (da_cons (de_var 1 (pv 1)) (da_cons (de_var 2 (pv 2)) da_nil)))))
      (dss_cons (ds_set 5 sc_u_is_preferred.nd (de_call (ok_u_gain T) (hr.mono (by decide)) (by rfl) T.m_u_gain T.fun_u_gain.kp T.b_u_gain (da_cons (de_var 0 (pv 0)) (da_cons (de_var 1 (pv 1)) (da_cons (de_var 3 (pv 3)) da_nil)))))
      (dss_cons (ds_if (dt_cmp (od_eqA h5) (db_var 4 (pv 4)) (db_var 5 (pv 5)) (nomark _)) (dss_one (ds_ret (de_call (ok_is_less T) (hr.mono (by decide)) (by rfl) T.m_is_less T.fun_is_less.kp T.b_is_less (da_cons (de_call (ok_u_worth T) (hr.mono (by decide)) (by rfl) T.m_u_worth T.fun_u_worth.kp T.b_u_worth (da_cons (de_var 0 (pv 0)) (da_cons (de_var 3 (pv 3)) da_nil))) (da_cons (de_call (ok_u_worth T) (hr.mono (by decide)) (by rfl) T.m_u_worth T.fun_u_worth.kp T.b_u_worth (da_cons (de_var 0 (pv 0)) (da_cons (de_var 2 (pv 2)) da_nil))) da_nil))))) dss_nil)
      (dss_one (ds_ret (de_call (ok_is_less T) (hr.mono (by decide)) (by rfl) T.m_is_less T.fun_is_less.kp T.b_is_less (da_cons (de_var 5 (pv 5)) (da_cons (de_var 4 (pv 4)) da_nil))))))))

abbrev s_done : Stmt := topS 78
theorem sc_done : FnScope [Str.ofString "job", Str.ofString "share", Str.ofString "best", Str.ofString "work"] [Str.ofString "job", Str.ofString "share"] (defScope s_done) := ⟨rfl, rfl, rfl, by decide +kernel, rfl, by decide +kernel, by decide +kernel⟩

theorem ok_done (T : Txt K mg) : FnOk P w K mg base CX0 9 T.f_done T.d_done [Str.ofString "job", Str.ofString "share"] (spD K 2 F_done) := by
  unfold F_done
  refine def_ok' s_done [Str.ofString "job", Str.ofString "share", Str.ofString "best", Str.ofString "work"] [Str.ofString "job", Str.ofString "share"] 8 4 2 g_done T.fun_done sc_done rfl rfl fun cdv A outer s H E hr => ?_
  have hu := hr.units
  have h5 := hr.units5
  exact (dss_cons (ds_expr (de_call (ok_check_job T) (hr.mono (by decide)) (by rfl) T.m_check_job T.fun_check_job.kp T.b_check_job (da_cons (de_var 0 (pv 0)) da_nil)))
      (dss_cons (ds_expr (de_call (ok_u_check_share T) (hr.mono (by decide)) (by rfl) T.m_u_check_share T.fun_u_check_share.kp T.b_u_check_share (da_cons (de_var 1 (pv 1)) da_nil)))
      (dss_cons (ds_set 2 sc_done.nd de_non)
      (dss_cons (ds_for PassesOwn.never rfl (di_range1 (by rfl) T.n_range (de_lenO T.cl_Job T.me_JobD_lenD (ok_JobD_lenD T) (hr.mono (by decide)) T.b_JobD_lenD (by rfl) T.n_len PySem.boot_len (dab_cons (db_var 0 (pv 0)) dab_nil))) (dg_name 3 sc_done.nd)
      (dss_one (ds_if (dt_val (de_call (ok_u_is_preferred T) (hr.mono (by decide)) (by rfl) T.m_u_is_preferred T.fun_u_is_preferred.kp T.b_u_is_preferred (da_cons (de_var 0 (pv 0)) (da_cons (de_var 1 (pv 1)) (da_cons (de_var 3 (pv 3)) (da_cons (de_var 2 (pv 2)) da_nil)))))) (dss_one (ds_set 2 sc_done.nd (de_var 3 (pv 3)))) dss_nil)))
      (dss_one (ds_ret (de_var 2 (pv 2))))))))

abbrev s_turns : Stmt := topS 77
theorem sc_turns : FnScope [Str.ofString "job", Str.ofString "found", Str.ofString "share", Str.ofString "work"] [Str.ofString "job"] (defScope s_turns) := ⟨rfl, rfl, rfl, by decide +kernel, rfl, by decide +kernel, by decide +kernel⟩

theorem ok_turns (T : Txt K mg) : FnOk P w K mg base CX0 10 T.f_turns T.d_turns [Str.ofString "job"] (spD K 1 F_turns) := by
  unfold F_turns
  refine def_ok' s_turns [Str.ofString "job", Str.ofString "found", Str.ofString "share", Str.ofString "work"] [Str.ofString "job"] 9 4 1 g_turns T.fun_turns sc_turns rfl rfl fun cdv A outer s H E hr => ?_
  have hu := hr.units
  have h5 := hr.units5
  exact (dss_cons (ds_expr (de_call (ok_check_job T) (hr.mono (by decide)) (by rfl) T.m_check_job T.fun_check_job.kp T.b_check_job (da_cons (de_var 0 (pv 0)) da_nil)))
      (dss_cons (ds_setF 1 sc_turns.nd (df_lst da_nil))
      (dss_cons (ds_set 2 sc_turns.nd (de_glob (pe_glob (v := L2.V.ref T.a_ZERO) rfl T.m_ZERO rfl) (fun _ => T.r_ZERO _)))
      (dss_cons (ds_while (fun _ => 100) PassesOwn.never (dt_cmp od_notN (db_var 2 (pv 2)) (db_of de_non) (nomark _)) (dss_cons (ds_set 3 sc_turns.nd (de_call (ok_done T) (hr.mono (by decide)) (by rfl) T.m_done T.fun_done.kp T.b_done (da_cons (de_var 0 (pv 0)) (da_cons (de_var 2 (pv 2)) da_nil))))
      (dss_cons (ds_app 1 (pv 1) (de_tup (da_cons (de_var 2 (pv 2)) (da_cons (de_var 3 (pv 3)) da_nil))) fun a b => ps_expr (pe_bm PySem.F.plainAttrs_list PySem.F.slot_list_append PySem.F.type_list_append mt_append a (pa_cons b pa_nil)))
      (dss_one (ds_set 2 sc_turns.nd (de_call (ok_u_next_share T) (hr.mono (by decide)) (by rfl) T.m_u_next_share T.fun_u_next_share.kp T.b_u_next_share (da_cons (de_var 0 (pv 0)) (da_cons (de_var 3 (pv 3)) da_nil))))))))
      (dss_one (ds_frz 1 (ds_ret (de_var 1 (pv 1)))))))))

abbrev s_best_share : Stmt := topS 79
theorem sc_best_share : FnScope [Str.ofString "job", Str.ofString "best", Str.ofString "most", Str.ofString "share", Str.ofString "work", Str.ofString "kept"] [Str.ofString "job"] (defScope s_best_share) := ⟨rfl, rfl, rfl, by decide +kernel, rfl, by decide +kernel, by decide +kernel⟩

theorem ok_best_share (T : Txt K mg) : FnOk P w K mg base CX0 11 T.f_best_share T.d_best_share [Str.ofString "job"] (spD K 1 F_best_share) := by
  unfold F_best_share
  refine def_ok' s_best_share [Str.ofString "job", Str.ofString "best", Str.ofString "most", Str.ofString "share", Str.ofString "work", Str.ofString "kept"] [Str.ofString "job"] 10 6 1 g_best_share T.fun_best_share sc_best_share rfl rfl fun cdv A outer s H E hr => ?_
  have hu := hr.units
  have h5 := hr.units5
  exact (dss_cons (ds_set 1 sc_best_share.nd de_non)
      (dss_cons (ds_set 2 sc_best_share.nd de_non)
      (dss_cons (ds_for PassesOwn.never rfl (di_A (de_call (ok_turns T) (hr.mono (by decide)) (by rfl) T.m_turns T.fun_turns.kp T.b_turns (da_cons (de_var 0 (pv 0)) da_nil))) (dg_tup 2 rfl (dgs_cons (dg_name 3 sc_best_share.nd) (dgs_cons (dg_name 4 sc_best_share.nd) dgs_nil)) (bCons_len (bCons_len bNil_len)))
      (dss_cons (ds_set 5 sc_best_share.nd (de_call (ok_times T) (hr.mono (by decide)) (by rfl) T.m_times T.fun_times.kp T.b_times (da_cons (de_call (ok_minus T) (hr.mono (by decide)) (by rfl) T.m_minus T.fun_minus.kp T.b_minus (da_cons (de_glob (pe_glob (v := L2.V.ref T.a_ONE) rfl T.m_ONE rfl) (fun _ => T.r_ONE _)) (da_cons (de_var 3 (pv 3)) da_nil))) (da_cons (de_call (ok_u_worth T) (hr.mono (by decide)) (by rfl) T.m_u_worth T.fun_u_worth.kp T.b_u_worth (da_cons (de_var 0 (pv 0)) (da_cons (de_var 4 (pv 4)) da_nil))) da_nil))))
      (dss_one (ds_if (dt_w (dw_or (dt_cmp od_isN (db_var 1 (pv 1)) (db_of de_non) (nomark _)) (dw_or1 (dt_val (de_call (ok_is_less T) (hr.mono (by decide)) (by rfl) T.m_is_less T.fun_is_less.kp T.b_is_less (da_cons (de_var 2 (pv 2)) (da_cons (de_var 5 (pv 5)) da_nil))))))) (dss_cons (ds_set 1 sc_best_share.nd (de_var 3 (pv 3)))
      (dss_one (ds_set 2 sc_best_share.nd (de_var 5 (pv 5))))) dss_nil))))
      (dss_one (ds_ret (de_tup (da_cons (de_var 1 (pv 1)) (da_cons (de_var 2 (pv 2)) da_nil))))))))

abbrev s_u_law_shares_right : Stmt := topS 93
theorem sc_u_law_shares_right : FnScope [Str.ofString "cell", Str.ofString "job", Str.ofString "free", Str.ofString "rich", Str.ofString "steps", Str.ofString "share"] [Str.ofString "cell"] (defScope s_u_law_shares_right) := ⟨rfl, rfl, rfl, by decide +kernel, rfl, by decide +kernel, by decide +kernel⟩

theorem ok_u_law_shares_right (T : Txt K mg) : FnOk P w K mg base CX0 12 T.f_u_law_shares_right T.d_u_law_shares_right [Str.ofString "cell"] (spD K 1 F_u_law_shares_right) := by
  unfold F_u_law_shares_right
  refine def_ok' s_u_law_shares_right [Str.ofString "cell", Str.ofString "job", Str.ofString "free", Str.ofString "rich", Str.ofString "steps", Str.ofString "share"] [Str.ofString "cell"] 11 6 1 g_u_law_shares_right T.fun_u_law_shares_right sc_u_law_shares_right rfl rfl fun cdv A outer s H E hr => ?_
  have hu := hr.units
  have h5 := hr.units5
  exact (dss_cons (ds_par 1 2 rfl sc_u_law_shares_right.nd (da_cons (de_call0 (ok_u_law_two T) (hr.mono (by decide)) (by rfl) T.m_u_law_two T.fun_u_law_two.kp T.b_u_law_two) (da_cons (de_make T.mk_Job (ok_JobD_initD T) (hr.mono (by decide)) (by rfl) T.mc_Job T.b_JobD_initD (da_cons (de_tup (da_cons de_int (da_cons de_int da_nil))) (da_cons (de_tup (da_cons (de_tup (da_cons de_int (da_cons (de_tup (da_cons de_int (da_cons de_int da_nil))) da_nil))) (da_cons (de_tup (da_cons de_int (da_cons (de_tup (da_cons de_int (da_cons de_int da_nil))) da_nil))) da_nil))) da_nil))) da_nil)))
      (dss_cons (ds_set 3 sc_u_law_shares_right.nd (de_make T.mk_Job (ok_JobD_initD T) (hr.mono (by decide)) (by rfl) T.mc_Job T.b_JobD_initD (da_cons (de_tup (da_cons de_int (da_cons de_int da_nil))) (da_cons (de_tup (da_cons (de_tup (da_cons de_int (da_cons (de_tup (da_cons de_int (da_cons de_int da_nil))) da_nil))) (da_cons (de_tup (da_cons de_int (da_cons (de_tup (da_cons de_int (da_cons de_int da_nil))) da_nil))) (da_cons (de_tup (da_cons de_int (da_cons (de_tup (da_cons de_int (da_cons de_int da_nil))) da_nil))) da_nil)))) da_nil))))
      (dss_cons (ds_if (dt_w (dw_or (dt_cmp (od_neA h5) (db_of (de_call (ok_turns T) (hr.mono (by decide)) (by rfl) T.m_turns T.fun_turns.kp T.b_turns (da_cons (de_var 1 (pv 1)) da_nil))) (db_of (de_of (df_lst (da_cons (de_tup (da_cons (de_tup (da_cons de_int (da_cons de_int da_nil))) (da_cons de_int da_nil))) (da_cons (de_tup (da_cons (de_tup (da_cons de_int (da_cons de_int da_nil))) (da_cons de_int da_nil))) da_nil))))) (nomark _)) (dw_or1 (dt_cmp (od_neA h5) (db_of (de_call (ok_best_share T) (hr.mono (by decide)) (by rfl) T.m_best_share T.fun_best_share.kp T.b_best_share (da_cons (de_var 1 (pv 1)) da_nil))) (db_of (de_tup (da_cons (de_tup (da_cons de_int (da_cons de_int da_nil))) (da_cons (de_tup (da_cons de_int (da_cons de_int da_nil))) da_nil)))) (nomark _))))) (dss_one (ds_ret de_bl)) dss_nil)
      (dss_cons (ds_if (dt_cmp (od_neA h5) (db_of (de_call (ok_turns T) (hr.mono (by decide)) (by rfl) T.m_turns T.fun_turns.kp T.b_turns (da_cons (de_var 2 (pv 2)) da_nil))) (db_of (de_of (df_lst (da_cons (de_tup (da_cons (de_tup (da_cons de_int (da_cons de_int da_nil))) (da_cons de_int da_nil))) da_nil)))) (nomark _)) (dss_one (ds_ret de_bl)) dss_nil)
      (dss_cons (ds_if (dt_w (dw_or (dt_cmp (od_neA h5) (db_of (de_call (ok_turns T) (hr.mono (by decide)) (by rfl) T.m_turns T.fun_turns.kp T.b_turns (da_cons (de_var 3 (pv 3)) da_nil))) (db_of (de_of (df_lst (da_cons (de_tup (da_cons (de_tup (da_cons de_int (da_cons de_int da_nil))) (da_cons de_non da_nil))) (da_cons (de_tup (da_cons (de_tup (da_cons de_int (da_cons de_int da_nil))) (da_cons de_int da_nil))) da_nil))))) (nomark _)) (dw_or1 (dt_cmp (od_neA h5) (db_of (de_call (ok_best_share T) (hr.mono (by decide)) (by rfl) T.m_best_share T.fun_best_share.kp T.b_best_share (da_cons (de_var 3 (pv 3)) da_nil))) (db_of (de_tup (da_cons (de_tup (da_cons de_int (da_cons de_int da_nil))) (da_cons (de_tup (da_cons de_int (da_cons de_int da_nil))) da_nil)))) (nomark _))))) (dss_one (ds_ret de_bl)) dss_nil)
      (dss_cons (ds_if (dt_cmp (od_neA h5) (db_of (de_call (ok_best_share T) (hr.mono (by decide)) (by rfl) T.m_best_share T.fun_best_share.kp T.b_best_share (da_cons (de_var 2 (pv 2)) da_nil))) (db_of (de_tup (da_cons (de_tup (da_cons de_int (da_cons de_int da_nil))) (da_cons (de_tup (da_cons de_int (da_cons de_int da_nil))) da_nil)))) (nomark _)) (dss_one (ds_ret de_bl)) dss_nil)
      (dss_cons (ds_if (dt_cmp (od_neA h5) (db_of (de_of (df_lc [(Str.ofString "share", 5)] rfl sc_u_law_shares_right.nd (di_A (de_tup (da_cons (de_tup (da_cons de_int (da_cons de_int da_nil))) (da_cons (de_tup (da_cons de_int (da_cons de_int da_nil))) (da_cons (de_tup (da_cons de_int (da_cons de_int da_nil))) (da_cons (de_tup (da_cons de_int (da_cons de_int da_nil))) da_nil)))))) (blkOk_by (by kernel_rfl)) (fun _ _ _ _ _ => (dg_name 5 sc_u_law_shares_right.nd)) (fun _ _ _ _ _ => dts_nil) (fun _ _ _ _ _ => (de_call (ok_done T) (hr.mono (by decide)) (by rfl) T.m_done T.fun_done.kp T.b_done (da_cons (de_var 3 (pv 3)) (da_cons (de_var 5 (pv 5)) da_nil))))))) (db_of (de_of (df_lst (da_cons de_non (da_cons de_non (da_cons de_int (da_cons de_int da_nil))))))) (nomark _)) (dss_one (ds_ret de_bl)) dss_nil)
      (dss_cons (ds_if (dt_cmp (od_neA h5) (db_of (de_call (ok_done T) (hr.mono (by decide)) (by rfl) T.m_done T.fun_done.kp T.b_done (da_cons (de_var 2 (pv 2)) (da_cons (de_tup (da_cons de_int (da_cons de_int da_nil))) da_nil)))) (db_of de_int) (nomark _)) (dss_one (ds_ret de_bl)) dss_nil)
      (dss_cons (ds_set 4 sc_u_law_shares_right.nd (de_make T.mk_Job (ok_JobD_initD T) (hr.mono (by decide)) (by rfl) T.mc_Job T.b_JobD_initD (da_cons (de_tup (da_cons de_int (da_cons de_int da_nil))) (da_cons (de_tup (da_cons (de_tup (da_cons de_int (da_cons (de_tup (da_cons de_int (da_cons de_int da_nil))) da_nil))) (da_cons (de_tup (da_cons de_int (da_cons (de_tup (da_cons de_int (da_cons de_int da_nil))) da_nil))) (da_cons (de_tup (da_cons de_int (da_cons (de_tup (da_cons de_int (da_cons de_int da_nil))) da_nil))) da_nil)))) da_nil))))
      (dss_cons (ds_if (dt_not (dt_w (dw_and (dt_cmp (od_eqA h5) (db_of (de_call (ok_turns T) (hr.mono (by decide)) (by rfl) T.m_turns T.fun_turns.kp T.b_turns (da_cons (de_var 4 (pv 4)) da_nil))) (db_of (de_of (df_lst (da_cons (de_tup (da_cons (de_tup (da_cons de_int (da_cons de_int da_nil))) (da_cons de_non da_nil))) (da_cons (de_tup (da_cons (de_tup (da_cons de_int (da_cons de_int da_nil))) (da_cons de_int da_nil))) (da_cons (de_tup (da_cons (de_tup (da_cons de_int (da_cons de_int da_nil))) (da_cons de_int da_nil))) da_nil)))))) (nomark _)) (dw_and1 (dt_cmp (od_eqA h5) (db_of (de_call (ok_best_share T) (hr.mono (by decide)) (by rfl) T.m_best_share T.fun_best_share.kp T.b_best_share (da_cons (de_var 4 (pv 4)) da_nil))) (db_of (de_tup (da_cons (de_tup (da_cons de_int (da_cons de_int da_nil))) (da_cons (de_tup (da_cons de_int (da_cons de_int da_nil))) da_nil)))) (nomark _)))))) (dss_one (ds_ret de_bl)) dss_nil)
      (dss_one (ds_ret (de_cmp (od_eqA h5) (db_of (de_call (ok_turns T) (hr.mono (by decide)) (by rfl) T.m_turns T.fun_turns.kp T.b_turns (da_cons (de_make T.mk_Job (ok_JobD_initD T) (hr.mono (by decide)) (by rfl) T.mc_Job T.b_JobD_initD (da_cons (de_tup (da_cons de_int (da_cons de_int da_nil))) (da_cons (de_tup (da_cons (de_tup (da_cons de_int (da_cons (de_tup (da_cons de_int (da_cons de_int da_nil))) da_nil))) (da_cons (de_tup (da_cons de_int (da_cons (de_tup (da_cons de_int (da_cons de_int da_nil))) da_nil))) da_nil))) da_nil))) da_nil))) (db_of (de_of (df_lst (da_cons (de_tup (da_cons (de_tup (da_cons de_int (da_cons de_int da_nil))) (da_cons de_non da_nil))) da_nil)))) (nomark _))))))))))))))

abbrev s_u_law_all_right : Stmt := topS 94
theorem sc_u_law_all_right : FnScope [Str.ofString "script", Str.ofString "seed"] [Str.ofString "script"] (defScope s_u_law_all_right) := ⟨rfl, rfl, rfl, by decide +kernel, rfl, by decide +kernel, by decide +kernel⟩

theorem ok_u_law_all_right (T : Txt K mg) : FnOk P w K mg base CX0 13 T.f_u_law_all_right T.d_u_law_all_right [Str.ofString "script"] (spD K 1 F_u_law_all_right) := by
  unfold F_u_law_all_right
  refine def_ok' s_u_law_all_right [Str.ofString "script", Str.ofString "seed"] [Str.ofString "script"] 12 2 1 g_u_law_all_right T.fun_u_law_all_right sc_u_law_all_right rfl rfl fun cdv A outer s H E hr => ?_
  have hu := hr.units
  have h5 := hr.units5
  exact (dss_cons (ds_set 1 sc_u_law_all_right.nd (de_call (ok_u_law_number T) (hr.mono (by decide)) (by rfl) T.m_u_law_number T.fun_u_law_number.kp T.b_u_law_number (da_cons (de_var 0 (pv 0)) (da_cons de_int da_nil))))
      (dss_cons (ds_if (dt_cmp (od_eqA h5) (db_of (de_op od_mod (db_of (de_callTy cd_int (by rfl) T.n_int (by decide +kernel) (dab_cons (db_var 1 (pv 1)) dab_nil))) (db_of de_int))) (db_of de_int) (nomark _)) (dss_one (ds_ret (de_call (ok_u_law_pays_right T) (hr.mono (by decide)) (by rfl) T.m_u_law_pays_right T.fun_u_law_pays_right.kp T.b_u_law_pays_right (da_cons (de_op od_div (db_var 1 (pv 1)) (db_of de_int)) da_nil)))) dss_nil)
      (dss_cons (ds_if (dt_cmp (od_eqA h5) (db_of (de_op od_mod (db_of (de_callTy cd_int (by rfl) T.n_int (by decide +kernel) (dab_cons (db_var 1 (pv 1)) dab_nil))) (db_of de_int))) (db_of de_int) (nomark _)) (dss_one (ds_ret (de_call (ok_u_law_bars_right T) (hr.mono (by decide)) (by rfl) T.m_u_law_bars_right T.fun_u_law_bars_right.kp T.b_u_law_bars_right (da_cons (de_op od_div (db_var 1 (pv 1)) (db_of de_int)) da_nil)))) dss_nil)
      (dss_one (ds_ret (de_if (dt_cmp (od_eqA h5) (db_of (de_op od_mod (db_of (de_callTy cd_int (by rfl) T.n_int (by decide +kernel) (dab_cons (db_var 1 (pv 1)) dab_nil))) (db_of de_int))) (db_of de_int) (nomark _)) (de_call (ok_u_law_choices_right T) (hr.mono (by decide)) (by rfl) T.m_u_law_choices_right T.fun_u_law_choices_right.kp T.b_u_law_choices_right (da_cons (de_op od_div (db_var 1 (pv 1)) (db_of de_int)) da_nil)) (de_call (ok_u_law_shares_right T) (hr.mono (by decide)) (by rfl) T.m_u_law_shares_right T.fun_u_law_shares_right.kp T.b_u_law_shares_right (da_cons (de_op od_div (db_var 1 (pv 1)) (db_of de_int)) da_nil))))))))
end
end K06

set_option maxHeartbeats 4000000
namespace K06
open PySem PySem.Spec PyProof.Rows L2 DL
def isT : Option D → Bool
  | some (.bl b) => b
  | _ => false
theorem isT_of {x : Option D} (h : isT x = true) : x = some (.bl true) := by
  unfold isT at h
  split at h
  · subst h; rfl
  · cases h
theorem pays_true (n : Int) : isT (F_u_law_pays_right [.int n]) = true := by kernel_rfl
theorem bars_true (n : Int) : isT (F_u_law_bars_right [.int n]) = true := by kernel_rfl
theorem choices_true (n : Int) : isT (F_u_law_choices_right [.int n]) = true := by kernel_rfl
theorem shares_true (n : Int) : isT (F_u_law_shares_right [.int n]) = true := by kernel_rfl
theorem number_eq : F_u_law_number = mkF 7 gNum := rfl
theorem all_true (ns : List Int) (h : ns.length ≤ 63) : F_u_law_all_right [.scr ns] = some (.bl true) := by
  obtain ⟨n, e⟩ := num_ex ns h (i := 3) (by decide) (by decide)
  have e : F_u_law_number [.scr ns, .int 3] = some (.int n) := by rw [number_eq]; exact e
  have s4 : sz 4 = true := by decide
  have p1 := isT_of (pays_true (n / 4))
  have p2 := isT_of (bars_true (n / 4))
  have p3 := isT_of (choices_true (n / 4))
  have p4 := isT_of (shares_true (n / 4))
  simp only [F_u_law_all_right, g_u_law_all_right, mkF, startD, ap_Seq, back_ret, ap_Set, ap_SetF, ap_Call, ap_CB, ap_Cons, ap_Nil, ap_2, ap_C, ap_V, ap_VB, ap_Tup, ap_Lst, ap_If, ap_Not, ap_Nx, ap_Exp, ap_Par, ap_ParF, ap_Wh, ap_For, ap_IfS, ap_bN, ap_bT, ap_bC, ap_b0, ix0, ix1, gAdd_eq, gAddA_eq, gEqA_int, gEqA_int', ixA0, ixA1, gSub_eq, List.map_cons, List.map_nil, List.length_cons, List.length_nil, List.cons_append, List.nil_append, List.replicate, List.getElem?_cons_zero, List.getElem?_cons_succ, List.set_cons_zero, List.set_cons_succ, bind_s, Option.map_some, if_true, Nat.reduceAdd, Nat.reduceSub, Nat.reduceLeDiff, reduceIte, e, gInt_eq, mMod_eq (show (0 : Int) < 4 by decide), mDiv_eq (show (0 : Int) < 4 by decide) s4]
  cases h0 : (n % 4 == 0)
  · simp only [ap_Seq, ap_IfS, ap_Nx]
    cases h1 : (n % 4 == 1)
    · cases h2 : (n % 4 == 2)
      · simp only [mkF, startD, ap_Seq, back_ret, ap_Set, ap_SetF, ap_Call, ap_CB, ap_Cons, ap_Nil, ap_2, ap_C, ap_V, ap_VB, ap_Tup, ap_Lst, ap_If, ap_Not, ap_Nx, ap_Exp, ap_Par, ap_ParF, ap_Wh, ap_For, ap_IfS, ap_bN, ap_bT, ap_bC, ap_b0, ix0, ix1, gAdd_eq, gAddA_eq, gEqA_int, gEqA_int', ixA0, ixA1, gSub_eq, List.map_cons, List.map_nil, List.length_cons, List.length_nil, List.cons_append, List.nil_append, List.replicate, List.getElem?_cons_zero, List.getElem?_cons_succ, List.set_cons_zero, List.set_cons_succ, bind_s, Option.map_some, if_true, Nat.reduceAdd, Nat.reduceSub, Nat.reduceLeDiff, reduceIte, p4, h2, h1, mDiv_eq (show (0 : Int) < 4 by decide) s4, gInt_eq, mMod_eq (show (0 : Int) < 4 by decide)]
      · simp only [mkF, startD, ap_Seq, back_ret, ap_Set, ap_SetF, ap_Call, ap_CB, ap_Cons, ap_Nil, ap_2, ap_C, ap_V, ap_VB, ap_Tup, ap_Lst, ap_If, ap_Not, ap_Nx, ap_Exp, ap_Par, ap_ParF, ap_Wh, ap_For, ap_IfS, ap_bN, ap_bT, ap_bC, ap_b0, ix0, ix1, gAdd_eq, gAddA_eq, gEqA_int, gEqA_int', ixA0, ixA1, gSub_eq, List.map_cons, List.map_nil, List.length_cons, List.length_nil, List.cons_append, List.nil_append, List.replicate, List.getElem?_cons_zero, List.getElem?_cons_succ, List.set_cons_zero, List.set_cons_succ, bind_s, Option.map_some, if_true, Nat.reduceAdd, Nat.reduceSub, Nat.reduceLeDiff, reduceIte, p3, h2, h1, mDiv_eq (show (0 : Int) < 4 by decide) s4, gInt_eq, mMod_eq (show (0 : Int) < 4 by decide)]
    · simp only [mkF, startD, ap_Seq, back_ret, ap_Set, ap_SetF, ap_Call, ap_CB, ap_Cons, ap_Nil, ap_2, ap_C, ap_V, ap_VB, ap_Tup, ap_Lst, ap_If, ap_Not, ap_Nx, ap_Exp, ap_Par, ap_ParF, ap_Wh, ap_For, ap_IfS, ap_bN, ap_bT, ap_bC, ap_b0, ix0, ix1, gAdd_eq, gAddA_eq, gEqA_int, gEqA_int', ixA0, ixA1, gSub_eq, List.map_cons, List.map_nil, List.length_cons, List.length_nil, List.cons_append, List.nil_append, List.replicate, List.getElem?_cons_zero, List.getElem?_cons_succ, List.set_cons_zero, List.set_cons_succ, bind_s, Option.map_some, if_true, Nat.reduceAdd, Nat.reduceSub, Nat.reduceLeDiff, reduceIte, p2, h1, mDiv_eq (show (0 : Int) < 4 by decide) s4, gInt_eq, mMod_eq (show (0 : Int) < 4 by decide), gRet, backD]
  · simp only [mkF, startD, ap_Seq, back_ret, ap_Set, ap_SetF, ap_Call, ap_CB, ap_Cons, ap_Nil, ap_2, ap_C, ap_V, ap_VB, ap_Tup, ap_Lst, ap_If, ap_Not, ap_Nx, ap_Exp, ap_Par, ap_ParF, ap_Wh, ap_For, ap_IfS, ap_bN, ap_bT, ap_bC, ap_b0, ix0, ix1, gAdd_eq, gAddA_eq, gEqA_int, gEqA_int', ixA0, ixA1, gSub_eq, List.map_cons, List.map_nil, List.length_cons, List.length_nil, List.cons_append, List.nil_append, List.replicate, List.getElem?_cons_zero, List.getElem?_cons_succ, List.set_cons_zero, List.set_cons_succ, bind_s, Option.map_some, if_true, Nat.reduceAdd, Nat.reduceSub, Nat.reduceLeDiff, reduceIte, p1, mDiv_eq (show (0 : Int) < 4 by decide) s4, gInt_eq, mMod_eq (show (0 : Int) < 4 by decide), gRet, backD]
end K06

set_option maxHeartbeats 8000000
namespace K06
open PySem PySem.Spec PyProof.Rows L2 DL
theorem kit_self (K : PySem.W.Frag) (C : Addr) : PySem.W.kitOne K (.ref C) (.ref C) = some true := by
  unfold PySem.W.kitOne
  rw [if_pos]
  simp
theorem exm_self {K : PySem.W.Frag} {C : Addr} (b : PySem.W.subIn K (.ref C) (.type "BaseException") = some true) (i : PySem.W.isClsIn K C = true) (t : PySem.W.typeIn K (.ref C) = some (.type "type")) (s : PySem.W.subIn K (.ref C) (.ref C) = some true) : PySem.W.exmOne K (.ref C) (.ref C) = some true := by
  unfold PySem.W.exmOne
  rw [b, if_pos (by rfl)]
  unfold PySem.W.kitCls
  unfold PySem.W.isClsIn at i
  show (if ((PySem.W.clsIn K C).isSome && PySem.W.typeIn K (.ref C) == some (.type "type")) = true then PySem.W.subIn K (.ref C) (.ref C) else none) = some true
  rw [if_pos (by rw [i, t]; rfl)]
  exact s
def spLaw (K : PySem.W.Frag) : Sp := fun vs H Q _ => ∃ (a : Addr) (ns : List Int), vs = [.ref a] ∧ SqL K H a (ns.map V.int) ∧ ns.length ≤ 63 ∧ ∀ H', Q (.bl true) H'
abbrev s_law : Stmt := topS 95
theorem sc_law : FnScope ["script"] ["script"] (defScope s_law) := ⟨rfl, rfl, rfl, by decide +kernel, rfl, by decide +kernel, by decide +kernel⟩
section
variable {P : Program} {w : World} {K : PySem.W.Frag} {mg : Str → Option Value} {base : Heap}
theorem ok_law [CT] {f : Addr} {fd : FuncData} (F : Fun K "law" "law" s_law f fd) (T : Txt K mg) {CP : Addr} (gP : mg "PayError" = some (.ref CP)) (hall : ∀ ns : List Int, ns.length ≤ 63 → F_u_law_all_right [.scr ns] = some (.bl true)) : FnOk P w K mg base CX0 14 f fd ["script"] (spLaw K) := by
  refine F.ok sc_law (fun vs H Q E h => ?_) (fun cdv A outer s H vs Q E hr h => ?_)
  · obtain ⟨a, ns, rfl, _⟩ := h
    rfl
  · obtain ⟨a, ns, rfl, hS, hl, k⟩ := h
    have go : ∀ Q' : L2.VK, (∀ H', Q' (.bl true) H') → spD K 1 F_u_law_all_right [.ref a] H Q' E0 := fun Q' k' => ⟨rfl, fun _ => False, [.scr ns], fun _ z => z.elim, .cons (.scr (L2.Same.seq (fun b o q => hide_some.mpr ⟨fun z => z, q⟩) hS)) .nil, _, hall ns hl, fun v H' _ r => by cases r; exact k' H'⟩
    refine ⟨_, pss_one (ps_try_only rfl rfl ⟨rfl, by decide, .inl gP⟩ takes0 (fun W pn xe tk _ => pss_one (ps_ret (pe_call (ok_u_law_all_right T) (hr.mono (by decide)) (by rfl) T.m_u_law_all_right T.fun_u_law_all_right.kp T.b_u_law_all_right .nil pass0 (pa_cons (pv 0) pa_nil)))) (fun a oe cls d pn _ _ => pss_one (ps_ret pe_bl))), ?_⟩
    exact ⟨.ref a, rfl, go _ k⟩
end
theorem kit_not {K : PySem.W.Frag} {a b : Addr} (ne : ((Value.ref a) == (Value.ref b)) = false) (h : PySem.W.kitCls K (.ref a) (.ref b) = some false) : PySem.W.kitOne K (.ref a) (.ref b) = some false := by
  unfold PySem.W.kitOne
  rw [if_neg (by rw [ne]; exact Bool.false_ne_true)]
  exact h
@[reducible] def ctOf (c0 c1 c2 c3 : Addr) : CT := ⟨fun k => match k with | 0 => c0 | 1 => c1 | 2 => c2 | 3 => c3 | _ => c0⟩
theorem all_mk {l : PySem.W.OpenLaw} {w : World} {K : PySem.W.Frag} {h : Heap} {mg : Str → Option Value} {fa : Addr} (X : K.In h) (G : h.Ns mainGlobals mg) (hfa : mg "law" = some (.ref fa))
    {C_Job : Addr}
    {C_Enough : Addr}
    {C_Barred : Addr}
    {C_Best : Addr}
    {f0 : Addr} {od0 an0 : Option Addr} {sl0 : Array (Option Value)} {oc0 dc0 pm0 cd0 ct0 : Value} {kV0 : Value}
    {f1 : Addr} {od1 an1 : Option Addr} {sl1 : Array (Option Value)} {oc1 dc1 pm1 cd1 ct1 : Value} {kV1 : Value}
    {f2 : Addr} {od2 an2 : Option Addr} {sl2 : Array (Option Value)} {oc2 dc2 pm2 cd2 ct2 : Value} {kV2 : Value}
    {f3 : Addr} {od3 an3 : Option Addr} {sl3 : Array (Option Value)} {oc3 dc3 pm3 cd3 ct3 : Value} {kV3 : Value}
    {f4 : Addr} {od4 an4 : Option Addr} {sl4 : Array (Option Value)} {oc4 dc4 pm4 cd4 ct4 : Value} {kV4 : Value}
    {f5 : Addr} {od5 an5 : Option Addr} {sl5 : Array (Option Value)} {oc5 dc5 pm5 cd5 ct5 : Value} {kV5 : Value}
    {p5 : Addr} {rs5 : List Value}
    {f6 : Addr} {od6 an6 : Option Addr} {sl6 : Array (Option Value)} {oc6 dc6 pm6 cd6 ct6 : Value} {kV6 : Value}
    {f7 : Addr} {od7 an7 : Option Addr} {sl7 : Array (Option Value)} {oc7 dc7 pm7 cd7 ct7 : Value} {kV7 : Value}
    {f8 : Addr} {od8 an8 : Option Addr} {sl8 : Array (Option Value)} {oc8 dc8 pm8 cd8 ct8 : Value} {kV8 : Value}
    {f9 : Addr} {od9 an9 : Option Addr} {sl9 : Array (Option Value)} {oc9 dc9 pm9 cd9 ct9 : Value} {kV9 : Value}
    {f10 : Addr} {od10 an10 : Option Addr} {sl10 : Array (Option Value)} {oc10 dc10 pm10 cd10 ct10 : Value} {kV10 : Value}
    {f11 : Addr} {od11 an11 : Option Addr} {sl11 : Array (Option Value)} {oc11 dc11 pm11 cd11 ct11 : Value} {kV11 : Value}
    {f12 : Addr} {od12 an12 : Option Addr} {sl12 : Array (Option Value)} {oc12 dc12 pm12 cd12 ct12 : Value} {kV12 : Value}
    {f13 : Addr} {od13 an13 : Option Addr} {sl13 : Array (Option Value)} {oc13 dc13 pm13 cd13 ct13 : Value} {kV13 : Value}
    {f14 : Addr} {od14 an14 : Option Addr} {sl14 : Array (Option Value)} {oc14 dc14 pm14 cd14 ct14 : Value} {kV14 : Value}
    {f15 : Addr} {od15 an15 : Option Addr} {sl15 : Array (Option Value)} {oc15 dc15 pm15 cd15 ct15 : Value} {kV15 : Value}
    {f16 : Addr} {od16 an16 : Option Addr} {sl16 : Array (Option Value)} {oc16 dc16 pm16 cd16 ct16 : Value} {kV16 : Value}
    {f17 : Addr} {od17 an17 : Option Addr} {sl17 : Array (Option Value)} {oc17 dc17 pm17 cd17 ct17 : Value} {kV17 : Value}
    {f18 : Addr} {od18 an18 : Option Addr} {sl18 : Array (Option Value)} {oc18 dc18 pm18 cd18 ct18 : Value} {kV18 : Value}
    {f19 : Addr} {od19 an19 : Option Addr} {sl19 : Array (Option Value)} {oc19 dc19 pm19 cd19 ct19 : Value} {kV19 : Value}
    {f20 : Addr} {od20 an20 : Option Addr} {sl20 : Array (Option Value)} {oc20 dc20 pm20 cd20 ct20 : Value} {kV20 : Value}
    {f21 : Addr} {od21 an21 : Option Addr} {sl21 : Array (Option Value)} {oc21 dc21 pm21 cd21 ct21 : Value} {kV21 : Value}
    {f22 : Addr} {od22 an22 : Option Addr} {sl22 : Array (Option Value)} {oc22 dc22 pm22 cd22 ct22 : Value} {kV22 : Value}
    {f23 : Addr} {od23 an23 : Option Addr} {sl23 : Array (Option Value)} {oc23 dc23 pm23 cd23 ct23 : Value} {kV23 : Value}
    {f24 : Addr} {od24 an24 : Option Addr} {sl24 : Array (Option Value)} {oc24 dc24 pm24 cd24 ct24 : Value} {kV24 : Value}
    {f25 : Addr} {od25 an25 : Option Addr} {sl25 : Array (Option Value)} {oc25 dc25 pm25 cd25 ct25 : Value} {kV25 : Value}
    {f26 : Addr} {od26 an26 : Option Addr} {sl26 : Array (Option Value)} {oc26 dc26 pm26 cd26 ct26 : Value} {kD26 : Addr}
    {f27 : Addr} {od27 an27 : Option Addr} {sl27 : Array (Option Value)} {oc27 dc27 pm27 cd27 ct27 : Value} {kV27 : Value}
    {f28 : Addr} {od28 an28 : Option Addr} {sl28 : Array (Option Value)} {oc28 dc28 pm28 cd28 ct28 : Value} {kV28 : Value}
    {f29 : Addr} {od29 an29 : Option Addr} {sl29 : Array (Option Value)} {oc29 dc29 pm29 cd29 ct29 : Value} {kV29 : Value}
    {p29 : Addr} {rs29 : List Value}
    {f30 : Addr} {od30 an30 : Option Addr} {sl30 : Array (Option Value)} {oc30 dc30 pm30 cd30 ct30 : Value} {kV30 : Value}
    {f31 : Addr} {od31 an31 : Option Addr} {sl31 : Array (Option Value)} {oc31 dc31 pm31 cd31 ct31 : Value} {kV31 : Value}
    {f32 : Addr} {od32 an32 : Option Addr} {sl32 : Array (Option Value)} {oc32 dc32 pm32 cd32 ct32 : Value} {kV32 : Value}
    {f33 : Addr} {od33 an33 : Option Addr} {sl33 : Array (Option Value)} {oc33 dc33 pm33 cd33 ct33 : Value} {kV33 : Value}
    {f34 : Addr} {od34 an34 : Option Addr} {sl34 : Array (Option Value)} {oc34 dc34 pm34 cd34 ct34 : Value} {kV34 : Value}
    {f35 : Addr} {od35 an35 : Option Addr} {sl35 : Array (Option Value)} {oc35 dc35 pm35 cd35 ct35 : Value} {kV35 : Value}
    {f36 : Addr} {od36 an36 : Option Addr} {sl36 : Array (Option Value)} {oc36 dc36 pm36 cd36 ct36 : Value} {kV36 : Value}
    {f37 : Addr} {od37 an37 : Option Addr} {sl37 : Array (Option Value)} {oc37 dc37 pm37 cd37 ct37 : Value} {kV37 : Value}
    {f38 : Addr} {od38 an38 : Option Addr} {sl38 : Array (Option Value)} {oc38 dc38 pm38 cd38 ct38 : Value} {kV38 : Value}
    {f39 : Addr} {od39 an39 : Option Addr} {sl39 : Array (Option Value)} {oc39 dc39 pm39 cd39 ct39 : Value} {kV39 : Value}
    {f40 : Addr} {od40 an40 : Option Addr} {sl40 : Array (Option Value)} {oc40 dc40 pm40 cd40 ct40 : Value} {kD40 : Addr}
    {f41 : Addr} {od41 an41 : Option Addr} {sl41 : Array (Option Value)} {oc41 dc41 pm41 cd41 ct41 : Value} {kV41 : Value}
    {f42 : Addr} {od42 an42 : Option Addr} {sl42 : Array (Option Value)} {oc42 dc42 pm42 cd42 ct42 : Value} {kV42 : Value}
    {f43 : Addr} {od43 an43 : Option Addr} {sl43 : Array (Option Value)} {oc43 dc43 pm43 cd43 ct43 : Value} {kV43 : Value}
    {f44 : Addr} {od44 an44 : Option Addr} {sl44 : Array (Option Value)} {oc44 dc44 pm44 cd44 ct44 : Value} {kV44 : Value}
    {f45 : Addr} {od45 an45 : Option Addr} {sl45 : Array (Option Value)} {oc45 dc45 pm45 cd45 ct45 : Value} {kV45 : Value}
    {f46 : Addr} {od46 an46 : Option Addr} {sl46 : Array (Option Value)} {oc46 dc46 pm46 cd46 ct46 : Value} {kV46 : Value}
    {f47 : Addr} {od47 an47 : Option Addr} {sl47 : Array (Option Value)} {oc47 dc47 pm47 cd47 ct47 : Value} {kV47 : Value}
    {f48 : Addr} {od48 an48 : Option Addr} {sl48 : Array (Option Value)} {oc48 dc48 pm48 cd48 ct48 : Value} {kV48 : Value}
    {f49 : Addr} {od49 an49 : Option Addr} {sl49 : Array (Option Value)} {oc49 dc49 pm49 cd49 ct49 : Value} {kV49 : Value}
    {f50 : Addr} {od50 an50 : Option Addr} {sl50 : Array (Option Value)} {oc50 dc50 pm50 cd50 ct50 : Value} {kV50 : Value}
    {f51 : Addr} {od51 an51 : Option Addr} {sl51 : Array (Option Value)} {oc51 dc51 pm51 cd51 ct51 : Value} {kV51 : Value}
    {f52 : Addr} {od52 an52 : Option Addr} {sl52 : Array (Option Value)} {oc52 dc52 pm52 cd52 ct52 : Value} {kV52 : Value}
    {f53 : Addr} {od53 an53 : Option Addr} {sl53 : Array (Option Value)} {oc53 dc53 pm53 cd53 ct53 : Value} {kD53 : Addr}
    {f54 : Addr} {od54 an54 : Option Addr} {sl54 : Array (Option Value)} {oc54 dc54 pm54 cd54 ct54 : Value} {kD54 : Addr}
    {f55 : Addr} {od55 an55 : Option Addr} {sl55 : Array (Option Value)} {oc55 dc55 pm55 cd55 ct55 : Value} {kV55 : Value}
    {f56 : Addr} {od56 an56 : Option Addr} {sl56 : Array (Option Value)} {oc56 dc56 pm56 cd56 ct56 : Value} {kV56 : Value}
    {f57 : Addr} {od57 an57 : Option Addr} {sl57 : Array (Option Value)} {oc57 dc57 pm57 cd57 ct57 : Value} {kV57 : Value}
    {f58 : Addr} {od58 an58 : Option Addr} {sl58 : Array (Option Value)} {oc58 dc58 pm58 cd58 ct58 : Value} {kV58 : Value}
    {f59 : Addr} {od59 an59 : Option Addr} {sl59 : Array (Option Value)} {oc59 dc59 pm59 cd59 ct59 : Value} {kV59 : Value}
    {f60 : Addr} {od60 an60 : Option Addr} {sl60 : Array (Option Value)} {oc60 dc60 pm60 cd60 ct60 : Value} {kV60 : Value}
    {f61 : Addr} {od61 an61 : Option Addr} {sl61 : Array (Option Value)} {oc61 dc61 pm61 cd61 ct61 : Value} {kD61 : Addr}
    {f62 : Addr} {od62 an62 : Option Addr} {sl62 : Array (Option Value)} {oc62 dc62 pm62 cd62 ct62 : Value} {kV62 : Value}
    {f63 : Addr} {od63 an63 : Option Addr} {sl63 : Array (Option Value)} {oc63 dc63 pm63 cd63 ct63 : Value} {kD63 : Addr}
    {f64 : Addr} {od64 an64 : Option Addr} {sl64 : Array (Option Value)} {oc64 dc64 pm64 cd64 ct64 : Value} {kD64 : Addr}
    {f65 : Addr} {od65 an65 : Option Addr} {sl65 : Array (Option Value)} {oc65 dc65 pm65 cd65 ct65 : Value} {kV65 : Value}
    {f66 : Addr} {od66 an66 : Option Addr} {sl66 : Array (Option Value)} {oc66 dc66 pm66 cd66 ct66 : Value} {kV66 : Value}
    {f67 : Addr} {od67 an67 : Option Addr} {sl67 : Array (Option Value)} {oc67 dc67 pm67 cd67 ct67 : Value} {kV67 : Value}
    {f68 : Addr} {od68 an68 : Option Addr} {sl68 : Array (Option Value)} {oc68 dc68 pm68 cd68 ct68 : Value} {kV68 : Value}
    {f69 : Addr} {od69 an69 : Option Addr} {sl69 : Array (Option Value)} {oc69 dc69 pm69 cd69 ct69 : Value} {kV69 : Value}
    {f70 : Addr} {od70 an70 : Option Addr} {sl70 : Array (Option Value)} {oc70 dc70 pm70 cd70 ct70 : Value} {kV70 : Value}
    {f71 : Addr} {od71 an71 : Option Addr} {sl71 : Array (Option Value)} {oc71 dc71 pm71 cd71 ct71 : Value} {kV71 : Value}
    {f72 : Addr} {od72 an72 : Option Addr} {sl72 : Array (Option Value)} {oc72 dc72 pm72 cd72 ct72 : Value} {kV72 : Value}
    {f73 : Addr} {od73 an73 : Option Addr} {sl73 : Array (Option Value)} {oc73 dc73 pm73 cd73 ct73 : Value} {kV73 : Value}
    {f74 : Addr} {od74 an74 : Option Addr} {sl74 : Array (Option Value)} {oc74 dc74 pm74 cd74 ct74 : Value} {kV74 : Value}
    {f75 : Addr} {od75 an75 : Option Addr} {sl75 : Array (Option Value)} {oc75 dc75 pm75 cd75 ct75 : Value} {kV75 : Value}
    {f76 : Addr} {od76 an76 : Option Addr} {sl76 : Array (Option Value)} {oc76 dc76 pm76 cd76 ct76 : Value} {kV76 : Value}
    {f77 : Addr} {od77 an77 : Option Addr} {sl77 : Array (Option Value)} {oc77 dc77 pm77 cd77 ct77 : Value} {kV77 : Value}
    {f78 : Addr} {od78 an78 : Option Addr} {sl78 : Array (Option Value)} {oc78 dc78 pm78 cd78 ct78 : Value} {kV78 : Value}
    {t_FEWEST : Tok}
    {t_MOST : Tok}
    {t_MOST_EFFORT : Tok}
    {t_MOST_PART : Tok}
    {t_MOST_WORTH : Tok}
    {a_ONE : Addr} {dd_ONE : Option Addr} {nn_ONE : Nat} {ss_ONE : Array (Option Value)} {u_ONE_0 u_ONE_1 : Tok}
    {a_ZERO : Addr} {dd_ZERO : Option Addr} {nn_ZERO : Nat} {ss_ZERO : Array (Option Value)} {u_ZERO_0 u_ZERO_1 : Tok}
    {CP : Addr}
    {fl : Addr} {odl anl : Option Addr} {sll : Array (Option Value)} {ocl kVl dcl pml cdl ctl : Value}
    (aC_Job : PySem.W.nsIn K mainGlobals "Job" = some (some (.ref C_Job)))
    (aC_Enough : PySem.W.nsIn K mainGlobals "Enough" = some (some (.ref C_Enough)))
    (aC_Barred : PySem.W.nsIn K mainGlobals "Barred" = some (some (.ref C_Barred)))
    (aC_Best : PySem.W.nsIn K mainGlobals "Best" = some (some (.ref C_Best)))
    (a0 : PySem.W.findIn K (.ref C_Barred) "__init__" = some (some (.ref f0)))
    (i0 : PySem.W.isFn K (.ref f0) = true)
    (l0 : K.lookup f0 = some ⟨oc0, od0, .func (PySem.W.fnOf "__init__" "Barred.__init__" (defArgs (inClass (topS 64) 0)) (defBody (inClass (topS 64) 0)) (defScope (inClass (topS 64) 0)) .none kV0 dc0 pm0 an0 cd0 ct0), sl0⟩)
    (c0 : PySem.W.codeIn K cd0 "Barred.__init__" = true)
    (k0 : PySem.W.keepIn K (.ref f0) = true)
    (a1 : PySem.W.findIn K (.ref C_Job) "__len__" = some (some (.ref f1)))
    (i1 : PySem.W.isFn K (.ref f1) = true)
    (l1 : K.lookup f1 = some ⟨oc1, od1, .func (PySem.W.fnOf "__len__" "Job.__len__" (defArgs (inClass (topS 46) 3)) (defBody (inClass (topS 46) 3)) (defScope (inClass (topS 46) 3)) .none kV1 dc1 pm1 an1 cd1 ct1), sl1⟩)
    (c1 : PySem.W.codeIn K cd1 "Job.__len__" = true)
    (k1 : PySem.W.keepIn K (.ref f1) = true)
    (a2 : PySem.W.nsIn K mainGlobals "ratio" = some (some (.ref f2)))
    (l2 : K.lookup f2 = some ⟨oc2, od2, .func (PySem.W.fnOf "ratio" "ratio" (defArgs (topS 8)) (defBody (topS 8)) (defScope (topS 8)) .none kV2 dc2 pm2 an2 cd2 ct2), sl2⟩)
    (c2 : PySem.W.codeIn K cd2 "ratio" = true)
    (k2 : PySem.W.keepIn K (.ref f2) = true)
    (a3 : PySem.W.nsIn K mainGlobals "plus" = some (some (.ref f3)))
    (l3 : K.lookup f3 = some ⟨oc3, od3, .func (PySem.W.fnOf "plus" "plus" (defArgs (topS 9)) (defBody (topS 9)) (defScope (topS 9)) .none kV3 dc3 pm3 an3 cd3 ct3), sl3⟩)
    (c3 : PySem.W.codeIn K cd3 "plus" = true)
    (k3 : PySem.W.keepIn K (.ref f3) = true)
    (a4 : PySem.W.nsIn K mainGlobals "_sums" = some (some (.ref f4)))
    (l4 : K.lookup f4 = some ⟨oc4, od4, .func (PySem.W.fnOf "_sums" "_sums" (defArgs (topS 68)) (defBody (topS 68)) (defScope (topS 68)) .none kV4 dc4 pm4 an4 cd4 ct4), sl4⟩)
    (c4 : PySem.W.codeIn K cd4 "_sums" = true)
    (k4 : PySem.W.keepIn K (.ref f4) = true)
    (p1_5 : PySem.W.findIn K (.ref C_Job) "works" = some (some (.ref p5)))
    (p4_5 : PySem.W.recIn K p5 "property" = some (.ref f5 :: rs5))
    (p2_5 : PySem.W.specialIn K (.ref p5) "__get__" = some (some (.builtin "property.__get__")))
    (p3_5 : PySem.W.takesIn K (.ref p5) = some true)
    (l5 : K.lookup f5 = some ⟨oc5, od5, .func (PySem.W.fnOf "works" "Job.works" (defArgs (inClass (topS 46) 2)) (defBody (inClass (topS 46) 2)) (defScope (inClass (topS 46) 2)) .none kV5 dc5 pm5 an5 cd5 ct5), sl5⟩)
    (c5 : PySem.W.codeIn K cd5 "Job.works" = true)
    (k5 : PySem.W.keepIn K (.ref f5) = true)
    (a6 : PySem.W.nsIn K mainGlobals "work_chances" = some (some (.ref f6)))
    (l6 : K.lookup f6 = some ⟨oc6, od6, .func (PySem.W.fnOf "work_chances" "work_chances" (defArgs (topS 56)) (defBody (topS 56)) (defScope (topS 56)) .none kV6 dc6 pm6 an6 cd6 ct6), sl6⟩)
    (c6 : PySem.W.codeIn K cd6 "work_chances" = true)
    (k6 : PySem.W.keepIn K (.ref f6) = true)
    (a7 : PySem.W.nsIn K mainGlobals "_views" = some (some (.ref f7)))
    (l7 : K.lookup f7 = some ⟨oc7, od7, .func (PySem.W.fnOf "_views" "_views" (defArgs (topS 67)) (defBody (topS 67)) (defScope (topS 67)) .none kV7 dc7 pm7 an7 cd7 ct7), sl7⟩)
    (c7 : PySem.W.codeIn K cd7 "_views" = true)
    (k7 : PySem.W.keepIn K (.ref f7) = true)
    (a8 : PySem.W.nsIn K mainGlobals "is_integer" = some (some (.ref f8)))
    (l8 : K.lookup f8 = some ⟨oc8, od8, .func (PySem.W.fnOf "is_integer" "is_integer" (defArgs (topS 4)) (defBody (topS 4)) (defScope (topS 4)) .none kV8 dc8 pm8 an8 cd8 ct8), sl8⟩)
    (c8 : PySem.W.codeIn K cd8 "is_integer" = true)
    (k8 : PySem.W.keepIn K (.ref f8) = true)
    (a9 : PySem.W.nsIn K mainGlobals "is_integer_within" = some (some (.ref f9)))
    (l9 : K.lookup f9 = some ⟨oc9, od9, .func (PySem.W.fnOf "is_integer_within" "is_integer_within" (defArgs (topS 5)) (defBody (topS 5)) (defScope (topS 5)) .none kV9 dc9 pm9 an9 cd9 ct9), sl9⟩)
    (c9 : PySem.W.codeIn K cd9 "is_integer_within" = true)
    (k9 : PySem.W.keepIn K (.ref f9) = true)
    (a10 : PySem.W.nsIn K mainGlobals "_are_parts" = some (some (.ref f10)))
    (l10 : K.lookup f10 = some ⟨oc10, od10, .func (PySem.W.fnOf "_are_parts" "_are_parts" (defArgs (topS 50)) (defBody (topS 50)) (defScope (topS 50)) .none kV10 dc10 pm10 an10 cd10 ct10), sl10⟩)
    (c10 : PySem.W.codeIn K cd10 "_are_parts" = true)
    (k10 : PySem.W.keepIn K (.ref f10) = true)
    (a11 : PySem.W.nsIn K mainGlobals "is_work" = some (some (.ref f11)))
    (l11 : K.lookup f11 = some ⟨oc11, od11, .func (PySem.W.fnOf "is_work" "is_work" (defArgs (topS 49)) (defBody (topS 49)) (defScope (topS 49)) .none kV11 dc11 pm11 an11 cd11 ct11), sl11⟩)
    (c11 : PySem.W.codeIn K cd11 "is_work" = true)
    (k11 : PySem.W.keepIn K (.ref f11) = true)
    (a12 : PySem.W.nsIn K mainGlobals "_are_works" = some (some (.ref f12)))
    (l12 : K.lookup f12 = some ⟨oc12, od12, .func (PySem.W.fnOf "_are_works" "_are_works" (defArgs (topS 48)) (defBody (topS 48)) (defScope (topS 48)) .none kV12 dc12 pm12 an12 cd12 ct12), sl12⟩)
    (c12 : PySem.W.codeIn K cd12 "_are_works" = true)
    (k12 : PySem.W.keepIn K (.ref f12) = true)
    (a13 : PySem.W.nsIn K mainGlobals "are_worths" = some (some (.ref f13)))
    (l13 : K.lookup f13 = some ⟨oc13, od13, .func (PySem.W.fnOf "are_worths" "are_worths" (defArgs (topS 47)) (defBody (topS 47)) (defScope (topS 47)) .none kV13 dc13 pm13 an13 cd13 ct13), sl13⟩)
    (c13 : PySem.W.codeIn K cd13 "are_worths" = true)
    (k13 : PySem.W.keepIn K (.ref f13) = true)
    (a14 : PySem.W.findIn K (.ref C_Job) "__init__" = some (some (.ref f14)))
    (i14 : PySem.W.isFn K (.ref f14) = true)
    (l14 : K.lookup f14 = some ⟨oc14, od14, .func (PySem.W.fnOf "__init__" "Job.__init__" (defArgs (inClass (topS 46) 0)) (defBody (inClass (topS 46) 0)) (defScope (inClass (topS 46) 0)) .none kV14 dc14 pm14 an14 cd14 ct14), sl14⟩)
    (c14 : PySem.W.codeIn K cd14 "Job.__init__" = true)
    (k14 : PySem.W.keepIn K (.ref f14) = true)
    (a15 : PySem.W.nsIn K mainGlobals "check_job" = some (some (.ref f15)))
    (l15 : K.lookup f15 = some ⟨oc15, od15, .func (PySem.W.fnOf "check_job" "check_job" (defArgs (topS 51)) (defBody (topS 51)) (defScope (topS 51)) .none kV15 dc15 pm15 an15 cd15 ct15), sl15⟩)
    (c15 : PySem.W.codeIn K cd15 "check_job" = true)
    (k15 : PySem.W.keepIn K (.ref f15) = true)
    (a16 : PySem.W.nsIn K mainGlobals "check_work" = some (some (.ref f16)))
    (l16 : K.lookup f16 = some ⟨oc16, od16, .func (PySem.W.fnOf "check_work" "check_work" (defArgs (topS 52)) (defBody (topS 52)) (defScope (topS 52)) .none kV16 dc16 pm16 an16 cd16 ct16), sl16⟩)
    (c16 : PySem.W.codeIn K cd16 "check_work" = true)
    (k16 : PySem.W.keepIn K (.ref f16) = true)
    (a17 : PySem.W.nsIn K mainGlobals "_is_other" = some (some (.ref f17)))
    (l17 : K.lookup f17 = some ⟨oc17, od17, .func (PySem.W.fnOf "_is_other" "_is_other" (defArgs (topS 31)) (defBody (topS 31)) (defScope (topS 31)) .none kV17 dc17 pm17 an17 cd17 ct17), sl17⟩)
    (c17 : PySem.W.codeIn K cd17 "_is_other" = true)
    (k17 : PySem.W.keepIn K (.ref f17) = true)
    (a18 : PySem.W.nsIn K mainGlobals "is_fraction" = some (some (.ref f18)))
    (l18 : K.lookup f18 = some ⟨oc18, od18, .func (PySem.W.fnOf "is_fraction" "is_fraction" (defArgs (topS 6)) (defBody (topS 6)) (defScope (topS 6)) .none kV18 dc18 pm18 an18 cd18 ct18), sl18⟩)
    (c18 : PySem.W.codeIn K cd18 "is_fraction" = true)
    (k18 : PySem.W.keepIn K (.ref f18) = true)
    (a19 : PySem.W.nsIn K mainGlobals "is_amount" = some (some (.ref f19)))
    (l19 : K.lookup f19 = some ⟨oc19, od19, .func (PySem.W.fnOf "is_amount" "is_amount" (defArgs (topS 7)) (defBody (topS 7)) (defScope (topS 7)) .none kV19 dc19 pm19 an19 cd19 ct19), sl19⟩)
    (c19 : PySem.W.codeIn K cd19 "is_amount" = true)
    (k19 : PySem.W.keepIn K (.ref f19) = true)
    (a20 : PySem.W.nsIn K mainGlobals "is_less" = some (some (.ref f20)))
    (l20 : K.lookup f20 = some ⟨oc20, od20, .func (PySem.W.fnOf "is_less" "is_less" (defArgs (topS 15)) (defBody (topS 15)) (defScope (topS 15)) .none kV20 dc20 pm20 an20 cd20 ct20), sl20⟩)
    (c20 : PySem.W.codeIn K cd20 "is_less" = true)
    (k20 : PySem.W.keepIn K (.ref f20) = true)
    (a21 : PySem.W.nsIn K mainGlobals "total" = some (some (.ref f21)))
    (l21 : K.lookup f21 = some ⟨oc21, od21, .func (PySem.W.fnOf "total" "total" (defArgs (topS 16)) (defBody (topS 16)) (defScope (topS 16)) .none kV21 dc21 pm21 an21 cd21 ct21), sl21⟩)
    (c21 : PySem.W.codeIn K cd21 "total" = true)
    (k21 : PySem.W.keepIn K (.ref f21) = true)
    (a22 : PySem.W.nsIn K mainGlobals "times" = some (some (.ref f22)))
    (l22 : K.lookup f22 = some ⟨oc22, od22, .func (PySem.W.fnOf "times" "times" (defArgs (topS 12)) (defBody (topS 12)) (defScope (topS 12)) .none kV22 dc22 pm22 an22 cd22 ct22), sl22⟩)
    (c22 : PySem.W.codeIn K cd22 "times" = true)
    (k22 : PySem.W.keepIn K (.ref f22) = true)
    (a23 : PySem.W.nsIn K mainGlobals "weighted" = some (some (.ref f23)))
    (l23 : K.lookup f23 = some ⟨oc23, od23, .func (PySem.W.fnOf "weighted" "weighted" (defArgs (topS 17)) (defBody (topS 17)) (defScope (topS 17)) .none kV23 dc23 pm23 an23 cd23 ct23), sl23⟩)
    (c23 : PySem.W.codeIn K cd23 "weighted" = true)
    (k23 : PySem.W.keepIn K (.ref f23) = true)
    (a24 : PySem.W.nsIn K mainGlobals "mix_shows" = some (some (.ref f24)))
    (l24 : K.lookup f24 = some ⟨oc24, od24, .func (PySem.W.fnOf "mix_shows" "mix_shows" (defArgs (topS 30)) (defBody (topS 30)) (defScope (topS 30)) .none kV24 dc24 pm24 an24 cd24 ct24), sl24⟩)
    (c24 : PySem.W.codeIn K cd24 "mix_shows" = true)
    (k24 : PySem.W.keepIn K (.ref f24) = true)
    (a25 : PySem.W.nsIn K mainGlobals "work_efforts" = some (some (.ref f25)))
    (l25 : K.lookup f25 = some ⟨oc25, od25, .func (PySem.W.fnOf "work_efforts" "work_efforts" (defArgs (topS 55)) (defBody (topS 55)) (defScope (topS 55)) .none kV25 dc25 pm25 an25 cd25 ct25), sl25⟩)
    (c25 : PySem.W.codeIn K cd25 "work_efforts" = true)
    (k25 : PySem.W.keepIn K (.ref f25) = true)
    (a26 : PySem.W.findIn K (.ref C_Barred) "shows" = some (some (.ref f26)))
    (i26 : PySem.W.isFn K (.ref f26) = true)
    (l26 : K.lookup f26 = some ⟨oc26, od26, .func (PySem.W.fnOf "shows" "Barred.shows" (defArgs (inClass (topS 64) 3)) (defBody (inClass (topS 64) 3)) (defScope (inClass (topS 64) 3)) .none (.ref kD26) dc26 pm26 an26 cd26 ct26), sl26⟩)
    (c26 : PySem.W.codeIn K cd26 "Barred.shows" = true)
    (k26 : PySem.W.keepIn K (.ref f26) = true)
    (w26 : PySem.W.nsIn K kD26 "rising" = some (some (.bool false)))
    (a27 : PySem.W.nsIn K mainGlobals "_is_rising" = some (some (.ref f27)))
    (l27 : K.lookup f27 = some ⟨oc27, od27, .func (PySem.W.fnOf "_is_rising" "_is_rising" (defArgs (topS 69)) (defBody (topS 69)) (defScope (topS 69)) .none kV27 dc27 pm27 an27 cd27 ct27), sl27⟩)
    (c27 : PySem.W.codeIn K cd27 "_is_rising" = true)
    (k27 : PySem.W.keepIn K (.ref f27) = true)
    (a28 : PySem.W.nsIn K mainGlobals "average_pay" = some (some (.ref f28)))
    (l28 : K.lookup f28 = some ⟨oc28, od28, .func (PySem.W.fnOf "average_pay" "average_pay" (defArgs (topS 57)) (defBody (topS 57)) (defScope (topS 57)) .none kV28 dc28 pm28 an28 cd28 ct28), sl28⟩)
    (c28 : PySem.W.codeIn K cd28 "average_pay" = true)
    (k28 : PySem.W.keepIn K (.ref f28) = true)
    (p1_29 : PySem.W.findIn K (.ref C_Job) "worths" = some (some (.ref p29)))
    (p4_29 : PySem.W.recIn K p29 "property" = some (.ref f29 :: rs29))
    (p2_29 : PySem.W.specialIn K (.ref p29) "__get__" = some (some (.builtin "property.__get__")))
    (p3_29 : PySem.W.takesIn K (.ref p29) = some true)
    (l29 : K.lookup f29 = some ⟨oc29, od29, .func (PySem.W.fnOf "worths" "Job.worths" (defArgs (inClass (topS 46) 1)) (defBody (inClass (topS 46) 1)) (defScope (inClass (topS 46) 1)) .none kV29 dc29 pm29 an29 cd29 ct29), sl29⟩)
    (c29 : PySem.W.codeIn K cd29 "Job.worths" = true)
    (k29 : PySem.W.keepIn K (.ref f29) = true)
    (a30 : PySem.W.nsIn K mainGlobals "is_pay" = some (some (.ref f30)))
    (l30 : K.lookup f30 = some ⟨oc30, od30, .func (PySem.W.fnOf "is_pay" "is_pay" (defArgs (topS 53)) (defBody (topS 53)) (defScope (topS 53)) .none kV30 dc30 pm30 an30 cd30 ct30), sl30⟩)
    (c30 : PySem.W.codeIn K cd30 "is_pay" = true)
    (k30 : PySem.W.keepIn K (.ref f30) = true)
    (a31 : PySem.W.nsIn K mainGlobals "check_pay" = some (some (.ref f31)))
    (l31 : K.lookup f31 = some ⟨oc31, od31, .func (PySem.W.fnOf "check_pay" "check_pay" (defArgs (topS 54)) (defBody (topS 54)) (defScope (topS 54)) .none kV31 dc31 pm31 an31 cd31 ct31), sl31⟩)
    (c31 : PySem.W.codeIn K cd31 "check_pay" = true)
    (k31 : PySem.W.keepIn K (.ref f31) = true)
    (a32 : PySem.W.nsIn K mainGlobals "negative" = some (some (.ref f32)))
    (l32 : K.lookup f32 = some ⟨oc32, od32, .func (PySem.W.fnOf "negative" "negative" (defArgs (topS 10)) (defBody (topS 10)) (defScope (topS 10)) .none kV32 dc32 pm32 an32 cd32 ct32), sl32⟩)
    (c32 : PySem.W.codeIn K cd32 "negative" = true)
    (k32 : PySem.W.keepIn K (.ref f32) = true)
    (a33 : PySem.W.nsIn K mainGlobals "minus" = some (some (.ref f33)))
    (l33 : K.lookup f33 = some ⟨oc33, od33, .func (PySem.W.fnOf "minus" "minus" (defArgs (topS 11)) (defBody (topS 11)) (defScope (topS 11)) .none kV33 dc33 pm33 an33 cd33 ct33), sl33⟩)
    (c33 : PySem.W.codeIn K cd33 "minus" = true)
    (k33 : PySem.W.keepIn K (.ref f33) = true)
    (a34 : PySem.W.nsIn K mainGlobals "gain" = some (some (.ref f34)))
    (l34 : K.lookup f34 = some ⟨oc34, od34, .func (PySem.W.fnOf "gain" "gain" (defArgs (topS 59)) (defBody (topS 59)) (defScope (topS 59)) .none kV34 dc34 pm34 an34 cd34 ct34), sl34⟩)
    (c34 : PySem.W.codeIn K cd34 "gain" = true)
    (k34 : PySem.W.keepIn K (.ref f34) = true)
    (a35 : PySem.W.nsIn K mainGlobals "wanted" = some (some (.ref f35)))
    (l35 : K.lookup f35 = some ⟨oc35, od35, .func (PySem.W.fnOf "wanted" "wanted" (defArgs (topS 61)) (defBody (topS 61)) (defScope (topS 61)) .none kV35 dc35 pm35 an35 cd35 ct35), sl35⟩)
    (c35 : PySem.W.codeIn K cd35 "wanted" = true)
    (k35 : PySem.W.keepIn K (.ref f35) = true)
    (a36 : PySem.W.nsIn K mainGlobals "_differences" = some (some (.ref f36)))
    (l36 : K.lookup f36 = some ⟨oc36, od36, .func (PySem.W.fnOf "_differences" "_differences" (defArgs (topS 32)) (defBody (topS 32)) (defScope (topS 32)) .none kV36 dc36 pm36 an36 cd36 ct36), sl36⟩)
    (c36 : PySem.W.codeIn K cd36 "_differences" = true)
    (k36 : PySem.W.keepIn K (.ref f36) = true)
    (a37 : PySem.W.nsIn K mainGlobals "_effort_difference" = some (some (.ref f37)))
    (l37 : K.lookup f37 = some ⟨oc37, od37, .func (PySem.W.fnOf "_effort_difference" "_effort_difference" (defArgs (topS 33)) (defBody (topS 33)) (defScope (topS 33)) .none kV37 dc37 pm37 an37 cd37 ct37), sl37⟩)
    (c37 : PySem.W.codeIn K cd37 "_effort_difference" = true)
    (k37 : PySem.W.keepIn K (.ref f37) = true)
    (a38 : PySem.W.nsIn K mainGlobals "are_within" = some (some (.ref f38)))
    (l38 : K.lookup f38 = some ⟨oc38, od38, .func (PySem.W.fnOf "are_within" "are_within" (defArgs (topS 29)) (defBody (topS 29)) (defScope (topS 29)) .none kV38 dc38 pm38 an38 cd38 ct38), sl38⟩)
    (c38 : PySem.W.codeIn K cd38 "are_within" = true)
    (k38 : PySem.W.keepIn K (.ref f38) = true)
    (a39 : PySem.W.nsIn K mainGlobals "weights_show" = some (some (.ref f39)))
    (l39 : K.lookup f39 = some ⟨oc39, od39, .func (PySem.W.fnOf "weights_show" "weights_show" (defArgs (topS 28)) (defBody (topS 28)) (defScope (topS 28)) .none kV39 dc39 pm39 an39 cd39 ct39), sl39⟩)
    (c39 : PySem.W.codeIn K cd39 "weights_show" = true)
    (k39 : PySem.W.keepIn K (.ref f39) = true)
    (a40 : PySem.W.findIn K (.ref C_Enough) "shows" = some (some (.ref f40)))
    (i40 : PySem.W.isFn K (.ref f40) = true)
    (l40 : K.lookup f40 = some ⟨oc40, od40, .func (PySem.W.fnOf "shows" "Enough.shows" (defArgs (inClass (topS 63) 2)) (defBody (inClass (topS 63) 2)) (defScope (inClass (topS 63) 2)) .none (.ref kD40) dc40 pm40 an40 cd40 ct40), sl40⟩)
    (c40 : PySem.W.codeIn K cd40 "Enough.shows" = true)
    (k40 : PySem.W.keepIn K (.ref f40) = true)
    (w40 : PySem.W.nsIn K kD40 "rising" = some (some (.bool false)))
    (a41 : PySem.W.nsIn K mainGlobals "_law_blend" = some (some (.ref f41)))
    (l41 : K.lookup f41 = some ⟨oc41, od41, .func (PySem.W.fnOf "_law_blend" "_law_blend" (defArgs (topS 89)) (defBody (topS 89)) (defScope (topS 89)) .none kV41 dc41 pm41 an41 cd41 ct41), sl41⟩)
    (c41 : PySem.W.codeIn K cd41 "_law_blend" = true)
    (k41 : PySem.W.keepIn K (.ref f41) = true)
    (a42 : PySem.W.findIn K (.ref C_Enough) "__init__" = some (some (.ref f42)))
    (i42 : PySem.W.isFn K (.ref f42) = true)
    (l42 : K.lookup f42 = some ⟨oc42, od42, .func (PySem.W.fnOf "__init__" "Enough.__init__" (defArgs (inClass (topS 63) 0)) (defBody (inClass (topS 63) 0)) (defScope (inClass (topS 63) 0)) .none kV42 dc42 pm42 an42 cd42 ct42), sl42⟩)
    (c42 : PySem.W.codeIn K cd42 "Enough.__init__" = true)
    (k42 : PySem.W.keepIn K (.ref f42) = true)
    (a43 : PySem.W.nsIn K mainGlobals "_endless_weights" = some (some (.ref f43)))
    (l43 : K.lookup f43 = some ⟨oc43, od43, .func (PySem.W.fnOf "_endless_weights" "_endless_weights" (defArgs (topS 25)) (defBody (topS 25)) (defScope (topS 25)) .none kV43 dc43 pm43 an43 cd43 ct43), sl43⟩)
    (c43 : PySem.W.codeIn K cd43 "_endless_weights" = true)
    (k43 : PySem.W.keepIn K (.ref f43) = true)
    (a44 : PySem.W.nsIn K mainGlobals "_first_table" = some (some (.ref f44)))
    (l44 : K.lookup f44 = some ⟨oc44, od44, .func (PySem.W.fnOf "_first_table" "_first_table" (defArgs (topS 20)) (defBody (topS 20)) (defScope (topS 20)) .none kV44 dc44 pm44 an44 cd44 ct44), sl44⟩)
    (c44 : PySem.W.codeIn K cd44 "_first_table" = true)
    (k44 : PySem.W.keepIn K (.ref f44) = true)
    (a45 : PySem.W.nsIn K mainGlobals "inverse" = some (some (.ref f45)))
    (l45 : K.lookup f45 = some ⟨oc45, od45, .func (PySem.W.fnOf "inverse" "inverse" (defArgs (topS 13)) (defBody (topS 13)) (defScope (topS 13)) .none kV45 dc45 pm45 an45 cd45 ct45), sl45⟩)
    (c45 : PySem.W.codeIn K cd45 "inverse" = true)
    (k45 : PySem.W.keepIn K (.ref f45) = true)
    (a46 : PySem.W.nsIn K mainGlobals "over" = some (some (.ref f46)))
    (l46 : K.lookup f46 = some ⟨oc46, od46, .func (PySem.W.fnOf "over" "over" (defArgs (topS 14)) (defBody (topS 14)) (defScope (topS 14)) .none kV46 dc46 pm46 an46 cd46 ct46), sl46⟩)
    (c46 : PySem.W.codeIn K cd46 "over" = true)
    (k46 : PySem.W.keepIn K (.ref f46) = true)
    (a47 : PySem.W.nsIn K mainGlobals "_pivoted" = some (some (.ref f47)))
    (l47 : K.lookup f47 = some ⟨oc47, od47, .func (PySem.W.fnOf "_pivoted" "_pivoted" (defArgs (topS 23)) (defBody (topS 23)) (defScope (topS 23)) .none kV47 dc47 pm47 an47 cd47 ct47), sl47⟩)
    (c47 : PySem.W.codeIn K cd47 "_pivoted" = true)
    (k47 : PySem.W.keepIn K (.ref f47) = true)
    (a48 : PySem.W.nsIn K mainGlobals "_rising_column" = some (some (.ref f48)))
    (l48 : K.lookup f48 = some ⟨oc48, od48, .func (PySem.W.fnOf "_rising_column" "_rising_column" (defArgs (topS 21)) (defBody (topS 21)) (defScope (topS 21)) .none kV48 dc48 pm48 an48 cd48 ct48), sl48⟩)
    (c48 : PySem.W.codeIn K cd48 "_rising_column" = true)
    (k48 : PySem.W.keepIn K (.ref f48) = true)
    (a49 : PySem.W.nsIn K mainGlobals "_tightest_line" = some (some (.ref f49)))
    (l49 : K.lookup f49 = some ⟨oc49, od49, .func (PySem.W.fnOf "_tightest_line" "_tightest_line" (defArgs (topS 22)) (defBody (topS 22)) (defScope (topS 22)) .none kV49 dc49 pm49 an49 cd49 ct49), sl49⟩)
    (c49 : PySem.W.codeIn K cd49 "_tightest_line" = true)
    (k49 : PySem.W.keepIn K (.ref f49) = true)
    (a50 : PySem.W.nsIn K mainGlobals "_weights" = some (some (.ref f50)))
    (l50 : K.lookup f50 = some ⟨oc50, od50, .func (PySem.W.fnOf "_weights" "_weights" (defArgs (topS 24)) (defBody (topS 24)) (defScope (topS 24)) .none kV50 dc50 pm50 an50 cd50 ct50), sl50⟩)
    (c50 : PySem.W.codeIn K cd50 "_weights" = true)
    (k50 : PySem.W.keepIn K (.ref f50) = true)
    (a51 : PySem.W.nsIn K mainGlobals "cheapest" = some (some (.ref f51)))
    (l51 : K.lookup f51 = some ⟨oc51, od51, .func (PySem.W.fnOf "cheapest" "cheapest" (defArgs (topS 19)) (defBody (topS 19)) (defScope (topS 19)) .none kV51 dc51 pm51 an51 cd51 ct51), sl51⟩)
    (c51 : PySem.W.codeIn K cd51 "cheapest" = true)
    (k51 : PySem.W.keepIn K (.ref f51) = true)
    (a52 : PySem.W.nsIn K mainGlobals "least_amounts" = some (some (.ref f52)))
    (l52 : K.lookup f52 = some ⟨oc52, od52, .func (PySem.W.fnOf "least_amounts" "least_amounts" (defArgs (topS 27)) (defBody (topS 27)) (defScope (topS 27)) .none kV52 dc52 pm52 an52 cd52 ct52), sl52⟩)
    (c52 : PySem.W.codeIn K cd52 "least_amounts" = true)
    (k52 : PySem.W.keepIn K (.ref f52) = true)
    (a53 : PySem.W.nsIn K mainGlobals "least_pay" = some (some (.ref f53)))
    (l53 : K.lookup f53 = some ⟨oc53, od53, .func (PySem.W.fnOf "least_pay" "least_pay" (defArgs (topS 65)) (defBody (topS 65)) (defScope (topS 65)) .none (.ref kD53) dc53 pm53 an53 cd53 ct53), sl53⟩)
    (c53 : PySem.W.codeIn K cd53 "least_pay" = true)
    (k53 : PySem.W.keepIn K (.ref f53) = true)
    (w53 : PySem.W.nsIn K kD53 "rising" = some (some (.bool false)))
    (a54 : PySem.W.nsIn K mainGlobals "pay_cost" = some (some (.ref f54)))
    (l54 : K.lookup f54 = some ⟨oc54, od54, .func (PySem.W.fnOf "pay_cost" "pay_cost" (defArgs (topS 66)) (defBody (topS 66)) (defScope (topS 66)) .none (.ref kD54) dc54 pm54 an54 cd54 ct54), sl54⟩)
    (c54 : PySem.W.codeIn K cd54 "pay_cost" = true)
    (k54 : PySem.W.keepIn K (.ref f54) = true)
    (w54 : PySem.W.nsIn K kD54 "rising" = some (some (.bool false)))
    (a55 : PySem.W.nsIn K mainGlobals "_law_bars_right" = some (some (.ref f55)))
    (l55 : K.lookup f55 = some ⟨oc55, od55, .func (PySem.W.fnOf "_law_bars_right" "_law_bars_right" (defArgs (topS 91)) (defBody (topS 91)) (defScope (topS 91)) .none kV55 dc55 pm55 an55 cd55 ct55), sl55⟩)
    (c55 : PySem.W.codeIn K cd55 "_law_bars_right" = true)
    (k55 : PySem.W.keepIn K (.ref f55) = true)
    (a56 : PySem.W.findIn K (.ref C_Best) "__init__" = some (some (.ref f56)))
    (i56 : PySem.W.isFn K (.ref f56) = true)
    (l56 : K.lookup f56 = some ⟨oc56, od56, .func (PySem.W.fnOf "__init__" "Best.__init__" (defArgs (inClass (topS 71) 0)) (defBody (inClass (topS 71) 0)) (defScope (inClass (topS 71) 0)) .none kV56 dc56 pm56 an56 cd56 ct56), sl56⟩)
    (c56 : PySem.W.codeIn K cd56 "Best.__init__" = true)
    (k56 : PySem.W.keepIn K (.ref f56) = true)
    (a57 : PySem.W.nsIn K mainGlobals "_are_needs" = some (some (.ref f57)))
    (l57 : K.lookup f57 = some ⟨oc57, od57, .func (PySem.W.fnOf "_are_needs" "_are_needs" (defArgs (topS 74)) (defBody (topS 74)) (defScope (topS 74)) .none kV57 dc57 pm57 an57 cd57 ct57), sl57⟩)
    (c57 : PySem.W.codeIn K cd57 "_are_needs" = true)
    (k57 : PySem.W.keepIn K (.ref f57) = true)
    (a58 : PySem.W.nsIn K mainGlobals "average_worth" = some (some (.ref f58)))
    (l58 : K.lookup f58 = some ⟨oc58, od58, .func (PySem.W.fnOf "average_worth" "average_worth" (defArgs (topS 58)) (defBody (topS 58)) (defScope (topS 58)) .none kV58 dc58 pm58 an58 cd58 ct58), sl58⟩)
    (c58 : PySem.W.codeIn K cd58 "average_worth" = true)
    (k58 : PySem.W.keepIn K (.ref f58) = true)
    (a59 : PySem.W.nsIn K mainGlobals "profit" = some (some (.ref f59)))
    (l59 : K.lookup f59 = some ⟨oc59, od59, .func (PySem.W.fnOf "profit" "profit" (defArgs (topS 60)) (defBody (topS 60)) (defScope (topS 60)) .none kV59 dc59 pm59 an59 cd59 ct59), sl59⟩)
    (c59 : PySem.W.codeIn K cd59 "profit" = true)
    (k59 : PySem.W.keepIn K (.ref f59) = true)
    (a60 : PySem.W.nsIn K mainGlobals "_best_works" = some (some (.ref f60)))
    (l60 : K.lookup f60 = some ⟨oc60, od60, .func (PySem.W.fnOf "_best_works" "_best_works" (defArgs (topS 75)) (defBody (topS 75)) (defScope (topS 75)) .none kV60 dc60 pm60 an60 cd60 ct60), sl60⟩)
    (c60 : PySem.W.codeIn K cd60 "_best_works" = true)
    (k60 : PySem.W.keepIn K (.ref f60) = true)
    (a61 : PySem.W.findIn K (.ref C_Best) "shows" = some (some (.ref f61)))
    (i61 : PySem.W.isFn K (.ref f61) = true)
    (l61 : K.lookup f61 = some ⟨oc61, od61, .func (PySem.W.fnOf "shows" "Best.shows" (defArgs (inClass (topS 71) 3)) (defBody (inClass (topS 71) 3)) (defScope (inClass (topS 71) 3)) .none (.ref kD61) dc61 pm61 an61 cd61 ct61), sl61⟩)
    (c61 : PySem.W.codeIn K cd61 "Best.shows" = true)
    (k61 : PySem.W.keepIn K (.ref f61) = true)
    (w61 : PySem.W.nsIn K kD61 "rising" = some (some (.bool false)))
    (a62 : PySem.W.nsIn K mainGlobals "_law_two" = some (some (.ref f62)))
    (l62 : K.lookup f62 = some ⟨oc62, od62, .func (PySem.W.fnOf "_law_two" "_law_two" (defArgs (topS 88)) (defBody (topS 88)) (defScope (topS 88)) .none kV62 dc62 pm62 an62 cd62 ct62), sl62⟩)
    (c62 : PySem.W.codeIn K cd62 "_law_two" = true)
    (k62 : PySem.W.keepIn K (.ref f62) = true)
    (a63 : PySem.W.nsIn K mainGlobals "choose" = some (some (.ref f63)))
    (l63 : K.lookup f63 = some ⟨oc63, od63, .func (PySem.W.fnOf "choose" "choose" (defArgs (topS 72)) (defBody (topS 72)) (defScope (topS 72)) .none (.ref kD63) dc63 pm63 an63 cd63 ct63), sl63⟩)
    (c63 : PySem.W.codeIn K cd63 "choose" = true)
    (k63 : PySem.W.keepIn K (.ref f63) = true)
    (w63 : PySem.W.nsIn K kD63 "rising" = some (some (.bool false)))
    (a64 : PySem.W.nsIn K mainGlobals "best_profit" = some (some (.ref f64)))
    (l64 : K.lookup f64 = some ⟨oc64, od64, .func (PySem.W.fnOf "best_profit" "best_profit" (defArgs (topS 73)) (defBody (topS 73)) (defScope (topS 73)) .none (.ref kD64) dc64 pm64 an64 cd64 ct64), sl64⟩)
    (c64 : PySem.W.codeIn K cd64 "best_profit" = true)
    (k64 : PySem.W.keepIn K (.ref f64) = true)
    (w64 : PySem.W.nsIn K kD64 "rising" = some (some (.bool false)))
    (a65 : PySem.W.nsIn K mainGlobals "_law_choices_right" = some (some (.ref f65)))
    (l65 : K.lookup f65 = some ⟨oc65, od65, .func (PySem.W.fnOf "_law_choices_right" "_law_choices_right" (defArgs (topS 92)) (defBody (topS 92)) (defScope (topS 92)) .none kV65 dc65 pm65 an65 cd65 ct65), sl65⟩)
    (c65 : PySem.W.codeIn K cd65 "_law_choices_right" = true)
    (k65 : PySem.W.keepIn K (.ref f65) = true)
    (a66 : PySem.W.nsIn K mainGlobals "_law_number" = some (some (.ref f66)))
    (l66 : K.lookup f66 = some ⟨oc66, od66, .func (PySem.W.fnOf "_law_number" "_law_number" (defArgs (topS 87)) (defBody (topS 87)) (defScope (topS 87)) .none kV66 dc66 pm66 an66 cd66 ct66), sl66⟩)
    (c66 : PySem.W.codeIn K cd66 "_law_number" = true)
    (k66 : PySem.W.keepIn K (.ref f66) = true)
    (a67 : PySem.W.nsIn K mainGlobals "_law_pays_right" = some (some (.ref f67)))
    (l67 : K.lookup f67 = some ⟨oc67, od67, .func (PySem.W.fnOf "_law_pays_right" "_law_pays_right" (defArgs (topS 90)) (defBody (topS 90)) (defScope (topS 90)) .none kV67 dc67 pm67 an67 cd67 ct67), sl67⟩)
    (c67 : PySem.W.codeIn K cd67 "_law_pays_right" = true)
    (k67 : PySem.W.keepIn K (.ref f67) = true)
    (a68 : PySem.W.nsIn K mainGlobals "_worth" = some (some (.ref f68)))
    (l68 : K.lookup f68 = some ⟨oc68, od68, .func (PySem.W.fnOf "_worth" "_worth" (defArgs (topS 84)) (defBody (topS 84)) (defScope (topS 84)) .none kV68 dc68 pm68 an68 cd68 ct68), sl68⟩)
    (c68 : PySem.W.codeIn K cd68 "_worth" = true)
    (k68 : PySem.W.keepIn K (.ref f68) = true)
    (a69 : PySem.W.nsIn K mainGlobals "_effort" = some (some (.ref f69)))
    (l69 : K.lookup f69 = some ⟨oc69, od69, .func (PySem.W.fnOf "_effort" "_effort" (defArgs (topS 85)) (defBody (topS 85)) (defScope (topS 85)) .none kV69 dc69 pm69 an69 cd69 ct69), sl69⟩)
    (c69 : PySem.W.codeIn K cd69 "_effort" = true)
    (k69 : PySem.W.keepIn K (.ref f69) = true)
    (a70 : PySem.W.nsIn K mainGlobals "_next_share" = some (some (.ref f70)))
    (l70 : K.lookup f70 = some ⟨oc70, od70, .func (PySem.W.fnOf "_next_share" "_next_share" (defArgs (topS 82)) (defBody (topS 82)) (defScope (topS 82)) .none kV70 dc70 pm70 an70 cd70 ct70), sl70⟩)
    (c70 : PySem.W.codeIn K cd70 "_next_share" = true)
    (k70 : PySem.W.keepIn K (.ref f70) = true)
    (a71 : PySem.W.nsIn K mainGlobals "_check_share" = some (some (.ref f71)))
    (l71 : K.lookup f71 = some ⟨oc71, od71, .func (PySem.W.fnOf "_check_share" "_check_share" (defArgs (topS 80)) (defBody (topS 80)) (defScope (topS 80)) .none kV71 dc71 pm71 an71 cd71 ct71), sl71⟩)
    (c71 : PySem.W.codeIn K cd71 "_check_share" = true)
    (k71 : PySem.W.keepIn K (.ref f71) = true)
    (a72 : PySem.W.nsIn K mainGlobals "_gain" = some (some (.ref f72)))
    (l72 : K.lookup f72 = some ⟨oc72, od72, .func (PySem.W.fnOf "_gain" "_gain" (defArgs (topS 83)) (defBody (topS 83)) (defScope (topS 83)) .none kV72 dc72 pm72 an72 cd72 ct72), sl72⟩)
    (c72 : PySem.W.codeIn K cd72 "_gain" = true)
    (k72 : PySem.W.keepIn K (.ref f72) = true)
    (a73 : PySem.W.nsIn K mainGlobals "_is_preferred" = some (some (.ref f73)))
    (l73 : K.lookup f73 = some ⟨oc73, od73, .func (PySem.W.fnOf "_is_preferred" "_is_preferred" (defArgs (topS 81)) (defBody (topS 81)) (defScope (topS 81)) .none kV73 dc73 pm73 an73 cd73 ct73), sl73⟩)
    (c73 : PySem.W.codeIn K cd73 "_is_preferred" = true)
    (k73 : PySem.W.keepIn K (.ref f73) = true)
    (a74 : PySem.W.nsIn K mainGlobals "done" = some (some (.ref f74)))
    (l74 : K.lookup f74 = some ⟨oc74, od74, .func (PySem.W.fnOf "done" "done" (defArgs (topS 78)) (defBody (topS 78)) (defScope (topS 78)) .none kV74 dc74 pm74 an74 cd74 ct74), sl74⟩)
    (c74 : PySem.W.codeIn K cd74 "done" = true)
    (k74 : PySem.W.keepIn K (.ref f74) = true)
    (a75 : PySem.W.nsIn K mainGlobals "turns" = some (some (.ref f75)))
    (l75 : K.lookup f75 = some ⟨oc75, od75, .func (PySem.W.fnOf "turns" "turns" (defArgs (topS 77)) (defBody (topS 77)) (defScope (topS 77)) .none kV75 dc75 pm75 an75 cd75 ct75), sl75⟩)
    (c75 : PySem.W.codeIn K cd75 "turns" = true)
    (k75 : PySem.W.keepIn K (.ref f75) = true)
    (a76 : PySem.W.nsIn K mainGlobals "best_share" = some (some (.ref f76)))
    (l76 : K.lookup f76 = some ⟨oc76, od76, .func (PySem.W.fnOf "best_share" "best_share" (defArgs (topS 79)) (defBody (topS 79)) (defScope (topS 79)) .none kV76 dc76 pm76 an76 cd76 ct76), sl76⟩)
    (c76 : PySem.W.codeIn K cd76 "best_share" = true)
    (k76 : PySem.W.keepIn K (.ref f76) = true)
    (a77 : PySem.W.nsIn K mainGlobals "_law_shares_right" = some (some (.ref f77)))
    (l77 : K.lookup f77 = some ⟨oc77, od77, .func (PySem.W.fnOf "_law_shares_right" "_law_shares_right" (defArgs (topS 93)) (defBody (topS 93)) (defScope (topS 93)) .none kV77 dc77 pm77 an77 cd77 ct77), sl77⟩)
    (c77 : PySem.W.codeIn K cd77 "_law_shares_right" = true)
    (k77 : PySem.W.keepIn K (.ref f77) = true)
    (a78 : PySem.W.nsIn K mainGlobals "_law_all_right" = some (some (.ref f78)))
    (l78 : K.lookup f78 = some ⟨oc78, od78, .func (PySem.W.fnOf "_law_all_right" "_law_all_right" (defArgs (topS 94)) (defBody (topS 94)) (defScope (topS 94)) .none kV78 dc78 pm78 an78 cd78 ct78), sl78⟩)
    (c78 : PySem.W.codeIn K cd78 "_law_all_right" = true)
    (k78 : PySem.W.keepIn K (.ref f78) = true)
    (pg_Job : PySem.W.plainGet K C_Job Str.empty = true)
    (hd_Job : PySem.W.hasDictIn K C_Job = true)
    (po_Job : PySem.W.plainOver K C_Job = true)
    (sa_Job : PySem.W.findIn K (.ref C_Job) "__setattr__" = some (some (.builtin "object.__setattr__")))
    (k1_Job : PySem.W.findIn K (.ref C_Job) "__class__" = some (some (.builtin "object.__class__")))
    (k4_Job : PySem.W.mroIn K C_Job (.type "object") = some true)
    (mk_Job : PySem.W.makesIn K C_Job = true)
    (kc_Job : PySem.W.keepIn K (.ref C_Job) = true)
    (na_Job_worths : PySem.W.findIn K (.ref C_Job) "_worths" = some none)
    (na_Job_works : PySem.W.findIn K (.ref C_Job) "_works" = some none)
    (kit_Job_Barred : PySem.W.kitCls K (.ref C_Job) (.ref C_Barred) = some false)
    (ne_Job_Barred : ((Value.ref C_Job) == (Value.ref C_Barred)) = false)
    (pg_Enough : PySem.W.plainGet K C_Enough Str.empty = true)
    (hd_Enough : PySem.W.hasDictIn K C_Enough = true)
    (po_Enough : PySem.W.plainOver K C_Enough = true)
    (sa_Enough : PySem.W.findIn K (.ref C_Enough) "__setattr__" = some (some (.builtin "object.__setattr__")))
    (k1_Enough : PySem.W.findIn K (.ref C_Enough) "__class__" = some (some (.builtin "object.__class__")))
    (k4_Enough : PySem.W.mroIn K C_Enough (.type "object") = some true)
    (mk_Enough : PySem.W.makesIn K C_Enough = true)
    (kc_Enough : PySem.W.keepIn K (.ref C_Enough) = true)
    (na_Enough_pay : PySem.W.findIn K (.ref C_Enough) "pay" = some none)
    (na_Enough_weights : PySem.W.findIn K (.ref C_Enough) "weights" = some none)
    (kit_Enough_Barred : PySem.W.kitCls K (.ref C_Enough) (.ref C_Barred) = some false)
    (ne_Enough_Barred : ((Value.ref C_Enough) == (Value.ref C_Barred)) = false)
    (kit_Enough_Job : PySem.W.kitCls K (.ref C_Enough) (.ref C_Job) = some false)
    (ne_Enough_Job : ((Value.ref C_Enough) == (Value.ref C_Job)) = false)
    (pg_Barred : PySem.W.plainGet K C_Barred Str.empty = true)
    (hd_Barred : PySem.W.hasDictIn K C_Barred = true)
    (po_Barred : PySem.W.plainOver K C_Barred = true)
    (sa_Barred : PySem.W.findIn K (.ref C_Barred) "__setattr__" = some (some (.builtin "object.__setattr__")))
    (k1_Barred : PySem.W.findIn K (.ref C_Barred) "__class__" = some (some (.builtin "object.__class__")))
    (k4_Barred : PySem.W.mroIn K C_Barred (.type "object") = some true)
    (mk_Barred : PySem.W.makesIn K C_Barred = true)
    (kc_Barred : PySem.W.keepIn K (.ref C_Barred) = true)
    (na_Barred_mix : PySem.W.findIn K (.ref C_Barred) "mix" = some none)
    (kit_Barred_Job : PySem.W.kitCls K (.ref C_Barred) (.ref C_Job) = some false)
    (ne_Barred_Job : ((Value.ref C_Barred) == (Value.ref C_Job)) = false)
    (pg_Best : PySem.W.plainGet K C_Best Str.empty = true)
    (hd_Best : PySem.W.hasDictIn K C_Best = true)
    (po_Best : PySem.W.plainOver K C_Best = true)
    (sa_Best : PySem.W.findIn K (.ref C_Best) "__setattr__" = some (some (.builtin "object.__setattr__")))
    (k1_Best : PySem.W.findIn K (.ref C_Best) "__class__" = some (some (.builtin "object.__class__")))
    (k4_Best : PySem.W.mroIn K C_Best (.type "object") = some true)
    (mk_Best : PySem.W.makesIn K C_Best = true)
    (kc_Best : PySem.W.keepIn K (.ref C_Best) = true)
    (na_Best_work : PySem.W.findIn K (.ref C_Best) "work" = some none)
    (na_Best_needs : PySem.W.findIn K (.ref C_Best) "needs" = some none)
    (kit_Best_Barred : PySem.W.kitCls K (.ref C_Best) (.ref C_Barred) = some false)
    (ne_Best_Barred : ((Value.ref C_Best) == (Value.ref C_Barred)) = false)
    (kit_Best_Job : PySem.W.kitCls K (.ref C_Best) (.ref C_Job) = some false)
    (ne_Best_Job : ((Value.ref C_Best) == (Value.ref C_Job)) = false)
    (z_all : PySem.W.nsIn K mainGlobals "all" = some none)
    (z_any : PySem.W.nsIn K mainGlobals "any" = some none)
    (z_bool : PySem.W.nsIn K mainGlobals "bool" = some none)
    (z_enumerate : PySem.W.nsIn K mainGlobals "enumerate" = some none)
    (z_int : PySem.W.nsIn K mainGlobals "int" = some none)
    (z_isinstance : PySem.W.nsIn K mainGlobals "isinstance" = some none)
    (z_len : PySem.W.nsIn K mainGlobals "len" = some none)
    (z_list : PySem.W.nsIn K mainGlobals "list" = some none)
    (z_range : PySem.W.nsIn K mainGlobals "range" = some none)
    (z_sum : PySem.W.nsIn K mainGlobals "sum" = some none)
    (z_tuple : PySem.W.nsIn K mainGlobals "tuple" = some none)
    (z_zip : PySem.W.nsIn K mainGlobals "zip" = some none)
    (m_FEWEST : PySem.W.nsIn K mainGlobals "FEWEST" = some (some (.int 2 t_FEWEST)))
    (m_MOST : PySem.W.nsIn K mainGlobals "MOST" = some (some (.int 4 t_MOST)))
    (m_MOST_EFFORT : PySem.W.nsIn K mainGlobals "MOST_EFFORT" = some (some (.int 9 t_MOST_EFFORT)))
    (m_MOST_PART : PySem.W.nsIn K mainGlobals "MOST_PART" = some (some (.int 6 t_MOST_PART)))
    (m_MOST_WORTH : PySem.W.nsIn K mainGlobals "MOST_WORTH" = some (some (.int 20 t_MOST_WORTH)))
    (m_ONE : PySem.W.nsIn K mainGlobals "ONE" = some (some (.ref a_ONE)))
    (l_ONE : K.lookup a_ONE = some ⟨.type "tuple", dd_ONE, .seq #[.int 1 u_ONE_0, .int 1 u_ONE_1] nn_ONE, ss_ONE⟩)
    (m_ZERO : PySem.W.nsIn K mainGlobals "ZERO" = some (some (.ref a_ZERO)))
    (l_ZERO : K.lookup a_ZERO = some ⟨.type "tuple", dd_ZERO, .seq #[.int 0 u_ZERO_0, .int 1 u_ZERO_1] nn_ZERO, ss_ZERO⟩)
    (m_gcd : PySem.W.nsIn K mainGlobals "gcd" = some (some (.builtin "math.gcd")))
    (kk2 : PySem.W.specialIn K (.builtin "object.__class__") "__get__" = some (some (.builtin "getset_descriptor.__get__")))
    (kk3 : PySem.W.takesIn K (.builtin "object.__class__") = some true)
    (aP : PySem.W.nsIn K mainGlobals "PayError" = some (some (.ref CP)))
    (al : PySem.W.nsIn K mainGlobals "law" = some (some (.ref fl)))
    (ll : K.lookup fl = some ⟨ocl, odl, .func (PySem.W.fnOf "law" "law" (defArgs s_law) (defBody s_law) (defScope s_law) .none kVl dcl pml anl cdl ctl), sll⟩)
    (cl : PySem.W.codeIn K cdl "law" = true)
    (kl : PySem.W.keepIn K (.ref fl) = true) :
    ∃ fd : FuncData, (∀ (s : Shared) (v : Value), BindsTo s fd ⟨[v], []⟩ [("script", v)]) ∧ ∀ base : Heap, K.In base → base.Ns mainGlobals mg → FnOk l.prog w K mg base CX0 14 fa fd ["script"] (spLaw K) := by
  have e := hfa.symm.trans (PySem.W.mg_of X G al)
  cases e
  have F0 := fun_mk (st := inClass (topS 64) 0) l0 c0 k0
  have F1 := fun_mk (st := inClass (topS 46) 3) l1 c1 k1
  have F2 := fun_mk (st := topS 8) l2 c2 k2
  have F3 := fun_mk (st := topS 9) l3 c3 k3
  have F4 := fun_mk (st := topS 68) l4 c4 k4
  have F5 := fun_mk (st := inClass (topS 46) 2) l5 c5 k5
  have F6 := fun_mk (st := topS 56) l6 c6 k6
  have F7 := fun_mk (st := topS 67) l7 c7 k7
  have F8 := fun_mk (st := topS 4) l8 c8 k8
  have F9 := fun_mk (st := topS 5) l9 c9 k9
  have F10 := fun_mk (st := topS 50) l10 c10 k10
  have F11 := fun_mk (st := topS 49) l11 c11 k11
  have F12 := fun_mk (st := topS 48) l12 c12 k12
  have F13 := fun_mk (st := topS 47) l13 c13 k13
  have F14 := fun_mk (st := inClass (topS 46) 0) l14 c14 k14
  have F15 := fun_mk (st := topS 51) l15 c15 k15
  have F16 := fun_mk (st := topS 52) l16 c16 k16
  have F17 := fun_mk (st := topS 31) l17 c17 k17
  have F18 := fun_mk (st := topS 6) l18 c18 k18
  have F19 := fun_mk (st := topS 7) l19 c19 k19
  have F20 := fun_mk (st := topS 15) l20 c20 k20
  have F21 := fun_mk (st := topS 16) l21 c21 k21
  have F22 := fun_mk (st := topS 12) l22 c22 k22
  have F23 := fun_mk (st := topS 17) l23 c23 k23
  have F24 := fun_mk (st := topS 30) l24 c24 k24
  have F25 := fun_mk (st := topS 55) l25 c25 k25
  have F26 : FunD K "shows" "Barred.shows" (defArgs (inClass (topS 64) 3)) (defBody (inClass (topS 64) 3)) (defScope (inClass (topS 64) 3)) [] [("rising", V.bl false)] f26 _ := ⟨⟨oc26, od26, .none, .ref kD26, dc26, pm26, an26, cd26, ct26, sl26, rfl, l26, c26, .inl ⟨rfl, rfl⟩, .inr ⟨kD26, rfl, fun z hz => by rw [List.mem_singleton] at hz; subst hz; exact ⟨_, w26, rfl⟩⟩⟩, k26⟩
  have F27 := fun_mk (st := topS 69) l27 c27 k27
  have F28 := fun_mk (st := topS 57) l28 c28 k28
  have F29 := fun_mk (st := inClass (topS 46) 1) l29 c29 k29
  have F30 := fun_mk (st := topS 53) l30 c30 k30
  have F31 := fun_mk (st := topS 54) l31 c31 k31
  have F32 := fun_mk (st := topS 10) l32 c32 k32
  have F33 := fun_mk (st := topS 11) l33 c33 k33
  have F34 := fun_mk (st := topS 59) l34 c34 k34
  have F35 := fun_mk (st := topS 61) l35 c35 k35
  have F36 := fun_mk (st := topS 32) l36 c36 k36
  have F37 := fun_mk (st := topS 33) l37 c37 k37
  have F38 := fun_mk (st := topS 29) l38 c38 k38
  have F39 := fun_mk (st := topS 28) l39 c39 k39
  have F40 : FunD K "shows" "Enough.shows" (defArgs (inClass (topS 63) 2)) (defBody (inClass (topS 63) 2)) (defScope (inClass (topS 63) 2)) [] [("rising", V.bl false)] f40 _ := ⟨⟨oc40, od40, .none, .ref kD40, dc40, pm40, an40, cd40, ct40, sl40, rfl, l40, c40, .inl ⟨rfl, rfl⟩, .inr ⟨kD40, rfl, fun z hz => by rw [List.mem_singleton] at hz; subst hz; exact ⟨_, w40, rfl⟩⟩⟩, k40⟩
  have F41 := fun_mk (st := topS 89) l41 c41 k41
  have F42 := fun_mk (st := inClass (topS 63) 0) l42 c42 k42
  have F43 := fun_mk (st := topS 25) l43 c43 k43
  have F44 := fun_mk (st := topS 20) l44 c44 k44
  have F45 := fun_mk (st := topS 13) l45 c45 k45
  have F46 := fun_mk (st := topS 14) l46 c46 k46
  have F47 := fun_mk (st := topS 23) l47 c47 k47
  have F48 := fun_mk (st := topS 21) l48 c48 k48
  have F49 := fun_mk (st := topS 22) l49 c49 k49
  have F50 := fun_mk (st := topS 24) l50 c50 k50
  have F51 := fun_mk (st := topS 19) l51 c51 k51
  have F52 := fun_mk (st := topS 27) l52 c52 k52
  have F53 : FunD K "least_pay" "least_pay" (defArgs (topS 65)) (defBody (topS 65)) (defScope (topS 65)) [] [("rising", V.bl false)] f53 _ := ⟨⟨oc53, od53, .none, .ref kD53, dc53, pm53, an53, cd53, ct53, sl53, rfl, l53, c53, .inl ⟨rfl, rfl⟩, .inr ⟨kD53, rfl, fun z hz => by rw [List.mem_singleton] at hz; subst hz; exact ⟨_, w53, rfl⟩⟩⟩, k53⟩
  have F54 : FunD K "pay_cost" "pay_cost" (defArgs (topS 66)) (defBody (topS 66)) (defScope (topS 66)) [] [("rising", V.bl false)] f54 _ := ⟨⟨oc54, od54, .none, .ref kD54, dc54, pm54, an54, cd54, ct54, sl54, rfl, l54, c54, .inl ⟨rfl, rfl⟩, .inr ⟨kD54, rfl, fun z hz => by rw [List.mem_singleton] at hz; subst hz; exact ⟨_, w54, rfl⟩⟩⟩, k54⟩
  have F55 := fun_mk (st := topS 91) l55 c55 k55
  have F56 := fun_mk (st := inClass (topS 71) 0) l56 c56 k56
  have F57 := fun_mk (st := topS 74) l57 c57 k57
  have F58 := fun_mk (st := topS 58) l58 c58 k58
  have F59 := fun_mk (st := topS 60) l59 c59 k59
  have F60 := fun_mk (st := topS 75) l60 c60 k60
  have F61 : FunD K "shows" "Best.shows" (defArgs (inClass (topS 71) 3)) (defBody (inClass (topS 71) 3)) (defScope (inClass (topS 71) 3)) [] [("rising", V.bl false)] f61 _ := ⟨⟨oc61, od61, .none, .ref kD61, dc61, pm61, an61, cd61, ct61, sl61, rfl, l61, c61, .inl ⟨rfl, rfl⟩, .inr ⟨kD61, rfl, fun z hz => by rw [List.mem_singleton] at hz; subst hz; exact ⟨_, w61, rfl⟩⟩⟩, k61⟩
  have F62 := fun_mk (st := topS 88) l62 c62 k62
  have F63 : FunD K "choose" "choose" (defArgs (topS 72)) (defBody (topS 72)) (defScope (topS 72)) [] [("rising", V.bl false)] f63 _ := ⟨⟨oc63, od63, .none, .ref kD63, dc63, pm63, an63, cd63, ct63, sl63, rfl, l63, c63, .inl ⟨rfl, rfl⟩, .inr ⟨kD63, rfl, fun z hz => by rw [List.mem_singleton] at hz; subst hz; exact ⟨_, w63, rfl⟩⟩⟩, k63⟩
  have F64 : FunD K "best_profit" "best_profit" (defArgs (topS 73)) (defBody (topS 73)) (defScope (topS 73)) [] [("rising", V.bl false)] f64 _ := ⟨⟨oc64, od64, .none, .ref kD64, dc64, pm64, an64, cd64, ct64, sl64, rfl, l64, c64, .inl ⟨rfl, rfl⟩, .inr ⟨kD64, rfl, fun z hz => by rw [List.mem_singleton] at hz; subst hz; exact ⟨_, w64, rfl⟩⟩⟩, k64⟩
  have F65 := fun_mk (st := topS 92) l65 c65 k65
  have F66 := fun_mk (st := topS 87) l66 c66 k66
  have F67 := fun_mk (st := topS 90) l67 c67 k67
  have F68 := fun_mk (st := topS 84) l68 c68 k68
  have F69 := fun_mk (st := topS 85) l69 c69 k69
  have F70 := fun_mk (st := topS 82) l70 c70 k70
  have F71 := fun_mk (st := topS 80) l71 c71 k71
  have F72 := fun_mk (st := topS 83) l72 c72 k72
  have F73 := fun_mk (st := topS 81) l73 c73 k73
  have F74 := fun_mk (st := topS 78) l74 c74 k74
  have F75 := fun_mk (st := topS 77) l75 c75 k75
  have F76 := fun_mk (st := topS 79) l76 c76 k76
  have F77 := fun_mk (st := topS 93) l77 c77 k77
  have F78 := fun_mk (st := topS 94) l78 c78 k78
  have Fl := fun_mk (st := s_law) ll cl kl
  letI : CT := ctOf C_Job C_Enough C_Barred C_Best
  have T : Txt K mg := {
    cl_Job := ⟨pg_Job, hd_Job, po_Job, sa_Job⟩,
    mc_Job := PySem.W.mg_of X G aC_Job,
    na_Job_worths := na_Job_worths,
    na_Job_works := na_Job_works,
    cl_Enough := ⟨pg_Enough, hd_Enough, po_Enough, sa_Enough⟩,
    mc_Enough := PySem.W.mg_of X G aC_Enough,
    na_Enough_pay := na_Enough_pay,
    na_Enough_weights := na_Enough_weights,
    cl_Barred := ⟨pg_Barred, hd_Barred, po_Barred, sa_Barred⟩,
    mc_Barred := PySem.W.mg_of X G aC_Barred,
    na_Barred_mix := na_Barred_mix,
    cl_Best := ⟨pg_Best, hd_Best, po_Best, sa_Best⟩,
    mc_Best := PySem.W.mg_of X G aC_Best,
    na_Best_work := na_Best_work,
    na_Best_needs := na_Best_needs,
    f_BarredD_initD := f0,
    d_BarredD_initD := _,
    fun_BarredD_initD := F0,
    b_BarredD_initD := F0.binds (ps := ["self", "mix"]) fun _ _ _ _ _ _ us hl => match us, hl with | [_, _], _ => rfl,
    f_JobD_lenD := f1,
    d_JobD_lenD := _,
    fun_JobD_lenD := F1,
    b_JobD_lenD := F1.binds (ps := ["self"]) fun _ _ _ _ _ _ us hl => match us, hl with | [_], _ => rfl,
    me_JobD_lenD := ⟨a1, i1, k1⟩,
    f_ratio := f2,
    d_ratio := _,
    fun_ratio := F2,
    b_ratio := F2.binds (ps := ["top", "bottom"]) fun _ _ _ _ _ _ us hl => match us, hl with | [_, _], _ => rfl,
    m_ratio := PySem.W.mg_of X G a2,
    f_plus := f3,
    d_plus := _,
    fun_plus := F3,
    b_plus := F3.binds (ps := ["one", "other"]) fun _ _ _ _ _ _ us hl => match us, hl with | [_, _], _ => rfl,
    m_plus := PySem.W.mg_of X G a3,
    f_u_sums := f4,
    d_u_sums := _,
    fun_u_sums := F4,
    b_u_sums := F4.binds (ps := ["amounts"]) fun _ _ _ _ _ _ us hl => match us, hl with | [_], _ => rfl,
    m_u_sums := PySem.W.mg_of X G a4,
    f_Job_works := f5,
    d_Job_works := _,
    fun_Job_works := F5,
    b_Job_works := F5.binds (ps := ["self"]) fun _ _ _ _ _ _ us hl => match us, hl with | [_], _ => rfl,
    p_Job_works := p5,
    pr_Job_works := ⟨p1_5, p2_5, p3_5, rs5, p4_5⟩,
    f_work_chances := f6,
    d_work_chances := _,
    fun_work_chances := F6,
    b_work_chances := F6.binds (ps := ["job", "work"]) fun _ _ _ _ _ _ us hl => match us, hl with | [_, _], _ => rfl,
    m_work_chances := PySem.W.mg_of X G a6,
    f_u_views := f7,
    d_u_views := _,
    fun_u_views := F7,
    b_u_views := F7.binds (ps := ["job", "rising"]) fun _ _ _ _ _ _ us hl => match us, hl with | [_, _], _ => rfl,
    m_u_views := PySem.W.mg_of X G a7,
    f_is_integer := f8,
    d_is_integer := _,
    fun_is_integer := F8,
    b_is_integer := F8.binds (ps := ["thing"]) fun _ _ _ _ _ _ us hl => match us, hl with | [_], _ => rfl,
    m_is_integer := PySem.W.mg_of X G a8,
    f_is_integer_within := f9,
    d_is_integer_within := _,
    fun_is_integer_within := F9,
    b_is_integer_within := F9.binds (ps := ["thing", "least", "most"]) fun _ _ _ _ _ _ us hl => match us, hl with | [_, _, _], _ => rfl,
    m_is_integer_within := PySem.W.mg_of X G a9,
    f_u_are_parts := f10,
    d_u_are_parts := _,
    fun_u_are_parts := F10,
    b_u_are_parts := F10.binds (ps := ["parts", "outcomes"]) fun _ _ _ _ _ _ us hl => match us, hl with | [_, _], _ => rfl,
    m_u_are_parts := PySem.W.mg_of X G a10,
    f_is_work := f11,
    d_is_work := _,
    fun_is_work := F11,
    b_is_work := F11.binds (ps := ["work", "outcomes"]) fun _ _ _ _ _ _ us hl => match us, hl with | [_, _], _ => rfl,
    m_is_work := PySem.W.mg_of X G a11,
    f_u_are_works := f12,
    d_u_are_works := _,
    fun_u_are_works := F12,
    b_u_are_works := F12.binds (ps := ["works", "outcomes"]) fun _ _ _ _ _ _ us hl => match us, hl with | [_, _], _ => rfl,
    m_u_are_works := PySem.W.mg_of X G a12,
    f_are_worths := f13,
    d_are_worths := _,
    fun_are_worths := F13,
    b_are_worths := F13.binds (ps := ["worths"]) fun _ _ _ _ _ _ us hl => match us, hl with | [_], _ => rfl,
    m_are_worths := PySem.W.mg_of X G a13,
    f_JobD_initD := f14,
    d_JobD_initD := _,
    fun_JobD_initD := F14,
    b_JobD_initD := F14.binds (ps := ["self", "worths", "works"]) fun _ _ _ _ _ _ us hl => match us, hl with | [_, _, _], _ => rfl,
    f_check_job := f15,
    d_check_job := _,
    fun_check_job := F15,
    b_check_job := F15.binds (ps := ["job"]) fun _ _ _ _ _ _ us hl => match us, hl with | [_], _ => rfl,
    m_check_job := PySem.W.mg_of X G a15,
    f_check_work := f16,
    d_check_work := _,
    fun_check_work := F16,
    b_check_work := F16.binds (ps := ["job", "work"]) fun _ _ _ _ _ _ us hl => match us, hl with | [_, _], _ => rfl,
    m_check_work := PySem.W.mg_of X G a16,
    f_u_is_other := f17,
    d_u_is_other := _,
    fun_u_is_other := F17,
    b_u_is_other := F17.binds (ps := ["views", "work", "other"]) fun _ _ _ _ _ _ us hl => match us, hl with | [_, _, _], _ => rfl,
    m_u_is_other := PySem.W.mg_of X G a17,
    f_is_fraction := f18,
    d_is_fraction := _,
    fun_is_fraction := F18,
    b_is_fraction := F18.binds (ps := ["thing"]) fun _ _ _ _ _ _ us hl => match us, hl with | [_], _ => rfl,
    m_is_fraction := PySem.W.mg_of X G a18,
    f_is_amount := f19,
    d_is_amount := _,
    fun_is_amount := F19,
    b_is_amount := F19.binds (ps := ["thing"]) fun _ _ _ _ _ _ us hl => match us, hl with | [_], _ => rfl,
    m_is_amount := PySem.W.mg_of X G a19,
    f_is_less := f20,
    d_is_less := _,
    fun_is_less := F20,
    b_is_less := F20.binds (ps := ["one", "other"]) fun _ _ _ _ _ _ us hl => match us, hl with | [_, _], _ => rfl,
    m_is_less := PySem.W.mg_of X G a20,
    f_total := f21,
    d_total := _,
    fun_total := F21,
    b_total := F21.binds (ps := ["amounts"]) fun _ _ _ _ _ _ us hl => match us, hl with | [_], _ => rfl,
    m_total := PySem.W.mg_of X G a21,
    f_times := f22,
    d_times := _,
    fun_times := F22,
    b_times := F22.binds (ps := ["one", "other"]) fun _ _ _ _ _ _ us hl => match us, hl with | [_, _], _ => rfl,
    m_times := PySem.W.mg_of X G a22,
    f_weighted := f23,
    d_weighted := _,
    fun_weighted := F23,
    b_weighted := F23.binds (ps := ["weights", "amounts"]) fun _ _ _ _ _ _ us hl => match us, hl with | [_, _], _ => rfl,
    m_weighted := PySem.W.mg_of X G a23,
    f_mix_shows := f24,
    d_mix_shows := _,
    fun_mix_shows := F24,
    b_mix_shows := F24.binds (ps := ["views", "efforts", "work", "mix"]) fun _ _ _ _ _ _ us hl => match us, hl with | [_, _, _, _], _ => rfl,
    m_mix_shows := PySem.W.mg_of X G a24,
    f_work_efforts := f25,
    d_work_efforts := _,
    fun_work_efforts := F25,
    b_work_efforts := F25.binds (ps := ["job"]) fun _ _ _ _ _ _ us hl => match us, hl with | [_], _ => rfl,
    m_work_efforts := PySem.W.mg_of X G a25,
    f_Barred_shows := f26,
    d_Barred_shows := _,
    fun_Barred_shows := F26,
    kb_Barred_shows := DL.FunD.kbn F26 fun _ _ _ _ _ _ us ws hu hw => match us, hu, ws, hw with | [_, _, _], _, [_], _ => rfl,
    db_Barred_shows := F26.binds0 3 (by decide) rfl fun _ _ _ _ _ _ us ks h1 h2 => match us, h1, ks, h2 with | [_, _, _], _, [_], _ => ⟨_, _, _, _, _, _, rfl, rfl, rfl⟩,
    me_Barred_shows := ⟨a26, i26, k26⟩,
    f_u_is_rising := f27,
    d_u_is_rising := _,
    fun_u_is_rising := F27,
    b_u_is_rising := F27.binds (ps := ["pay"]) fun _ _ _ _ _ _ us hl => match us, hl with | [_], _ => rfl,
    m_u_is_rising := PySem.W.mg_of X G a27,
    f_average_pay := f28,
    d_average_pay := _,
    fun_average_pay := F28,
    b_average_pay := F28.binds (ps := ["job", "work", "pay"]) fun _ _ _ _ _ _ us hl => match us, hl with | [_, _, _], _ => rfl,
    m_average_pay := PySem.W.mg_of X G a28,
    f_Job_worths := f29,
    d_Job_worths := _,
    fun_Job_worths := F29,
    b_Job_worths := F29.binds (ps := ["self"]) fun _ _ _ _ _ _ us hl => match us, hl with | [_], _ => rfl,
    p_Job_worths := p29,
    pr_Job_worths := ⟨p1_29, p2_29, p3_29, rs29, p4_29⟩,
    f_is_pay := f30,
    d_is_pay := _,
    fun_is_pay := F30,
    b_is_pay := F30.binds (ps := ["job", "pay"]) fun _ _ _ _ _ _ us hl => match us, hl with | [_, _], _ => rfl,
    m_is_pay := PySem.W.mg_of X G a30,
    f_check_pay := f31,
    d_check_pay := _,
    fun_check_pay := F31,
    b_check_pay := F31.binds (ps := ["job", "pay"]) fun _ _ _ _ _ _ us hl => match us, hl with | [_, _], _ => rfl,
    m_check_pay := PySem.W.mg_of X G a31,
    f_negative := f32,
    d_negative := _,
    fun_negative := F32,
    b_negative := F32.binds (ps := ["one"]) fun _ _ _ _ _ _ us hl => match us, hl with | [_], _ => rfl,
    m_negative := PySem.W.mg_of X G a32,
    f_minus := f33,
    d_minus := _,
    fun_minus := F33,
    b_minus := F33.binds (ps := ["one", "other"]) fun _ _ _ _ _ _ us hl => match us, hl with | [_, _], _ => rfl,
    m_minus := PySem.W.mg_of X G a33,
    f_gain := f34,
    d_gain := _,
    fun_gain := F34,
    b_gain := F34.binds (ps := ["job", "work", "pay"]) fun _ _ _ _ _ _ us hl => match us, hl with | [_, _, _], _ => rfl,
    m_gain := PySem.W.mg_of X G a34,
    f_wanted := f35,
    d_wanted := _,
    fun_wanted := F35,
    b_wanted := F35.binds (ps := ["job", "pay"]) fun _ _ _ _ _ _ us hl => match us, hl with | [_, _], _ => rfl,
    m_wanted := PySem.W.mg_of X G a35,
    f_u_differences := f36,
    d_u_differences := _,
    fun_u_differences := F36,
    b_u_differences := F36.binds (ps := ["views", "work", "other"]) fun _ _ _ _ _ _ us hl => match us, hl with | [_, _, _], _ => rfl,
    m_u_differences := PySem.W.mg_of X G a36,
    f_u_effort_difference := f37,
    d_u_effort_difference := _,
    fun_u_effort_difference := F37,
    b_u_effort_difference := F37.binds (ps := ["efforts", "work", "other"]) fun _ _ _ _ _ _ us hl => match us, hl with | [_, _, _], _ => rfl,
    m_u_effort_difference := PySem.W.mg_of X G a37,
    f_are_within := f38,
    d_are_within := _,
    fun_are_within := F38,
    b_are_within := F38.binds (ps := ["factors", "rows", "limits"]) fun _ _ _ _ _ _ us hl => match us, hl with | [_, _, _], _ => rfl,
    m_are_within := PySem.W.mg_of X G a38,
    f_weights_show := f39,
    d_weights_show := _,
    fun_weights_show := F39,
    b_weights_show := F39.binds (ps := ["views", "efforts", "work", "weights", "cost"]) fun _ _ _ _ _ _ us hl => match us, hl with | [_, _, _, _, _], _ => rfl,
    m_weights_show := PySem.W.mg_of X G a39,
    f_Enough_shows := f40,
    d_Enough_shows := _,
    fun_Enough_shows := F40,
    kb_Enough_shows := DL.FunD.kbn F40 fun _ _ _ _ _ _ us ws hu hw => match us, hu, ws, hw with | [_, _, _], _, [_], _ => rfl,
    db_Enough_shows := F40.binds0 3 (by decide) rfl fun _ _ _ _ _ _ us ks h1 h2 => match us, h1, ks, h2 with | [_, _, _], _, [_], _ => ⟨_, _, _, _, _, _, rfl, rfl, rfl⟩,
    me_Enough_shows := ⟨a40, i40, k40⟩,
    f_u_law_blend := f41,
    d_u_law_blend := _,
    fun_u_law_blend := F41,
    b_u_law_blend := F41.binds (ps := []) fun _ _ _ _ _ _ us hl => match us, hl with | [], _ => rfl,
    m_u_law_blend := PySem.W.mg_of X G a41,
    f_EnoughD_initD := f42,
    d_EnoughD_initD := _,
    fun_EnoughD_initD := F42,
    b_EnoughD_initD := F42.binds (ps := ["self", "pay", "weights"]) fun _ _ _ _ _ _ us hl => match us, hl with | [_, _, _], _ => rfl,
    f_u_endless_weights := f43,
    d_u_endless_weights := _,
    fun_u_endless_weights := F43,
    b_u_endless_weights := F43.binds (ps := ["table", "told", "many", "column"]) fun _ _ _ _ _ _ us hl => match us, hl with | [_, _, _, _], _ => rfl,
    m_u_endless_weights := PySem.W.mg_of X G a43,
    f_u_first_table := f44,
    d_u_first_table := _,
    fun_u_first_table := F44,
    b_u_first_table := F44.binds (ps := ["costs", "rows", "needs"]) fun _ _ _ _ _ _ us hl => match us, hl with | [_, _, _], _ => rfl,
    m_u_first_table := PySem.W.mg_of X G a44,
    f_inverse := f45,
    d_inverse := _,
    fun_inverse := F45,
    b_inverse := F45.binds (ps := ["one"]) fun _ _ _ _ _ _ us hl => match us, hl with | [_], _ => rfl,
    m_inverse := PySem.W.mg_of X G a45,
    f_over := f46,
    d_over := _,
    fun_over := F46,
    b_over := F46.binds (ps := ["one", "other"]) fun _ _ _ _ _ _ us hl => match us, hl with | [_, _], _ => rfl,
    m_over := PySem.W.mg_of X G a46,
    f_u_pivoted := f47,
    d_u_pivoted := _,
    fun_u_pivoted := F47,
    b_u_pivoted := F47.binds (ps := ["table", "line", "column"]) fun _ _ _ _ _ _ us hl => match us, hl with | [_, _, _], _ => rfl,
    m_u_pivoted := PySem.W.mg_of X G a47,
    f_u_rising_column := f48,
    d_u_rising_column := _,
    fun_u_rising_column := F48,
    b_u_rising_column := F48.binds (ps := ["goal"]) fun _ _ _ _ _ _ us hl => match us, hl with | [_], _ => rfl,
    m_u_rising_column := PySem.W.mg_of X G a48,
    f_u_tightest_line := f49,
    d_u_tightest_line := _,
    fun_u_tightest_line := F49,
    b_u_tightest_line := F49.binds (ps := ["table", "told", "column"]) fun _ _ _ _ _ _ us hl => match us, hl with | [_, _, _], _ => rfl,
    m_u_tightest_line := PySem.W.mg_of X G a49,
    f_u_weights := f50,
    d_u_weights := _,
    fun_u_weights := F50,
    b_u_weights := F50.binds (ps := ["table", "told", "many"]) fun _ _ _ _ _ _ us hl => match us, hl with | [_, _, _], _ => rfl,
    m_u_weights := PySem.W.mg_of X G a50,
    f_cheapest := f51,
    d_cheapest := _,
    fun_cheapest := F51,
    b_cheapest := F51.binds (ps := ["costs", "rows", "needs"]) fun _ _ _ _ _ _ us hl => match us, hl with | [_, _, _], _ => rfl,
    m_cheapest := PySem.W.mg_of X G a51,
    f_least_amounts := f52,
    d_least_amounts := _,
    fun_least_amounts := F52,
    b_least_amounts := F52.binds (ps := ["views", "efforts", "work"]) fun _ _ _ _ _ _ us hl => match us, hl with | [_, _, _], _ => rfl,
    m_least_amounts := PySem.W.mg_of X G a52,
    f_least_pay := f53,
    d_least_pay := _,
    fun_least_pay := F53,
    kb_least_pay := DL.FunD.kbn F53 fun _ _ _ _ _ _ us ws hu hw => match us, hu, ws, hw with | [_, _], _, [_], _ => rfl,
    db_least_pay := F53.binds0 2 (by decide) rfl fun _ _ _ _ _ _ us ks h1 h2 => match us, h1, ks, h2 with | [_, _], _, [_], _ => ⟨_, _, _, _, _, _, rfl, rfl, rfl⟩,
    m_least_pay := PySem.W.mg_of X G a53,
    f_pay_cost := f54,
    d_pay_cost := _,
    fun_pay_cost := F54,
    kb_pay_cost := DL.FunD.kbn F54 fun _ _ _ _ _ _ us ws hu hw => match us, hu, ws, hw with | [_, _], _, [_], _ => rfl,
    db_pay_cost := F54.binds0 2 (by decide) rfl fun _ _ _ _ _ _ us ks h1 h2 => match us, h1, ks, h2 with | [_, _], _, [_], _ => ⟨_, _, _, _, _, _, rfl, rfl, rfl⟩,
    m_pay_cost := PySem.W.mg_of X G a54,
    f_u_law_bars_right := f55,
    d_u_law_bars_right := _,
    fun_u_law_bars_right := F55,
    b_u_law_bars_right := F55.binds (ps := ["cell"]) fun _ _ _ _ _ _ us hl => match us, hl with | [_], _ => rfl,
    m_u_law_bars_right := PySem.W.mg_of X G a55,
    f_BestD_initD := f56,
    d_BestD_initD := _,
    fun_BestD_initD := F56,
    b_BestD_initD := F56.binds (ps := ["self", "work", "needs"]) fun _ _ _ _ _ _ us hl => match us, hl with | [_, _, _], _ => rfl,
    f_u_are_needs := f57,
    d_u_are_needs := _,
    fun_u_are_needs := F57,
    b_u_are_needs := F57.binds (ps := ["job", "rising", "needs"]) fun _ _ _ _ _ _ us hl => match us, hl with | [_, _, _], _ => rfl,
    m_u_are_needs := PySem.W.mg_of X G a57,
    f_average_worth := f58,
    d_average_worth := _,
    fun_average_worth := F58,
    b_average_worth := F58.binds (ps := ["job", "work"]) fun _ _ _ _ _ _ us hl => match us, hl with | [_, _], _ => rfl,
    m_average_worth := PySem.W.mg_of X G a58,
    f_profit := f59,
    d_profit := _,
    fun_profit := F59,
    b_profit := F59.binds (ps := ["job", "work", "pay"]) fun _ _ _ _ _ _ us hl => match us, hl with | [_, _, _], _ => rfl,
    m_profit := PySem.W.mg_of X G a59,
    f_u_best_works := f60,
    d_u_best_works := _,
    fun_u_best_works := F60,
    b_u_best_works := F60.binds (ps := ["job", "needs"]) fun _ _ _ _ _ _ us hl => match us, hl with | [_, _], _ => rfl,
    m_u_best_works := PySem.W.mg_of X G a60,
    f_Best_shows := f61,
    d_Best_shows := _,
    fun_Best_shows := F61,
    kb_Best_shows := DL.FunD.kbn F61 fun _ _ _ _ _ _ us ws hu hw => match us, hu, ws, hw with | [_, _], _, [_], _ => rfl,
    db_Best_shows := F61.binds0 2 (by decide) rfl fun _ _ _ _ _ _ us ks h1 h2 => match us, h1, ks, h2 with | [_, _], _, [_], _ => ⟨_, _, _, _, _, _, rfl, rfl, rfl⟩,
    me_Best_shows := ⟨a61, i61, k61⟩,
    f_u_law_two := f62,
    d_u_law_two := _,
    fun_u_law_two := F62,
    b_u_law_two := F62.binds (ps := []) fun _ _ _ _ _ _ us hl => match us, hl with | [], _ => rfl,
    m_u_law_two := PySem.W.mg_of X G a62,
    f_choose := f63,
    d_choose := _,
    fun_choose := F63,
    kb_choose := DL.FunD.kbn F63 fun _ _ _ _ _ _ us ws hu hw => match us, hu, ws, hw with | [_], _, [_], _ => rfl,
    db_choose := F63.binds0 1 (by decide) rfl fun _ _ _ _ _ _ us ks h1 h2 => match us, h1, ks, h2 with | [_], _, [_], _ => ⟨_, _, _, _, _, _, rfl, rfl, rfl⟩,
    m_choose := PySem.W.mg_of X G a63,
    f_best_profit := f64,
    d_best_profit := _,
    fun_best_profit := F64,
    kb_best_profit := DL.FunD.kbn F64 fun _ _ _ _ _ _ us ws hu hw => match us, hu, ws, hw with | [_], _, [_], _ => rfl,
    db_best_profit := F64.binds0 1 (by decide) rfl fun _ _ _ _ _ _ us ks h1 h2 => match us, h1, ks, h2 with | [_], _, [_], _ => ⟨_, _, _, _, _, _, rfl, rfl, rfl⟩,
    m_best_profit := PySem.W.mg_of X G a64,
    f_u_law_choices_right := f65,
    d_u_law_choices_right := _,
    fun_u_law_choices_right := F65,
    b_u_law_choices_right := F65.binds (ps := ["cell"]) fun _ _ _ _ _ _ us hl => match us, hl with | [_], _ => rfl,
    m_u_law_choices_right := PySem.W.mg_of X G a65,
    f_u_law_number := f66,
    d_u_law_number := _,
    fun_u_law_number := F66,
    b_u_law_number := F66.binds (ps := ["script", "index"]) fun _ _ _ _ _ _ us hl => match us, hl with | [_, _], _ => rfl,
    m_u_law_number := PySem.W.mg_of X G a66,
    f_u_law_pays_right := f67,
    d_u_law_pays_right := _,
    fun_u_law_pays_right := F67,
    b_u_law_pays_right := F67.binds (ps := ["cell"]) fun _ _ _ _ _ _ us hl => match us, hl with | [_], _ => rfl,
    m_u_law_pays_right := PySem.W.mg_of X G a67,
    f_u_worth := f68,
    d_u_worth := _,
    fun_u_worth := F68,
    b_u_worth := F68.binds (ps := ["job", "work"]) fun _ _ _ _ _ _ us hl => match us, hl with | [_, _], _ => rfl,
    m_u_worth := PySem.W.mg_of X G a68,
    f_u_effort := f69,
    d_u_effort := _,
    fun_u_effort := F69,
    b_u_effort := F69.binds (ps := ["job", "work"]) fun _ _ _ _ _ _ us hl => match us, hl with | [_, _], _ => rfl,
    m_u_effort := PySem.W.mg_of X G a69,
    f_u_next_share := f70,
    d_u_next_share := _,
    fun_u_next_share := F70,
    b_u_next_share := F70.binds (ps := ["job", "work"]) fun _ _ _ _ _ _ us hl => match us, hl with | [_, _], _ => rfl,
    m_u_next_share := PySem.W.mg_of X G a70,
    f_u_check_share := f71,
    d_u_check_share := _,
    fun_u_check_share := F71,
    b_u_check_share := F71.binds (ps := ["share"]) fun _ _ _ _ _ _ us hl => match us, hl with | [_], _ => rfl,
    m_u_check_share := PySem.W.mg_of X G a71,
    f_u_gain := f72,
    d_u_gain := _,
    fun_u_gain := F72,
    b_u_gain := F72.binds (ps := ["job", "share", "work"]) fun _ _ _ _ _ _ us hl => match us, hl with | [_, _, _], _ => rfl,
    m_u_gain := PySem.W.mg_of X G a72,
    f_u_is_preferred := f73,
    d_u_is_preferred := _,
    fun_u_is_preferred := F73,
    b_u_is_preferred := F73.binds (ps := ["job", "share", "work", "other"]) fun _ _ _ _ _ _ us hl => match us, hl with | [_, _, _, _], _ => rfl,
    m_u_is_preferred := PySem.W.mg_of X G a73,
    f_done := f74,
    d_done := _,
    fun_done := F74,
    b_done := F74.binds (ps := ["job", "share"]) fun _ _ _ _ _ _ us hl => match us, hl with | [_, _], _ => rfl,
    m_done := PySem.W.mg_of X G a74,
    f_turns := f75,
    d_turns := _,
    fun_turns := F75,
    b_turns := F75.binds (ps := ["job"]) fun _ _ _ _ _ _ us hl => match us, hl with | [_], _ => rfl,
    m_turns := PySem.W.mg_of X G a75,
    f_best_share := f76,
    d_best_share := _,
    fun_best_share := F76,
    b_best_share := F76.binds (ps := ["job"]) fun _ _ _ _ _ _ us hl => match us, hl with | [_], _ => rfl,
    m_best_share := PySem.W.mg_of X G a76,
    f_u_law_shares_right := f77,
    d_u_law_shares_right := _,
    fun_u_law_shares_right := F77,
    b_u_law_shares_right := F77.binds (ps := ["cell"]) fun _ _ _ _ _ _ us hl => match us, hl with | [_], _ => rfl,
    m_u_law_shares_right := PySem.W.mg_of X G a77,
    f_u_law_all_right := f78,
    d_u_law_all_right := _,
    fun_u_law_all_right := F78,
    b_u_law_all_right := F78.binds (ps := ["script"]) fun _ _ _ _ _ _ us hl => match us, hl with | [_], _ => rfl,
    m_u_law_all_right := PySem.W.mg_of X G a78,
    mk_Job := ⟨mk_Job, a14, i14, kc_Job⟩,
    mk_Enough := ⟨mk_Enough, a42, i42, kc_Enough⟩,
    mk_Barred := ⟨mk_Barred, a0, i0, kc_Barred⟩,
    mk_Best := ⟨mk_Best, a56, i56, kc_Best⟩,
    at_works := fun k hk => match k, hk with | 0, _ => ⟨⟨pg_Job, hd_Job, po_Job, sa_Job⟩, na_Job_works⟩ | k + 1, h => by simp [List.contains_cons] at h,
    at_worths := fun k hk => match k, hk with | 0, _ => ⟨⟨pg_Job, hd_Job, po_Job, sa_Job⟩, na_Job_worths⟩ | k + 1, h => by simp [List.contains_cons] at h,
    at_mix := fun k hk => match k, hk with | 2, _ => ⟨⟨pg_Barred, hd_Barred, po_Barred, sa_Barred⟩, na_Barred_mix⟩ | 0, h => nomatch h | 1, h => nomatch h | k + 3, h => by simp [List.contains_cons] at h,
    at_needs := fun k hk => match k, hk with | 3, _ => ⟨⟨pg_Best, hd_Best, po_Best, sa_Best⟩, na_Best_needs⟩ | 0, h => nomatch h | 1, h => nomatch h | 2, h => nomatch h | k + 4, h => by simp [List.contains_cons] at h,
    at_pay := fun k hk => match k, hk with | 1, _ => ⟨⟨pg_Enough, hd_Enough, po_Enough, sa_Enough⟩, na_Enough_pay⟩ | 0, h => nomatch h | k + 2, h => by simp [List.contains_cons] at h,
    at_weights := fun k hk => match k, hk with | 1, _ => ⟨⟨pg_Enough, hd_Enough, po_Enough, sa_Enough⟩, na_Enough_weights⟩ | 0, h => nomatch h | k + 2, h => by simp [List.contains_cons] at h,
    at_work := fun k hk => match k, hk with | 3, _ => ⟨⟨pg_Best, hd_Best, po_Best, sa_Best⟩, na_Best_work⟩ | 0, h => nomatch h | 1, h => nomatch h | 2, h => nomatch h | k + 4, h => by simp [List.contains_cons] at h,
    isa_Barred := ⟨fun k hk => match k, hk with | 0, _ => ⟨⟨pg_Job, hd_Job, po_Job, sa_Job⟩, k1_Job, k4_Job, kit_not ne_Job_Barred kit_Job_Barred⟩ | 1, _ => ⟨⟨pg_Enough, hd_Enough, po_Enough, sa_Enough⟩, k1_Enough, k4_Enough, kit_not ne_Enough_Barred kit_Enough_Barred⟩ | 2, _ => ⟨⟨pg_Barred, hd_Barred, po_Barred, sa_Barred⟩, k1_Barred, k4_Barred, kit_self _ _⟩ | 3, _ => ⟨⟨pg_Best, hd_Best, po_Best, sa_Best⟩, k1_Best, k4_Best, kit_not ne_Best_Barred kit_Best_Barred⟩ | k + 4, h => by simp [List.contains_cons] at h, kk2, kk3⟩,
    isa_Job := ⟨fun k hk => match k, hk with | 0, _ => ⟨⟨pg_Job, hd_Job, po_Job, sa_Job⟩, k1_Job, k4_Job, kit_self _ _⟩ | 1, _ => ⟨⟨pg_Enough, hd_Enough, po_Enough, sa_Enough⟩, k1_Enough, k4_Enough, kit_not ne_Enough_Job kit_Enough_Job⟩ | 2, _ => ⟨⟨pg_Barred, hd_Barred, po_Barred, sa_Barred⟩, k1_Barred, k4_Barred, kit_not ne_Barred_Job kit_Barred_Job⟩ | 3, _ => ⟨⟨pg_Best, hd_Best, po_Best, sa_Best⟩, k1_Best, k4_Best, kit_not ne_Best_Job kit_Best_Job⟩ | k + 4, h => by simp [List.contains_cons] at h, kk2, kk3⟩,
    n_all := PySem.W.mg_none_of X G z_all,
    n_any := PySem.W.mg_none_of X G z_any,
    n_bool := PySem.W.mg_none_of X G z_bool,
    n_enumerate := PySem.W.mg_none_of X G z_enumerate,
    n_int := PySem.W.mg_none_of X G z_int,
    n_isinstance := PySem.W.mg_none_of X G z_isinstance,
    n_len := PySem.W.mg_none_of X G z_len,
    n_list := PySem.W.mg_none_of X G z_list,
    n_range := PySem.W.mg_none_of X G z_range,
    n_sum := PySem.W.mg_none_of X G z_sum,
    n_tuple := PySem.W.mg_none_of X G z_tuple,
    n_zip := PySem.W.mg_none_of X G z_zip,
    t_FEWEST := t_FEWEST,
    m_FEWEST := PySem.W.mg_of X G m_FEWEST,
    t_MOST := t_MOST,
    m_MOST := PySem.W.mg_of X G m_MOST,
    t_MOST_EFFORT := t_MOST_EFFORT,
    m_MOST_EFFORT := PySem.W.mg_of X G m_MOST_EFFORT,
    t_MOST_PART := t_MOST_PART,
    m_MOST_PART := PySem.W.mg_of X G m_MOST_PART,
    t_MOST_WORTH := t_MOST_WORTH,
    m_MOST_WORTH := PySem.W.mg_of X G m_MOST_WORTH,
    a_ONE := a_ONE,
    m_ONE := PySem.W.mg_of X G m_ONE,
    r_ONE := fun H => .tup (vs := [V.int 1, V.int 1]) (.inr ⟨_, _, _, l_ONE, rfl, rfl, (by show 2 ≤ sizeLine; decide), (.cons ⟨_, rfl⟩ (.cons ⟨_, rfl⟩ .nil))⟩) (.cons (.int 1) (.cons (.int 1) .nil)),
    a_ZERO := a_ZERO,
    m_ZERO := PySem.W.mg_of X G m_ZERO,
    r_ZERO := fun H => .tup (vs := [V.int 0, V.int 1]) (.inr ⟨_, _, _, l_ZERO, rfl, rfl, (by show 2 ≤ sizeLine; decide), (.cons ⟨_, rfl⟩ (.cons ⟨_, rfl⟩ .nil))⟩) (.cons (.int 0) (.cons (.int 1) .nil)),
    m_gcd := PySem.W.mg_of X G m_gcd }
  exact ⟨_, fun s v => .of_eq rfl, fun base _ _ => ok_law Fl T (PySem.W.mg_of X G aP) all_true⟩
theorem walk {l : PySem.W.OpenLaw} {q : Program} {loose : List Str} {XP : (Str → Option Value) → Heap → Prop} {YP : World → Heap → Prop} {d : DefRec} {K : Params → PySem.W.Frag} (hn : l.most = some 63) (hdf : d.params.defaults = [])
    (hY : ∀ (w : World) (h : Heap), YP w h → (K w.params).In h) (F : ∀ (w : World) (mg : Str → Option Value) (fa : Addr) (h : Heap), (K w.params).In h → h.Ns mainGlobals mg → mg d.name = some (.ref fa) →
      ∃ fd : FuncData, (∀ (s : Shared) (u : Value), BindsTo s fd ⟨[u], []⟩ [("script", u)]) ∧ ∀ base : Heap, (K w.params).In base → base.Ns mainGlobals mg → FnOk l.prog w (K w.params) mg base CX0 14 fa fd ["script"] (spLaw (K w.params))) :
    PySem.W.WalkO q loose XP YP l.row.toRowW d [] (fun f vs => PySem.call f vs) :=
  L2.walk_of (n := 63) (k := 14) (x := "script") (CX := fun _ => CX0) (sp := fun w => spLaw (K w.params)) hn (by decide) hdf ⟨rfl, by decide, by decide⟩ hY F (fun _ _ a ns hl _ hS => ⟨a, ns, rfl, hS, hl, fun _ => rfl⟩) fun _ _ _ _ _ z => z
end K06
open PySem PySem.W PyProof.Rows
set_option maxRecDepth 100000 in
set_option maxHeartbeats 0 in
theorem PySem.Challenge.cw_outcomepay_k06_known_holds : PySem.Challenge.rw_outcomepay_k06_known.Holds := by
  w_on; o_law; k_head; (case hw => w_witness2)
  k_fill
  refine K06.walk (l := PySem.Challenge.rw_outcomepay_k06_known) rfl rfl (fun w h Y => PySem.W.kIn_of Y) ?F
  case F =>
    intro w mg fa h KX G hmg
    refine' K06.all_mk KX G hmg ?aC_Job ?aC_Enough ?aC_Barred ?aC_Best ?a0 ?i0 ?l0 ?c0 ?k0 ?a1 ?i1 ?l1 ?c1 ?k1 ?a2 ?l2 ?c2 ?k2 ?a3 ?l3 ?c3 ?k3 ?a4 ?l4 ?c4 ?k4 ?p1_5 ?p4_5 ?p2_5 ?p3_5 ?l5 ?c5 ?k5 ?a6 ?l6 ?c6 ?k6 ?a7 ?l7 ?c7 ?k7 ?a8 ?l8 ?c8 ?k8 ?a9 ?l9 ?c9 ?k9 ?a10 ?l10 ?c10 ?k10 ?a11 ?l11 ?c11 ?k11 ?a12 ?l12 ?c12 ?k12 ?a13 ?l13 ?c13 ?k13 ?a14 ?i14 ?l14 ?c14 ?k14 ?a15 ?l15 ?c15 ?k15 ?a16 ?l16 ?c16 ?k16 ?a17 ?l17 ?c17 ?k17 ?a18 ?l18 ?c18 ?k18 ?a19 ?l19 ?c19 ?k19 ?a20 ?l20 ?c20 ?k20 ?a21 ?l21 ?c21 ?k21 ?a22 ?l22 ?c22 ?k22 ?a23 ?l23 ?c23 ?k23 ?a24 ?l24 ?c24 ?k24 ?a25 ?l25 ?c25 ?k25 ?a26 ?i26 ?l26 ?c26 ?k26 ?w26 ?a27 ?l27 ?c27 ?k27 ?a28 ?l28 ?c28 ?k28 ?p1_29 ?p4_29 ?p2_29 ?p3_29 ?l29 ?c29 ?k29 ?a30 ?l30 ?c30 ?k30 ?a31 ?l31 ?c31 ?k31 ?a32 ?l32 ?c32 ?k32 ?a33 ?l33 ?c33 ?k33 ?a34 ?l34 ?c34 ?k34 ?a35 ?l35 ?c35 ?k35 ?a36 ?l36 ?c36 ?k36 ?a37 ?l37 ?c37 ?k37 ?a38 ?l38 ?c38 ?k38 ?a39 ?l39 ?c39 ?k39 ?a40 ?i40 ?l40 ?c40 ?k40 ?w40 ?a41 ?l41 ?c41 ?k41 ?a42 ?i42 ?l42 ?c42 ?k42 ?a43 ?l43 ?c43 ?k43 ?a44 ?l44 ?c44 ?k44 ?a45 ?l45 ?c45 ?k45 ?a46 ?l46 ?c46 ?k46 ?a47 ?l47 ?c47 ?k47 ?a48 ?l48 ?c48 ?k48 ?a49 ?l49 ?c49 ?k49 ?a50 ?l50 ?c50 ?k50 ?a51 ?l51 ?c51 ?k51 ?a52 ?l52 ?c52 ?k52 ?a53 ?l53 ?c53 ?k53 ?w53 ?a54 ?l54 ?c54 ?k54 ?w54 ?a55 ?l55 ?c55 ?k55 ?a56 ?i56 ?l56 ?c56 ?k56 ?a57 ?l57 ?c57 ?k57 ?a58 ?l58 ?c58 ?k58 ?a59 ?l59 ?c59 ?k59 ?a60 ?l60 ?c60 ?k60 ?a61 ?i61 ?l61 ?c61 ?k61 ?w61 ?a62 ?l62 ?c62 ?k62 ?a63 ?l63 ?c63 ?k63 ?w63 ?a64 ?l64 ?c64 ?k64 ?w64 ?a65 ?l65 ?c65 ?k65 ?a66 ?l66 ?c66 ?k66 ?a67 ?l67 ?c67 ?k67 ?a68 ?l68 ?c68 ?k68 ?a69 ?l69 ?c69 ?k69 ?a70 ?l70 ?c70 ?k70 ?a71 ?l71 ?c71 ?k71 ?a72 ?l72 ?c72 ?k72 ?a73 ?l73 ?c73 ?k73 ?a74 ?l74 ?c74 ?k74 ?a75 ?l75 ?c75 ?k75 ?a76 ?l76 ?c76 ?k76 ?a77 ?l77 ?c77 ?k77 ?a78 ?l78 ?c78 ?k78 ?pg_Job ?hd_Job ?po_Job ?sa_Job ?k1_Job ?k4_Job ?mk_Job ?kc_Job ?na_Job_worths ?na_Job_works ?kit_Job_Barred ?ne_Job_Barred ?pg_Enough ?hd_Enough ?po_Enough ?sa_Enough ?k1_Enough ?k4_Enough ?mk_Enough ?kc_Enough ?na_Enough_pay ?na_Enough_weights ?kit_Enough_Barred ?ne_Enough_Barred ?kit_Enough_Job ?ne_Enough_Job ?pg_Barred ?hd_Barred ?po_Barred ?sa_Barred ?k1_Barred ?k4_Barred ?mk_Barred ?kc_Barred ?na_Barred_mix ?kit_Barred_Job ?ne_Barred_Job ?pg_Best ?hd_Best ?po_Best ?sa_Best ?k1_Best ?k4_Best ?mk_Best ?kc_Best ?na_Best_work ?na_Best_needs ?kit_Best_Barred ?ne_Best_Barred ?kit_Best_Job ?ne_Best_Job ?z_all ?z_any ?z_bool ?z_enumerate ?z_int ?z_isinstance ?z_len ?z_list ?z_range ?z_sum ?z_tuple ?z_zip ?m_FEWEST ?m_MOST ?m_MOST_EFFORT ?m_MOST_PART ?m_MOST_WORTH ?m_ONE ?l_ONE ?m_ZERO ?l_ZERO ?m_gcd ?kk2 ?kk3 ?aP ?al ?ll ?cl ?kl
    (case aC_Job => k_is)
    (case aC_Enough => k_is)
    (case aC_Barred => k_is)
    (case aC_Best => k_is)
    (case a0 => k_is)
    (case i0 => k_is)
    (case l0 => k_is)
    (case c0 => k_is)
    (case k0 => k_is)
    (case a1 => k_is)
    (case i1 => k_is)
    (case l1 => k_is)
    (case c1 => k_is)
    (case k1 => k_is)
    (case a2 => k_is)
    (case l2 => k_is)
    (case c2 => k_is)
    (case k2 => k_is)
    (case a3 => k_is)
    (case l3 => k_is)
    (case c3 => k_is)
    (case k3 => k_is)
    (case a4 => k_is)
    (case l4 => k_is)
    (case c4 => k_is)
    (case k4 => k_is)
    (case p1_5 => k_is)
    (case p4_5 => k_is)
    (case p2_5 => k_is)
    (case p3_5 => k_is)
    (case l5 => k_is)
    (case c5 => k_is)
    (case k5 => k_is)
    (case a6 => k_is)
    (case l6 => k_is)
    (case c6 => k_is)
    (case k6 => k_is)
    (case a7 => k_is)
    (case l7 => k_is)
    (case c7 => k_is)
    (case k7 => k_is)
    (case a8 => k_is)
    (case l8 => k_is)
    (case c8 => k_is)
    (case k8 => k_is)
    (case a9 => k_is)
    (case l9 => k_is)
    (case c9 => k_is)
    (case k9 => k_is)
    (case a10 => k_is)
    (case l10 => k_is)
    (case c10 => k_is)
    (case k10 => k_is)
    (case a11 => k_is)
    (case l11 => k_is)
    (case c11 => k_is)
    (case k11 => k_is)
    (case a12 => k_is)
    (case l12 => k_is)
    (case c12 => k_is)
    (case k12 => k_is)
    (case a13 => k_is)
    (case l13 => k_is)
    (case c13 => k_is)
    (case k13 => k_is)
    (case a14 => k_is)
    (case i14 => k_is)
    (case l14 => k_is)
    (case c14 => k_is)
    (case k14 => k_is)
    (case a15 => k_is)
    (case l15 => k_is)
    (case c15 => k_is)
    (case k15 => k_is)
    (case a16 => k_is)
    (case l16 => k_is)
    (case c16 => k_is)
    (case k16 => k_is)
    (case a17 => k_is)
    (case l17 => k_is)
    (case c17 => k_is)
    (case k17 => k_is)
    (case a18 => k_is)
    (case l18 => k_is)
    (case c18 => k_is)
    (case k18 => k_is)
    (case a19 => k_is)
    (case l19 => k_is)
    (case c19 => k_is)
    (case k19 => k_is)
    (case a20 => k_is)
    (case l20 => k_is)
    (case c20 => k_is)
    (case k20 => k_is)
    (case a21 => k_is)
    (case l21 => k_is)
    (case c21 => k_is)
    (case k21 => k_is)
    (case a22 => k_is)
    (case l22 => k_is)
    (case c22 => k_is)
    (case k22 => k_is)
    (case a23 => k_is)
    (case l23 => k_is)
    (case c23 => k_is)
    (case k23 => k_is)
    (case a24 => k_is)
    (case l24 => k_is)
    (case c24 => k_is)
    (case k24 => k_is)
    (case a25 => k_is)
    (case l25 => k_is)
    (case c25 => k_is)
    (case k25 => k_is)
    (case a26 => k_is)
    (case i26 => k_is)
    (case l26 => k_is)
    (case c26 => k_is)
    (case k26 => k_is)
    (case w26 => k_is)
    (case a27 => k_is)
    (case l27 => k_is)
    (case c27 => k_is)
    (case k27 => k_is)
    (case a28 => k_is)
    (case l28 => k_is)
    (case c28 => k_is)
    (case k28 => k_is)
    (case p1_29 => k_is)
    (case p4_29 => k_is)
    (case p2_29 => k_is)
    (case p3_29 => k_is)
    (case l29 => k_is)
    (case c29 => k_is)
    (case k29 => k_is)
    (case a30 => k_is)
    (case l30 => k_is)
    (case c30 => k_is)
    (case k30 => k_is)
    (case a31 => k_is)
    (case l31 => k_is)
    (case c31 => k_is)
    (case k31 => k_is)
    (case a32 => k_is)
    (case l32 => k_is)
    (case c32 => k_is)
    (case k32 => k_is)
    (case a33 => k_is)
    (case l33 => k_is)
    (case c33 => k_is)
    (case k33 => k_is)
    (case a34 => k_is)
    (case l34 => k_is)
    (case c34 => k_is)
    (case k34 => k_is)
    (case a35 => k_is)
    (case l35 => k_is)
    (case c35 => k_is)
    (case k35 => k_is)
    (case a36 => k_is)
    (case l36 => k_is)
    (case c36 => k_is)
    (case k36 => k_is)
    (case a37 => k_is)
    (case l37 => k_is)
    (case c37 => k_is)
    (case k37 => k_is)
    (case a38 => k_is)
    (case l38 => k_is)
    (case c38 => k_is)
    (case k38 => k_is)
    (case a39 => k_is)
    (case l39 => k_is)
    (case c39 => k_is)
    (case k39 => k_is)
    (case a40 => k_is)
    (case i40 => k_is)
    (case l40 => k_is)
    (case c40 => k_is)
    (case k40 => k_is)
    (case w40 => k_is)
    (case a41 => k_is)
    (case l41 => k_is)
    (case c41 => k_is)
    (case k41 => k_is)
    (case a42 => k_is)
    (case i42 => k_is)
    (case l42 => k_is)
    (case c42 => k_is)
    (case k42 => k_is)
    (case a43 => k_is)
    (case l43 => k_is)
    (case c43 => k_is)
    (case k43 => k_is)
    (case a44 => k_is)
    (case l44 => k_is)
    (case c44 => k_is)
    (case k44 => k_is)
    (case a45 => k_is)
    (case l45 => k_is)
    (case c45 => k_is)
    (case k45 => k_is)
    (case a46 => k_is)
    (case l46 => k_is)
    (case c46 => k_is)
    (case k46 => k_is)
    (case a47 => k_is)
    (case l47 => k_is)
    (case c47 => k_is)
    (case k47 => k_is)
    (case a48 => k_is)
    (case l48 => k_is)
    (case c48 => k_is)
    (case k48 => k_is)
    (case a49 => k_is)
    (case l49 => k_is)
    (case c49 => k_is)
    (case k49 => k_is)
    (case a50 => k_is)
    (case l50 => k_is)
    (case c50 => k_is)
    (case k50 => k_is)
    (case a51 => k_is)
    (case l51 => k_is)
    (case c51 => k_is)
    (case k51 => k_is)
    (case a52 => k_is)
    (case l52 => k_is)
    (case c52 => k_is)
    (case k52 => k_is)
    (case a53 => k_is)
    (case l53 => k_is)
    (case c53 => k_is)
    (case k53 => k_is)
    (case w53 => k_is)
    (case a54 => k_is)
    (case l54 => k_is)
    (case c54 => k_is)
    (case k54 => k_is)
    (case w54 => k_is)
    (case a55 => k_is)
    (case l55 => k_is)
    (case c55 => k_is)
    (case k55 => k_is)
    (case a56 => k_is)
    (case i56 => k_is)
    (case l56 => k_is)
    (case c56 => k_is)
    (case k56 => k_is)
    (case a57 => k_is)
    (case l57 => k_is)
    (case c57 => k_is)
    (case k57 => k_is)
    (case a58 => k_is)
    (case l58 => k_is)
    (case c58 => k_is)
    (case k58 => k_is)
    (case a59 => k_is)
    (case l59 => k_is)
    (case c59 => k_is)
    (case k59 => k_is)
    (case a60 => k_is)
    (case l60 => k_is)
    (case c60 => k_is)
    (case k60 => k_is)
    (case a61 => k_is)
    (case i61 => k_is)
    (case l61 => k_is)
    (case c61 => k_is)
    (case k61 => k_is)
    (case w61 => k_is)
    (case a62 => k_is)
    (case l62 => k_is)
    (case c62 => k_is)
    (case k62 => k_is)
    (case a63 => k_is)
    (case l63 => k_is)
    (case c63 => k_is)
    (case k63 => k_is)
    (case w63 => k_is)
    (case a64 => k_is)
    (case l64 => k_is)
    (case c64 => k_is)
    (case k64 => k_is)
    (case w64 => k_is)
    (case a65 => k_is)
    (case l65 => k_is)
    (case c65 => k_is)
    (case k65 => k_is)
    (case a66 => k_is)
    (case l66 => k_is)
    (case c66 => k_is)
    (case k66 => k_is)
    (case a67 => k_is)
    (case l67 => k_is)
    (case c67 => k_is)
    (case k67 => k_is)
    (case a68 => k_is)
    (case l68 => k_is)
    (case c68 => k_is)
    (case k68 => k_is)
    (case a69 => k_is)
    (case l69 => k_is)
    (case c69 => k_is)
    (case k69 => k_is)
    (case a70 => k_is)
    (case l70 => k_is)
    (case c70 => k_is)
    (case k70 => k_is)
    (case a71 => k_is)
    (case l71 => k_is)
    (case c71 => k_is)
    (case k71 => k_is)
    (case a72 => k_is)
    (case l72 => k_is)
    (case c72 => k_is)
    (case k72 => k_is)
    (case a73 => k_is)
    (case l73 => k_is)
    (case c73 => k_is)
    (case k73 => k_is)
    (case a74 => k_is)
    (case l74 => k_is)
    (case c74 => k_is)
    (case k74 => k_is)
    (case a75 => k_is)
    (case l75 => k_is)
    (case c75 => k_is)
    (case k75 => k_is)
    (case a76 => k_is)
    (case l76 => k_is)
    (case c76 => k_is)
    (case k76 => k_is)
    (case a77 => k_is)
    (case l77 => k_is)
    (case c77 => k_is)
    (case k77 => k_is)
    (case a78 => k_is)
    (case l78 => k_is)
    (case c78 => k_is)
    (case k78 => k_is)
    (case pg_Job => k_is)
    (case hd_Job => k_is)
    (case po_Job => k_is)
    (case sa_Job => k_is)
    (case k1_Job => k_is)
    (case k4_Job => k_is)
    (case mk_Job => k_is)
    (case kc_Job => k_is)
    (case na_Job_worths => k_is)
    (case na_Job_works => k_is)
    (case kit_Job_Barred => first | k_is | decide | rfl)
    (case ne_Job_Barred => first | k_is | decide | rfl)
    (case pg_Enough => k_is)
    (case hd_Enough => k_is)
    (case po_Enough => k_is)
    (case sa_Enough => k_is)
    (case k1_Enough => k_is)
    (case k4_Enough => k_is)
    (case mk_Enough => k_is)
    (case kc_Enough => k_is)
    (case na_Enough_pay => k_is)
    (case na_Enough_weights => k_is)
    (case kit_Enough_Barred => first | k_is | decide | rfl)
    (case ne_Enough_Barred => first | k_is | decide | rfl)
    (case kit_Enough_Job => first | k_is | decide | rfl)
    (case ne_Enough_Job => first | k_is | decide | rfl)
    (case pg_Barred => k_is)
    (case hd_Barred => k_is)
    (case po_Barred => k_is)
    (case sa_Barred => k_is)
    (case k1_Barred => k_is)
    (case k4_Barred => k_is)
    (case mk_Barred => k_is)
    (case kc_Barred => k_is)
    (case na_Barred_mix => k_is)
    (case kit_Barred_Job => first | k_is | decide | rfl)
    (case ne_Barred_Job => first | k_is | decide | rfl)
    (case pg_Best => k_is)
    (case hd_Best => k_is)
    (case po_Best => k_is)
    (case sa_Best => k_is)
    (case k1_Best => k_is)
    (case k4_Best => k_is)
    (case mk_Best => k_is)
    (case kc_Best => k_is)
    (case na_Best_work => k_is)
    (case na_Best_needs => k_is)
    (case kit_Best_Barred => first | k_is | decide | rfl)
    (case ne_Best_Barred => first | k_is | decide | rfl)
    (case kit_Best_Job => first | k_is | decide | rfl)
    (case ne_Best_Job => first | k_is | decide | rfl)
    (case z_all => k_is)
    (case z_any => k_is)
    (case z_bool => k_is)
    (case z_enumerate => k_is)
    (case z_int => k_is)
    (case z_isinstance => k_is)
    (case z_len => k_is)
    (case z_list => k_is)
    (case z_range => k_is)
    (case z_sum => k_is)
    (case z_tuple => k_is)
    (case z_zip => k_is)
    (case m_FEWEST => k_is)
    (case m_MOST => k_is)
    (case m_MOST_EFFORT => k_is)
    (case m_MOST_PART => k_is)
    (case m_MOST_WORTH => k_is)
    (case m_ONE => k_is)
    (case l_ONE => k_is)
    (case m_ZERO => k_is)
    (case l_ZERO => k_is)
    (case m_gcd => k_is)
    (case kk2 => k_is)
    (case kk3 => k_is)
    (case aP => k_is)
    (case al => k_is)
    (case ll => k_is)
    (case cl => k_is)
    (case kl => k_is)

