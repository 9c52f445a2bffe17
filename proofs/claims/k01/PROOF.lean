import PyProof.Rows.All
import Wide.All
import OpenK.AllK
import Wide.FinOn
import HandS.Zip
import HandS.ForMost
import HandS.Conv
import HandS.Wide
import HandS.IsInst
import HandS.Property
import HandS.Gcd
import HandS.TupMul
import KE.KTupSum
import HandS.TryOnly
import HandS.WordsExc
import PySem.Challenge.RW_outcomepay_k01_whole_jobs
set_option Elab.async false
set_option linter.all false
set_option maxRecDepth 100000
set_option maxHeartbeats 4000000
/-! zip of two things, each of them a list or a tuple: b tells which -/
namespace DZ
open PySem PySem.Spec PyProof.Rows L2
section
variable {prog : Program} {w : World} {A : Around} {E : Value → Shared → Prop} {s : Shared}
/-- the iterator it over l, k items on; l holds xs -/
def SrcAt (b : Bool) (h : Heap) (it l : Addr) (k : Nat) (xs : Array Value) : Prop := match b with
  | true => h.IsTupleIter it l k ∧ h.IsTuple l xs
  | false => h.IsListIter it l k ∧ h.IsList l xs
theorem SrcAt.ext {b : Bool} {h h' : Heap} {it l c : Addr} {k : Nat} {xs : Array Value} (S : SrcAt b h it l k xs) (x : Heap.ExtBut c h h') (n1 : it ≠ c) (n2 : l ≠ c) : SrcAt b h' it l k xs := by
  cases b with
  | true => exact ⟨S.1.extBut x n1, S.2.extBut x n2⟩
  | false => exact ⟨S.1.extBut x n1, S.2.extBut x n2⟩
theorem SrcAt.obj {b : Bool} {h : Heap} {it l : Addr} {k : Nat} {xs : Array Value} (S : SrcAt b h it l k xs) : ∃ o v, h.get? it = some o ∧ o.data = .fields v := by
  cases b with
  | true => obtain ⟨⟨o, e, _, d⟩, _⟩ := S; exact ⟨o, _, e, d⟩
  | false => obtain ⟨⟨o, e, _, d⟩, _⟩ := S; exact ⟨o, _, e, d⟩
/-- the iterator alone -/
def ItAt (b : Bool) (h : Heap) (it l : Addr) (k : Nat) : Prop := match b with
  | true => h.IsTupleIter it l k
  | false => h.IsListIter it l k
theorem SrcAt.it {b : Bool} {h : Heap} {it l : Addr} {k : Nat} {xs : Array Value} (S : SrcAt b h it l k xs) : ItAt b h it l k := by
  cases b with
  | true => exact S.1
  | false => exact S.1
theorem ItAt.on {b : Bool} {h h' : Heap} {it l : Addr} {k : Nat} (S : ItAt b h it l k) (f : ∀ o, h.get? it = some o → h'.get? it = some o) : ItAt b h' it l k := by
  cases b with
  | true => exact Heap.IsTupleIter.at S f
  | false => exact Heap.IsListIter.at S f
theorem ItAt.obj {b : Bool} {h : Heap} {it l : Addr} {k : Nat} (S : ItAt b h it l k) : ∃ o v, h.get? it = some o ∧ o.data = .fields v := by
  cases b with
  | true => obtain ⟨o, e, _, d⟩ := S; exact ⟨o, _, e, d⟩
  | false => obtain ⟨o, e, _, d⟩ := S; exact ⟨o, _, e, d⟩
theorem next_item {b : Bool} {it l : Addr} {k : Nat} {xs : Array Value} {x : Value} {Q : Value → Shared → Prop} (S : SrcAt b s.heap it l k xs) (hx : xs[k]? = some x) (nl : l ≠ it)
    (h : ∀ h', SrcAt b h' it l (k + 1) xs → Heap.SameBut it s.heap h' → Q x { s with heap := h' }) : wpAny (model prog w) A (Builtin.SmallTypes.nextOf (.ref it)) Q E s := by
  cases b with
  | true => exact RZ.nextOf_tuple_item S.1 S.2 hx fun h' a c => h h' ⟨a, S.2.extBut c.extBut nl⟩ c
  | false => exact wpAny_nextOf_list_item S.1 S.2 hx fun h' a c => h h' ⟨a, S.2.extBut c.extBut nl⟩ c
theorem next_end {b : Bool} {it l : Addr} {k : Nat} {xs : Array Value} {Q : Value → Shared → Prop} (hh : A.handled = none) (S : SrcAt b s.heap it l k xs) (hx : xs[k]? = none)
    (h : ∀ h' e, Heap.ExtBut it s.heap h' → (∃ o, h'.get? e = some o ∧ o.cls = .type "StopIteration") → E (.ref e) { s with heap := h' }) : wpAny (model prog w) A (Builtin.SmallTypes.nextOf (.ref it)) Q E s := by
  cases b with
  | true => exact RZ.nextOf_tuple_end hh S.1 S.2 hx h
  | false => exact wpAny_nextOf_list_end hh S.1 S.2 hx h

theorem zip_item {b1 b2 : Bool} {z TI TO i1 i2 l1 l2 : Addr} {k1 k2 : Nat} {xs ys : Array Value} {x y a b : Value} {Q : Value → Shared → Prop} (D : ZipApart z TI TO i1 i2 l1 l2) (hz : IsZip s.heap z TI TO .none) (hTI : IsPair s.heap TI (.ref i1) (.ref i2))
    (hTO : IsPair s.heap TO a b) (S1 : SrcAt b1 s.heap i1 l1 k1 xs) (S2 : SrcAt b2 s.heap i2 l2 k2 ys) (hx : xs[k1]? = some x) (hy : ys[k2]? = some y)
    (hQ : ∀ h', IsZip h' z TI TO (rawInt s.heap.objs.size) → IsPair h' TO x y → ItAt b1 h' i1 l1 (k1 + 1) → ItAt b2 h' i2 l2 (k2 + 1) → IsPair h' s.heap.objs.size x y → h'.objs.size = s.heap.objs.size + 1 →
      (∀ c o, c ≠ z → c ≠ TO → c ≠ i1 → c ≠ i2 → s.heap.get? c = some o → h'.get? c = some o) → Q (.ref s.heap.objs.size) { s with heap := h' }) :
    wpAny (model prog w) A (Builtin.«zip.__next__» ⟨[.ref z], []⟩) (fun fin s' => ∃ v, fin = .done (.ret v) ∧ Q v s') E s := by
  show wpAny _ _ (field (.ref z) 2 >>= _) _ _ _; refine wpAny_bind (wpAny_field hz rfl (x := .bool false) rfl ?_)
  show wpAny _ _ (field (.ref z) 3 >>= _) _ _ _; refine wpAny_bind (wpAny_field hz rfl (x := .ref TI) rfl ?_); refine wpAny_bind (wpAny_seqItems hTI rfl ?_)
  show wpAny _ _ (Builtin.SmallTypes.ownedTupleIsFree (.ref z) >>= _) _ _ _; refine wpAny_bind ?_; unfold Builtin.SmallTypes.ownedTupleIsFree
  refine wpAny_bind (wpAny_field hz rfl (x := .none) rfl (wpAny_pure ?_)); simp only [if_true]; refine wpAny_bind (wpAny_rule ?_)
  refine wpAny_bind (wpAny_field hz rfl (x := .ref TO) rfl ?_); refine wpAny_bind (wpAny_setField_rec hz (by simp) fun g1 z1 m1 => ?_)
  replace z1 : IsZip g1 z TI TO .ellipsis := z1
  refine wpAny_bind ?_; simp only [List.zipIdx_cons, List.zipIdx_nil, List.forIn_cons, List.forIn_nil]; refine wpAny_bind (wpAny_bind (wpAny_onRaise ?_))
  show wpAny _ _ (Builtin.SmallTypes.nextOf (.ref i1) >>= _) _ _ _
  refine wpAny_bind (next_item (S1.ext m1.extBut D.i1z D.l1z) hx D.l1i1 fun g2 T1 m2 => wpAny_pure ?_)
  have p2 : IsPair g2 TO a b := m2.extBut _ _ D.TOi1 (m1.extBut _ _ D.TOz hTO)
  refine wpAny_bind (wpAny_seqItems p2 rfl ?_); refine wpAny_bind (wpAny_updateSeq_pair p2 fun g3 p3 m3 => ?_)
  replace p3 : IsPair g3 TO x b := p3
  refine wpAny_bind (wpAny_letGo (wpAny_pure ?_)); refine wpAny_bind (wpAny_bind (wpAny_onRaise ?_))
  show wpAny _ _ (Builtin.SmallTypes.nextOf (.ref i2) >>= _) _ _ _
  refine wpAny_bind (next_item (((S2.ext m1.extBut D.i2z D.l2z).ext m2.extBut D.i12.symm D.l2i1).ext m3.extBut D.TOi2.symm D.l2TO) hy D.l2i2 fun g4 T2 m4 => wpAny_pure ?_)
  have p4 : IsPair g4 TO x b := m4.extBut _ _ D.TOi2 p3
  refine wpAny_bind (wpAny_seqItems p4 rfl ?_); refine wpAny_bind (wpAny_updateSeq_pair p4 fun g5 p5 m5 => ?_)
  replace p5 : IsPair g5 TO x y := p5
  refine wpAny_bind (wpAny_letGo (wpAny_pure (wpAny_pure ?_))); refine wpAny_bind (wpAny_seqItems p5 rfl ?_); refine wpAny_bind (wpAny_newTuple ?_)
  have sz5 : g5.objs.size = s.heap.objs.size := by rw [m5.1, m4.1, m3.1, m2.1, m1.1]
  have z5 : IsZip g5 z TI TO .ellipsis := m5.extBut _ _ D.TOz.symm (m4.extBut _ _ D.i2z.symm (m3.extBut _ _ D.TOz.symm (m2.extBut _ _ D.i1z.symm z1)))
  have up5 : ∀ c o, c ≠ z → c ≠ TO → c ≠ i1 → c ≠ i2 → s.heap.get? c = some o → g5.get? c = some o := fun c o c1 c2 c3 c4 e => m5.extBut _ _ c2 (m4.extBut _ _ c4 (m3.extBut _ _ c2 (m2.extBut _ _ c3 (m1.extBut _ _ c1 e))))
  have U1 : SrcAt b1 g5 i1 l1 (k1 + 1) xs := ((T1.ext m3.extBut D.TOi1.symm D.l1TO).ext m4.extBut D.i12 D.l1i2).ext m5.extBut D.TOi1.symm D.l1TO
  have U2 : SrcAt b2 g5 i2 l2 (k2 + 1) ys := T2.ext m5.extBut D.TOi2.symm D.l2TO
  have zlt : z < g5.objs.size := Heap.lt_size z5
  show wpAny _ _ (Builtin.SmallTypes.ownedTupleHandOut (.ref z) (.ref g5.objs.size) >>= _) _ _ _; refine wpAny_bind ?_; unfold Builtin.SmallTypes.ownedTupleHandOut
  have z6 : IsZip (g5.push { cls := .type "tuple", data := .seq #[x, y] }) z TI TO .ellipsis := Heap.get?_push_of_some _ z5
  refine wpAny_bind (wpAny_setField_rec z6 (by simp) fun g7 z7 m7 => ?_)
  replace z7 : IsZip g7 z TI TO (rawInt g5.objs.size) := z7
  refine wpAny_setField_rec z7 (by simp) fun g8 z8 m8 => ?_
  replace z8 : IsZip g8 z TI TO (rawInt g5.objs.size) := z8
  have up : ∀ c o, c ≠ z → g5.get? c = some o → g8.get? c = some o := fun c o c1 e => m8.extBut _ _ c1 (m7.extBut _ _ c1 (Heap.get?_push_of_some _ e))
  have p8 : IsPair g8 g5.objs.size x y := m8.extBut _ _ (Nat.ne_of_gt zlt) (m7.extBut _ _ (Nat.ne_of_gt zlt) (Heap.get?_push_size _ rfl))
  have n8 : g8.objs.size = g5.objs.size + 1 := by rw [m8.1, m7.1, Heap.size_push]
  rw [sz5] at z8 p8 n8
  refine wpAny_pure ⟨_, rfl, ?_⟩; show Q (.ref g5.objs.size) _; rw [sz5]
  exact hQ g8 z8 (up _ _ D.TOz p5) (U1.it.on fun o e => up _ o D.i1z e) (U2.it.on fun o e => up _ o D.i2z e) p8 n8 fun c o c1 c2 c3 c4 e => up c o c1 (up5 c o c1 c2 c3 c4 e)

theorem zip_end {b1 b2 : Bool} {z TI TO i1 i2 l1 l2 : Addr} {k1 k2 : Nat} {xs ys : Array Value} {a b : Value} {Q : Fin → Shared → Prop} (hh : A.handled = none) (D : ZipApart z TI TO i1 i2 l1 l2) (hz : IsZip s.heap z TI TO .none) (hTI : IsPair s.heap TI (.ref i1) (.ref i2))
    (hTO : IsPair s.heap TO a b) (S1 : SrcAt b1 s.heap i1 l1 k1 xs) (S2 : SrcAt b2 s.heap i2 l2 k2 ys) (hend : xs[k1]? = none ∨ ys[k2]? = none)
    (hE : ∀ h' e, (∀ c o, c ≠ z → c ≠ TO → c ≠ i1 → c ≠ i2 → s.heap.get? c = some o → h'.get? c = some o) → (∃ o, h'.get? e = some o ∧ o.cls = .type "StopIteration") → E (.ref e) { s with heap := h' }) :
    wpAny (model prog w) A (Builtin.«zip.__next__» ⟨[.ref z], []⟩) Q E s := by
  show wpAny _ _ (field (.ref z) 2 >>= _) _ _ _; refine wpAny_bind (wpAny_field hz rfl (x := .bool false) rfl ?_)
  show wpAny _ _ (field (.ref z) 3 >>= _) _ _ _; refine wpAny_bind (wpAny_field hz rfl (x := .ref TI) rfl ?_); refine wpAny_bind (wpAny_seqItems hTI rfl ?_)
  show wpAny _ _ (Builtin.SmallTypes.ownedTupleIsFree (.ref z) >>= _) _ _ _; refine wpAny_bind ?_; unfold Builtin.SmallTypes.ownedTupleIsFree
  refine wpAny_bind (wpAny_field hz rfl (x := .none) rfl (wpAny_pure ?_)); simp only [if_true]; refine wpAny_bind (wpAny_rule ?_)
  refine wpAny_bind (wpAny_field hz rfl (x := .ref TO) rfl ?_); refine wpAny_bind (wpAny_setField_rec hz (by simp) fun g1 z1 m1 => ?_)
  replace z1 : IsZip g1 z TI TO .ellipsis := z1
  refine wpAny_bind ?_; simp only [List.zipIdx_cons, List.zipIdx_nil, List.forIn_cons, List.forIn_nil]; refine wpAny_bind (wpAny_bind (wpAny_onRaise ?_))
  show wpAny _ _ (Builtin.SmallTypes.nextOf (.ref i1) >>= _) _ _ _
  have S1' := S1.ext m1.extBut D.i1z D.l1z
  cases hx : xs[k1]? with
  | none =>
    refine wpAny_bind (next_end hh S1' hx fun g2 e m2 he => ?_)
    obtain ⟨oe, hoe, hce⟩ := he
    have z2 : IsZip g2 z TI TO .ellipsis := m2 _ _ D.i1z.symm z1
    have ez : e ≠ z := fun x => by subst x; rw [z2] at hoe; cases hoe; simp at hce
    exact wpAny_setField_rec z2 (by simp) fun g3 _ m3 => hE g3 e (fun c o c1 _ c3 _ x => m3.extBut _ _ c1 (m2 _ _ c3 (m1.extBut _ _ c1 x))) ⟨oe, m3.extBut _ _ ez hoe, hce⟩
  | some x =>
    have hy : ys[k2]? = none := hend.resolve_left fun q => by rw [hx] at q; cases q
    refine wpAny_bind (next_item S1' hx D.l1i1 fun g2 T1 m2 => wpAny_pure ?_)
    have p2 : IsPair g2 TO a b := m2.extBut _ _ D.TOi1 (m1.extBut _ _ D.TOz hTO)
    refine wpAny_bind (wpAny_seqItems p2 rfl ?_); refine wpAny_bind (wpAny_updateSeq_pair p2 fun g3 p3 m3 => ?_)
    refine wpAny_bind (wpAny_letGo (wpAny_pure ?_)); refine wpAny_bind (wpAny_bind (wpAny_onRaise ?_))
    show wpAny _ _ (Builtin.SmallTypes.nextOf (.ref i2) >>= _) _ _ _
    refine wpAny_bind (next_end hh (((S2.ext m1.extBut D.i2z D.l2z).ext m2.extBut D.i12.symm D.l2i1).ext m3.extBut D.TOi2.symm D.l2TO) hy fun g4 e m4 he => ?_)
    obtain ⟨oe, hoe, hce⟩ := he
    have z4 : IsZip g4 z TI TO .ellipsis := m4 _ _ D.i2z.symm (m3.extBut _ _ D.TOz.symm (m2.extBut _ _ D.i1z.symm z1))
    have ez : e ≠ z := fun x => by subst x; rw [z4] at hoe; cases hoe; simp at hce
    exact wpAny_setField_rec z4 (by simp) fun g5 _ m5 => hE g5 e (fun c o c1 c2 c3 c4 x => m5.extBut _ _ c1 (m4 _ _ c4 (m3.extBut _ _ c2 (m2.extBut _ _ c3 (m1.extBut _ _ c1 x))))) ⟨oe, m5.extBut _ _ ez hoe, hce⟩

theorem py_item {b1 b2 : Bool} {z TI TO i1 i2 l1 l2 : Addr} {k1 k2 : Nat} {xs ys : Array Value} {x y a b : Value} {Q : Option Value → Shared → Prop} (D : ZipApart z TI TO i1 i2 l1 l2) (hz : IsZip s.heap z TI TO .none) (hTI : IsPair s.heap TI (.ref i1) (.ref i2))
    (hTO : IsPair s.heap TO a b) (S1 : SrcAt b1 s.heap i1 l1 k1 xs) (S2 : SrcAt b2 s.heap i2 l2 k2 ys) (hx : xs[k1]? = some x) (hy : ys[k2]? = some y)
    (hQ : ∀ h', IsZip h' z TI TO (rawInt s.heap.objs.size) → IsPair h' TO x y → ItAt b1 h' i1 l1 (k1 + 1) → ItAt b2 h' i2 l2 (k2 + 1) → IsPair h' s.heap.objs.size x y → h'.objs.size = s.heap.objs.size + 1 →
      (∀ c o, c ≠ z → c ≠ TO → c ≠ i1 → c ≠ i2 → s.heap.get? c = some o → h'.get? c = some o) → Q (some (.ref s.heap.objs.size)) { s with heap := h' }) : wpAny (model prog w) A (pyNext (.ref z)) Q E s := by
  have hT : s.TypeIs (.ref z) "zip" := ⟨_, hz, rfl⟩
  unfold pyNext
  exact wpAny_bind (wpAny_attempt (wpAny_callSpecial?_slot (name := Str.ofString "__next__") hT F.slot_zip_next (wpAny_call_entry F.slot_zip_next hT F.entry_zip_next (zip_item D hz hTI hTO S1 S2 hx hy fun h' a1 a2 a3 a4 a5 a6 a7 => wpAny_pure (hQ h' a1 a2 a3 a4 a5 a6 a7)) (F.args_zip_next_1 _))))
theorem py_end {b1 b2 : Bool} {z TI TO i1 i2 l1 l2 : Addr} {k1 k2 : Nat} {xs ys : Array Value} {a b : Value} {Q : Option Value → Shared → Prop} (hh : A.handled = none) (D : ZipApart z TI TO i1 i2 l1 l2) (hz : IsZip s.heap z TI TO .none) (hTI : IsPair s.heap TI (.ref i1) (.ref i2))
    (hTO : IsPair s.heap TO a b) (S1 : SrcAt b1 s.heap i1 l1 k1 xs) (S2 : SrcAt b2 s.heap i2 l2 k2 ys) (hend : xs[k1]? = none ∨ ys[k2]? = none)
    (hQ : ∀ h', (∀ c o, c ≠ z → c ≠ TO → c ≠ i1 → c ≠ i2 → s.heap.get? c = some o → h'.get? c = some o) → Q none { s with heap := h' }) : wpAny (model prog w) A (pyNext (.ref z)) Q E s := by
  have hT : s.TypeIs (.ref z) "zip" := ⟨_, hz, rfl⟩
  unfold pyNext
  refine wpAny_bind (wpAny_attempt (wpAny_callSpecial?_slot (name := Str.ofString "__next__") hT F.slot_zip_next (wpAny_call_entry F.slot_zip_next hT F.entry_zip_next (zip_end hh D hz hTI hTO S1 S2 hend fun h' e hk he => ?_) (F.args_zip_next_1 _))))
  obtain ⟨o, ho, hc⟩ := he
  exact wpAny_bind (wpAny_isInstance (T := "StopIteration") (b := true) ⟨o, ho, hc⟩ isSubtype_stop (wpAny_pure (hQ _ hk)))
end
/-- the iterator's object of a list or a tuple, new -/
def itObj (b : Bool) (l : Addr) : Obj := if b then { cls := .type "tuple_iterator", data := .fields #[.ref l, .int 0 0] } else { cls := .type "list_iterator", data := .fields #[.ref l, .int 0 0] }
abbrev g1 (h : Heap) (b1 : Bool) (l1 : Addr) : Heap := h.push (itObj b1 l1)
abbrev g2 (h : Heap) (b1 b2 : Bool) (l1 l2 : Addr) : Heap := (g1 h b1 l1).push (itObj b2 l2)
abbrev g3 (h : Heap) (b1 b2 : Bool) (l1 l2 : Addr) : Heap := (g2 h b1 b2 l1 l2).push { cls := .type "tuple", data := .seq #[.ref h.objs.size, .ref (g1 h b1 l1).objs.size] }
abbrev g4 (h : Heap) (b1 b2 : Bool) (l1 l2 : Addr) : Heap := (g3 h b1 b2 l1 l2).push { cls := .type "tuple", data := .seq #[.none, .none] }
abbrev g5 (h : Heap) (b1 b2 : Bool) (l1 l2 : Addr) : Heap := (g4 h b1 b2 l1 l2).push { cls := .type "zip", data := .fields #[.none, .bool false, .bool false, .ref (g2 h b1 b2 l1 l2).objs.size, .ref (g3 h b1 b2 l1 l2).objs.size] }
theorem new_LT (l1 l2 : Addr) (xs ys : Array Value) : Meets (Builtin.«zip.__new__» ⟨[.type "zip", .ref l1, .ref l2], []⟩) (fun _ R s => (s.heap.IsList l1 xs ∧ s.heap.IsTuple l2 ys) ∧ R (.ok (.ret (.ref (g4 s.heap false true l1 l2).objs.size))) { s with heap := g5 s.heap false true l1 l2 }) := .of_wp fun prog w A R s h => by
  obtain ⟨hp, g, d, tk, os⟩ := s
  obtain ⟨⟨a1, a2⟩, h⟩ := h
  have hsub := sub_zip
  have q1 : Heap.IsList (Shared.heap ⟨hp, g, d, tk, os⟩) l1 xs := a1
  have q2 : Heap.IsTuple (Shared.heap ⟨hp.push { cls := .type "list_iterator", data := .fields #[.ref l1, .int 0 0] }, g, d, tk, os⟩) l2 ys := Heap.IsTuple.push a2 _
  wp_walk using wpAny_pyIter_list q1, wpAny_pyIter_tuple q2
  exact ⟨_, rfl, h⟩
theorem new_TL (l1 l2 : Addr) (xs ys : Array Value) : Meets (Builtin.«zip.__new__» ⟨[.type "zip", .ref l1, .ref l2], []⟩) (fun _ R s => (s.heap.IsTuple l1 xs ∧ s.heap.IsList l2 ys) ∧ R (.ok (.ret (.ref (g4 s.heap true false l1 l2).objs.size))) { s with heap := g5 s.heap true false l1 l2 }) := .of_wp fun prog w A R s h => by
  obtain ⟨hp, g, d, tk, os⟩ := s
  obtain ⟨⟨a1, a2⟩, h⟩ := h
  have hsub := sub_zip
  have q1 : Heap.IsTuple (Shared.heap ⟨hp, g, d, tk, os⟩) l1 xs := a1
  have q2 : Heap.IsList (Shared.heap ⟨hp.push { cls := .type "tuple_iterator", data := .fields #[.ref l1, .int 0 0] }, g, d, tk, os⟩) l2 ys := Heap.IsList.push a2 _
  wp_walk using wpAny_pyIter_tuple q1, wpAny_pyIter_list q2
  exact ⟨_, rfl, h⟩
def SrcL (b : Bool) (h : Heap) (l : Addr) (xs : Array Value) : Prop := if b then h.IsTuple l xs else h.IsList l xs
section
variable {prog : Program} {w : World} {A : Around} {E : Value → Shared → Prop} {s : Shared}
/-- what is laid for zip(l1, l2) -/
theorem laid {b1 b2 : Bool} {l1 l2 : Addr} {Q : Value → Shared → Prop}
    (h : ∀ h', IsZip h' (s.heap.objs.size + 4) (s.heap.objs.size + 2) (s.heap.objs.size + 3) .none → IsPair h' (s.heap.objs.size + 2) (.ref s.heap.objs.size) (.ref (s.heap.objs.size + 1)) →
      IsPair h' (s.heap.objs.size + 3) .none .none → ItAt b1 h' s.heap.objs.size l1 0 → ItAt b2 h' (s.heap.objs.size + 1) l2 0 → (∀ c o, s.heap.get? c = some o → h'.get? c = some o) → Q (.ref (s.heap.objs.size + 4)) { s with heap := h' }) :
    Q (.ref (g4 s.heap b1 b2 l1 l2).objs.size) { s with heap := g5 s.heap b1 b2 l1 l2 } := by
  have y1 : (g1 s.heap b1 l1).objs.size = s.heap.objs.size + 1 := Heap.size_push ..
  have y2 : (g2 s.heap b1 b2 l1 l2).objs.size = s.heap.objs.size + 2 := by rw [Heap.size_push, y1]
  have y3 : (g3 s.heap b1 b2 l1 l2).objs.size = s.heap.objs.size + 3 := by rw [Heap.size_push, y2]
  have y4 : (g4 s.heap b1 b2 l1 l2).objs.size = s.heap.objs.size + 4 := by rw [Heap.size_push, y3]
  have e5 : (g5 s.heap b1 b2 l1 l2).get? (g4 s.heap b1 b2 l1 l2).objs.size = some _ := Heap.get?_push_size _ rfl
  have e4 : (g5 s.heap b1 b2 l1 l2).get? (g3 s.heap b1 b2 l1 l2).objs.size = some _ := Heap.get?_push_of_some _ (Heap.get?_push_size _ rfl)
  have e3 : (g5 s.heap b1 b2 l1 l2).get? (g2 s.heap b1 b2 l1 l2).objs.size = some _ := Heap.get?_push_of_some _ (Heap.get?_push_of_some _ (Heap.get?_push_size _ rfl))
  have f2 : (itObj b2 l2).isFreed = false := by cases b2 <;> rfl
  have f1 : (itObj b1 l1).isFreed = false := by cases b1 <;> rfl
  have e2 : (g5 s.heap b1 b2 l1 l2).get? (g1 s.heap b1 l1).objs.size = some (itObj b2 l2) := Heap.get?_push_of_some _ (Heap.get?_push_of_some _ (Heap.get?_push_of_some _ (Heap.get?_push_size _ f2)))
  have e1 : (g5 s.heap b1 b2 l1 l2).get? s.heap.objs.size = some (itObj b1 l1) := Heap.get?_push_of_some _ (Heap.get?_push_of_some _ (Heap.get?_push_of_some _ (Heap.get?_push_of_some _ (Heap.get?_push_size _ f1))))
  rw [y2, y3, y4] at e5
  rw [y1, y2] at e3
  rw [y3] at e4
  rw [y1] at e2
  rw [y4]
  refine h _ e5 e3 e4 ?_ ?_ fun c o x => Heap.get?_push_of_some _ (Heap.get?_push_of_some _ (Heap.get?_push_of_some _ (Heap.get?_push_of_some _ (Heap.get?_push_of_some _ x))))
  · cases b1 <;> exact ⟨_, e1, rfl, rfl⟩
  · cases b2 <;> exact ⟨_, e2, rfl, rfl⟩
theorem call_LT {l1 l2 : Addr} {xs ys : Array Value} {Q : Value → Shared → Prop} (a1 : s.heap.IsList l1 xs) (a2 : s.heap.IsTuple l2 ys)
    (h : ∀ h', IsZip h' (s.heap.objs.size + 4) (s.heap.objs.size + 2) (s.heap.objs.size + 3) .none → IsPair h' (s.heap.objs.size + 2) (.ref s.heap.objs.size) (.ref (s.heap.objs.size + 1)) →
      IsPair h' (s.heap.objs.size + 3) .none .none → ItAt false h' s.heap.objs.size l1 0 → ItAt true h' (s.heap.objs.size + 1) l2 0 → (∀ c o, s.heap.get? c = some o → h'.get? c = some o) → Q (.ref (s.heap.objs.size + 4)) { s with heap := h' }) :
    wpAny (model prog w) A (call (.type "zip") [.ref l1, .ref l2]) Q E s :=
  callType_new F.called_zip (by decide) (F.typeCall_zip_2 _ _) (F.newCall_zip_2 _ _) (fun obj => F.args_object_init_3 obj _ _) F.entry_zip_new (new_LT l1 l2 xs ys) ⟨⟨a1, a2⟩, ⟨_, Heap.get?_push_size _ rfl, rfl⟩, laid h⟩
theorem call_TL {l1 l2 : Addr} {xs ys : Array Value} {Q : Value → Shared → Prop} (a1 : s.heap.IsTuple l1 xs) (a2 : s.heap.IsList l2 ys)
    (h : ∀ h', IsZip h' (s.heap.objs.size + 4) (s.heap.objs.size + 2) (s.heap.objs.size + 3) .none → IsPair h' (s.heap.objs.size + 2) (.ref s.heap.objs.size) (.ref (s.heap.objs.size + 1)) →
      IsPair h' (s.heap.objs.size + 3) .none .none → ItAt true h' s.heap.objs.size l1 0 → ItAt false h' (s.heap.objs.size + 1) l2 0 → (∀ c o, s.heap.get? c = some o → h'.get? c = some o) → Q (.ref (s.heap.objs.size + 4)) { s with heap := h' }) :
    wpAny (model prog w) A (call (.type "zip") [.ref l1, .ref l2]) Q E s :=
  callType_new F.called_zip (by decide) (F.typeCall_zip_2 _ _) (F.newCall_zip_2 _ _) (fun obj => F.args_object_init_3 obj _ _) F.entry_zip_new (new_TL l1 l2 xs ys) ⟨⟨a1, a2⟩, ⟨_, Heap.get?_push_size _ rfl, rfl⟩, laid h⟩
end
end DZ

set_option maxHeartbeats 4000000
/-! Data in place of heaps: values by what they are, names by slots that hold data; a def is a function of data. -/
namespace DL
open PySem PySem.Spec PyProof.Rows L2

inductive D where
  | non | bl (b : Bool) | int (i : Int) | str (x : Str)
  | tup (xs : List D) | lst (xs : List D)
  /-- the script -/
  | scr (ns : List Int)
  | ins (C : Addr) (fs : List (Str × D))
  | dic (kvs : List (D × D))
  /-- an instance that is being made -/
  | new (C a dx : Addr) (fs : List (Str × D))
deriving Inhabited

mutual
inductive Rep (K : PySem.W.Frag) (H : Hp) : V → D → Prop
  | non : Rep K H .non .non
  | bl (b : Bool) : Rep K H (.bl b) (.bl b)
  | int (i : Int) : Rep K H (.int i) (.int i)
  | str (x : Str) : Rep K H (.str x) (.str x)
  | tup {a : Addr} {vs : List V} {ds : List D} : SqT K H a vs → Reps K H vs ds → Rep K H (.ref a) (.tup ds)
  | lst {a : Addr} {vs : List V} {ds : List D} : H a = some (.lst vs) → Reps K H vs ds → Rep K H (.ref a) (.lst ds)
  | scr {a : Addr} {ns : List Int} : SqL K H a (ns.map V.int) → Rep K H (.ref a) (.scr ns)
  | ins {a C dx : Addr} {fs : List (Str × V)} {ds : List (Str × D)} : H a = some (.ins C dx fs) → RepF K H fs ds → Rep K H (.ref a) (.ins C ds)
  | new {a C dx : Addr} {fs : List (Str × V)} {ds : List (Str × D)} : H a = some (.ins C dx fs) → RepF K H fs ds → Rep K H (.ref a) (.new C a dx ds)
inductive Reps (K : PySem.W.Frag) (H : Hp) : List V → List D → Prop
  | nil : Reps K H [] []
  | cons {v : V} {vs : List V} {d : D} {ds : List D} : Rep K H v d → Reps K H vs ds → Reps K H (v :: vs) (d :: ds)
inductive RepF (K : PySem.W.Frag) (H : Hp) : List (Str × V) → List (Str × D) → Prop
  | nil : RepF K H [] []
  | cons {x : Str} {v : V} {vs : List (Str × V)} {d : D} {ds : List (Str × D)} : Rep K H v d → RepF K H vs ds → RepF K H ((x, v) :: vs) ((x, d) :: ds)
end

theorem Same.sqT {K : PySem.W.Frag} {H H' : Hp} {a : Addr} {xs : List V} (e : Same H H') (h : SqT K H a xs) : SqT K H' a xs := by
  rcases h with (h | ⟨o, h⟩) | h
  · exact .inl (.inl (e _ _ h))
  · exact .inl (.inr ⟨o, e _ _ h⟩)
  · exact .inr h

section
variable {K : PySem.W.Frag} {H H' : Hp}
mutual
theorem Rep.same (e : Same H H') : ∀ {v : V} {d : D}, Rep K H v d → Rep K H' v d
  | _, _, .non => .non
  | _, _, .bl b => .bl b
  | _, _, .int i => .int i
  | _, _, .str x => .str x
  | _, _, .tup s r => .tup (Same.sqT e s) (Reps.same e r)
  | _, _, .lst s r => .lst (e _ _ s) (Reps.same e r)
  | _, _, .scr s => .scr (L2.Same.seq e s)
  | _, _, .ins s r => .ins (e _ _ s) (RepF.same e r)
  | _, _, .new s r => .new (e _ _ s) (RepF.same e r)
theorem Reps.same (e : Same H H') : ∀ {v : List V} {d : List D}, Reps K H v d → Reps K H' v d
  | _, _, .nil => .nil
  | _, _, .cons r s => .cons (Rep.same e r) (Reps.same e s)
theorem RepF.same (e : Same H H') : ∀ {v : List (Str × V)} {d : List (Str × D)}, RepF K H v d → RepF K H' v d
  | _, _, .nil => .nil
  | _, _, .cons r s => .cons (Rep.same e r) (RepF.same e s)
end
theorem Reps.length : ∀ {vs : List V} {ds : List D}, Reps K H vs ds → vs.length = ds.length
  | _, _, .nil => rfl
  | _, _, .cons _ r => by simp [Reps.length r]
theorem Reps.append : ∀ {vs us : List V} {ds es : List D}, Reps K H vs ds → Reps K H us es → Reps K H (vs ++ us) (ds ++ es)
  | _, _, _, _, .nil, s => s
  | _, _, _, _, .cons r t, s => .cons r (Reps.append t s)
theorem Reps.get : ∀ {vs : List V} {ds : List D} {i : Nat} {d : D}, Reps K H vs ds → ds[i]? = some d → ∃ v, vs[i]? = some v ∧ Rep K H v d
  | _, _, _, _, .nil, e => by simp at e
  | _, _, 0, _, .cons r _, e => by simp at e; subst e; exact ⟨_, rfl, r⟩
  | _, _, i + 1, d, .cons _ t, e => by
    obtain ⟨u, h1, h2⟩ := Reps.get (i := i) (d := d) t (by simpa using e)
    exact ⟨u, by simpa using h1, h2⟩
theorem Reps.getV : ∀ {vs : List V} {ds : List D} {i : Nat} {v : V}, Reps K H vs ds → vs[i]? = some v → ∃ d, ds[i]? = some d ∧ Rep K H v d
  | _, _, _, _, .nil, e => by simp at e
  | _, _, 0, _, .cons r _, e => by simp at e; subst e; exact ⟨_, rfl, r⟩
  | _, _, i + 1, v, .cons _ t, e => by
    obtain ⟨u, h1, h2⟩ := Reps.getV (i := i) (v := v) t (by simpa using e)
    exact ⟨u, by simpa using h1, h2⟩
theorem Reps.take : ∀ {vs : List V} {ds : List D} (n : Nat), Reps K H vs ds → Reps K H (vs.take n) (ds.take n)
  | _, _, 0, _ => .nil
  | _, _, _ + 1, .nil => .nil
  | _, _, n + 1, .cons r t => .cons r (Reps.take n t)
theorem Reps.drop : ∀ {vs : List V} {ds : List D} (n : Nat), Reps K H vs ds → Reps K H (vs.drop n) (ds.drop n)
  | _, _, 0, r => r
  | _, _, _ + 1, .nil => .nil
  | _, _, n + 1, .cons _ t => Reps.drop n t
theorem Reps.set {v : V} {d : D} (r : Rep K H v d) : ∀ {vs : List V} {ds : List D} (i : Nat), Reps K H vs ds → Reps K H (vs.set i v) (ds.set i d)
  | _, _, _, .nil => .nil
  | _, _, 0, .cons _ t => .cons r t
  | _, _, i + 1, .cons q t => .cons q (Reps.set r i t)
theorem Reps.rep {vs : List V} {ds : List D} (h : Reps K H vs ds) : ∀ k : Nat, Reps K H (List.replicate k vs).flatten (List.replicate k ds).flatten
  | 0 => .nil
  | k + 1 => by
    rw [List.replicate_succ, List.replicate_succ, List.flatten_cons, List.flatten_cons]
    exact h.append (Reps.rep h k)
theorem RepF.lookup {f : Str} : ∀ {fs : List (Str × V)} {ds : List (Str × D)} {d : D}, RepF K H fs ds → ds.lookup f = some d → ∃ v, fs.lookup f = some v ∧ Rep K H v d
  | _, _, _, .nil, e => by simp at e
  | _, _, d, .cons (x := x) r t, e => by
    simp only [List.lookup_cons] at e ⊢
    cases h : (f == x) with
    | true => rw [h] at e; simp at e; subst e; exact ⟨_, rfl, r⟩
    | false => rw [h] at e; simp at e; exact RepF.lookup t e
theorem RepF.none {f : Str} : ∀ {fs : List (Str × V)} {ds : List (Str × D)}, RepF K H fs ds → ds.lookup f = none → fs.lookup f = none
  | _, _, .nil, e => rfl
  | _, _, .cons (x := x) r t, e => by
    simp only [List.lookup_cons] at e ⊢
    cases h : (f == x) with
    | true => rw [h] at e; simp at e
    | false => rw [h] at e; exact RepF.none t e
end

/-! ### hidden places -/
open Classical in
noncomputable def hide (O : Addr → Prop) (H : Hp) : Hp := fun a => if O a then none else H a
section
variable {O O' : Addr → Prop} {H H' : Hp} {a : Addr} {o : HO}
theorem hide_some : hide O H a = some o ↔ (¬ O a ∧ H a = some o) := by
  unfold hide
  by_cases h : O a <;> simp [h]
theorem hide_same (e : Same H H') : Same (hide O H) (hide O H') := fun b o h => by
  rw [hide_some] at h ⊢
  exact ⟨h.1, e _ _ h.2⟩
theorem hide_sub (h : ∀ a, O' a → O a) : Same (hide O H) (hide O' H) := fun b o q => by
  rw [hide_some] at q ⊢
  exact ⟨fun z => q.1 (h _ z), q.2⟩
theorem hide_le : Same (hide O H) H := fun b o q => (hide_some.mp q).2
theorem hide_upd (ha : O a) : Same (hide O H) (hide O (upd H a o)) := fun b u q => by
  rw [hide_some] at q ⊢
  refine ⟨q.1, ?_⟩
  rw [upd_ne (fun e => q.1 (by rw [e]; exact ha))]
  exact q.2
theorem same_upd (h : H a = none) : Same H (upd H a o) := fun b x e => by
  rw [upd_ne (ne_of_none e h)]
  exact e
end

/-! ### names: what each slot holds -/
/-- none: nothing known; (false, d): the data d; (true, d): d, at an object that this name alone holds -/
abbrev Slot := Option (Bool × D)
abbrev DEnv := List Slot
inductive TopR (K : PySem.W.Frag) (Hh H : Hp) (a : Addr) : D → Prop
  | lst {vs : List V} {ds : List D} : H a = some (.lst vs) → Reps K Hh vs ds → TopR K Hh H a (.lst ds)
  | new {C dx : Addr} {fs : List (Str × V)} {ds : List (Str × D)} : H a = some (.ins C dx fs) → RepF K Hh fs ds → TopR K Hh H a (.new C a dx ds)
theorem TopR.same {K : PySem.W.Frag} {Hh Hh' H H' : Hp} {a : Addr} {d : D} (t : TopR K Hh H a d) (e : Same Hh Hh') (f : H' a = H a) : TopR K Hh' H' a d := by
  cases t with
  | lst h r => exact .lst (f.trans h) (r.same e)
  | new h r => exact .new (f.trans h) (r.same e)
theorem TopR.some {K : PySem.W.Frag} {Hh H : Hp} {a : Addr} {d : D} (t : TopR K Hh H a d) : ∃ o, H a = some o := by
  cases t with
  | lst h r => exact ⟨_, h⟩
  | new h r => exact ⟨_, h⟩
theorem TopR.rep {K : PySem.W.Frag} {Hh H Hk : Hp} {a : Addr} {d : D} (t : TopR K Hh H a d) (e : Same Hh Hk) (f : ∀ o, H a = .some o → Hk a = .some o) : Rep K Hk (.ref a) d := by
  cases t with
  | lst h r => exact .lst (f _ h) (r.same e)
  | new h r => exact .new (f _ h) (r.same e)
def hid (O0 : Addr → Prop) (ow : Nat → Option Addr) : Addr → Prop := fun a => O0 a ∨ ∃ j, ow j = some a
def SlotR (K : PySem.W.Frag) (Hh H : Hp) (o : Option V) (w : Option Addr) : Slot → Prop
  | none => True
  | some (false, d) => ∃ v, o = some v ∧ Rep K Hh v d
  | some (true, d) => ∃ a, w = some a ∧ o = some (.ref a) ∧ TopR K Hh H a d
structure Sl (K : PySem.W.Frag) (O0 : Addr → Prop) (H : Hp) (σ : L2.St) (ρ : DEnv) (ow : Nat → Option Addr) : Prop where
  len : σ.length = ρ.length
  inj : ∀ i j a, ow i = some a → ow j = some a → i = j
  out : ∀ i a, ow i = some a → ¬ O0 a
  trk : ∀ a, hid O0 ow a → ∃ o, H a = some o
  sl : ∀ (i : Nat) (s : Slot), ρ[i]? = some s → ∃ o, σ[i]? = some o ∧ SlotR K (hide (hid O0 ow) H) H o (ow i) s
section
variable {K : PySem.W.Frag} {O0 : Addr → Prop} {H H' : Hp} {σ : L2.St} {ρ : DEnv} {ow : Nat → Option Addr}
theorem Sl.same (S : Sl K O0 H σ ρ ow) (e : Same H H') : Sl K O0 H' σ ρ ow := by
  refine ⟨S.len, S.inj, S.out, fun a h => ?_, fun i s h => ?_⟩
  · obtain ⟨o, q⟩ := S.trk a h
    exact ⟨o, e _ _ q⟩
  · obtain ⟨o, h1, h2⟩ := S.sl i s h
    refine ⟨o, h1, ?_⟩
    match s, h2 with
    | none, _ => trivial
    | some (false, d), ⟨v, e1, r⟩ => exact ⟨v, e1, r.same (hide_same e)⟩
    | some (true, d), ⟨a, e1, e2, t⟩ =>
      obtain ⟨u, q⟩ := t.some
      exact ⟨a, e1, e2, t.same (hide_same e) (by rw [q, e _ _ q])⟩
end

/-! ### expressions -/
abbrev DE1 := DEnv → Option D
/-- kept values -/
def tDE (K : PySem.W.Frag) (f : DE1) : TE := fun σ H Q => ∃ O0 ow ρ, Sl K O0 H σ ρ ow ∧ ∃ d, f ρ = some d ∧ ∀ v H', Same H H' → Rep K (hide (hid O0 ow) H') v d → Q v H'
/-- values that are looked at, not kept -/
def BV (K : PySem.W.Frag) (Hh H : Hp) (v : V) (d : D) : Prop := Rep K Hh v d ∨ ∃ a, v = .ref a ∧ TopR K Hh H a d
def tDB (K : PySem.W.Frag) (f : DE1) : TE := fun σ H Q => ∃ O0 ow ρ, Sl K O0 H σ ρ ow ∧ ∃ d, f ρ = some d ∧ ∀ v H', Same H H' → BV K (hide (hid O0 ow) H') H' v d → Q v H'
/-- new objects -/
def tDF (K : PySem.W.Frag) (f : DE1) : TE := fun σ H Q => ∃ O0 ow ρ, Sl K O0 H σ ρ ow ∧ ∃ d, f ρ = some d ∧ ∀ a H', Same H H' → H a = none → TopR K (hide (fun b => hid O0 ow b ∨ b = a) H') H' a d → Q (.ref a) H'
def tDA (K : PySem.W.Frag) (f : DEnv → Option (List D)) : TA := fun σ H Q => ∃ O0 ow ρ, Sl K O0 H σ ρ ow ∧ ∃ ds, f ρ = some ds ∧ ∀ vs H', Same H H' → Reps K (hide (hid O0 ow) H') vs ds → Q vs H'
inductive BVs (K : PySem.W.Frag) (Hh H : Hp) : List V → List D → Prop
  | nil : BVs K Hh H [] []
  | cons {v vs d ds} : BV K Hh H v d → BVs K Hh H vs ds → BVs K Hh H (v :: vs) (d :: ds)
def tDAB (K : PySem.W.Frag) (f : DEnv → Option (List D)) : TA := fun σ H Q => ∃ O0 ow ρ, Sl K O0 H σ ρ ow ∧ ∃ ds, f ρ = some ds ∧ ∀ vs H', Same H H' → BVs K (hide (hid O0 ow) H') H' vs ds → Q vs H'
def DE (X : Cx) (e : Expr) (f : DE1) : Prop := PE X e (tDE X.K f)
def DB (X : Cx) (e : Expr) (f : DE1) : Prop := PE X e (tDB X.K f)
def DF (X : Cx) (e : Expr) (f : DE1) : Prop := PE X e (tDF X.K f)
def DA (X : Cx) (e : List Expr) (f : DEnv → Option (List D)) : Prop := PA X e (tDA X.K f)
def DAB (X : Cx) (e : List Expr) (f : DEnv → Option (List D)) : Prop := PA X e (tDAB X.K f)
/-- a test -/
def tDT (K : PySem.W.Frag) (f : DE1) : TT := fun σ H Q => ∃ O0 ow ρ, Sl K O0 H σ ρ ow ∧ ∃ b, f ρ = some (.bl b) ∧ ∀ H', Same H H' → Q b H'
def DT (X : Cx) (e : Expr) (f : DE1) : Prop := PT X e (tDT X.K f)

section
variable {X : Cx} {e a b c : Expr} {es : List Expr} {f g fa fb fc : DE1} {pos : Pos}
theorem PE.imp {t t' : TE} (h : PE X e t) (k : ∀ σ H Q, t' σ H Q → t σ H Q) : PE X e t' := ⟨fun pins s σ H Q I q => h.run pins s σ H Q I (k _ _ _ q)⟩
theorem PT.imp {t t' : TT} (h : PT X e t) (k : ∀ σ H Q, t' σ H Q → t σ H Q) : PT X e t' := ⟨fun pins s σ H Q I q => h.run pins s σ H Q I (k _ _ _ q)⟩
theorem PA.imp {t t' : TA} (h : PA X es t) (k : ∀ σ H Q, t' σ H Q → t σ H Q) : PA X es t' := ⟨fun pos pins s σ H Q I q => h.run pos pins s σ H Q I (k _ _ _ q)⟩
theorem BV.same {K : PySem.W.Frag} {Hh Hh' H H' : Hp} {v : V} {d : D} (h : BV K Hh H v d) (e1 : Same Hh Hh') (e2 : Same H H') : BV K Hh' H' v d := by
  rcases h with h | ⟨a, r, t⟩
  · exact .inl (h.same e1)
  · obtain ⟨o, q⟩ := t.some
    exact .inr ⟨a, r, t.same e1 (by rw [q, e2 _ _ q])⟩
theorem BVs.of {K : PySem.W.Frag} {Hh H : Hp} : ∀ {vs : List V} {ds : List D}, Reps K Hh vs ds → BVs K Hh H vs ds
  | _, _, .nil => .nil
  | _, _, .cons r t => .cons (.inl r) (BVs.of t)
theorem db_of (h : DE X e f) : DB X e f := PE.imp h fun σ H Q ⟨O0, ow, ρ, S, d, e, k⟩ => ⟨O0, ow, ρ, S, d, e, fun v H' s r => k v H' s (.inl r)⟩
theorem de_of (h : DF X e f) : DE X e f := PE.imp h fun σ H Q ⟨O0, ow, ρ, S, d, e, k⟩ => ⟨O0, ow, ρ, S, d, e, fun a H' s n t => k (.ref a) H' s (t.rep (hide_sub fun b z => .inl z) fun o q => hide_some.mpr ⟨fun z => (let ⟨u, w⟩ := S.trk a z; by rw [n] at w; cases w), q⟩)⟩
theorem dab_of (h : DA X es f') : DAB X es f' := PA.imp h fun σ H Q ⟨O0, ow, ρ, S, d, e, k⟩ => ⟨O0, ow, ρ, S, d, e, fun v H' s r => k v H' s (.of r)⟩

def eC (d : D) : DE1 := fun _ => some d
theorem de_int {i j pos} : DE X (.Constant (.int i) j pos) (eC (.int i)) := PE.imp pe_int fun σ H Q ⟨O0, ow, ρ, S, d, e, k⟩ => by
  cases e; exact k _ _ (.refl _) (.int i)
theorem de_bl {i j pos} : DE X (.Constant (.bool i) j pos) (eC (.bl i)) := PE.imp pe_bl fun σ H Q ⟨O0, ow, ρ, S, d, e, k⟩ => by
  cases e; exact k _ _ (.refl _) (.bl i)
theorem de_non {j pos} : DE X (.Constant .none j pos) (eC .non) := PE.imp pe_non fun σ H Q ⟨O0, ow, ρ, S, d, e, k⟩ => by
  cases e; exact k _ _ (.refl _) .non
theorem de_str {i j pos} : DE X (.Constant (.str i) j pos) (eC (.str i)) := PE.imp pe_str fun σ H Q ⟨O0, ow, ρ, S, d, e, k⟩ => by
  cases e; exact k _ _ (.refl _) (.str i)
def eV (i : Nat) : DE1 := fun ρ => match ρ[i]? with
  | some (some (false, d)) => some d
  | _ => none
def eVB (i : Nat) : DE1 := fun ρ => match ρ[i]? with
  | some (some (_, d)) => some d
  | _ => none
theorem de_var (i : Nat) {x : Str} {pos : Pos} (h : PE X (.Name x pos) (tVar i)) : DE X (.Name x pos) (eV i) := PE.imp h fun σ H Q ⟨O0, ow, ρ, S, d, e, k⟩ => by
  unfold eV at e
  split at e
  · rename_i d' h'
    cases e
    obtain ⟨o, h1, v, rfl, r⟩ := S.sl i _ h'
    exact ⟨v, h1, k v H (.refl _) r⟩
  · cases e
theorem db_var (i : Nat) {x : Str} {pos : Pos} (h : PE X (.Name x pos) (tVar i)) : DB X (.Name x pos) (eVB i) := PE.imp h fun σ H Q ⟨O0, ow, ρ, S, d, e, k⟩ => by
  unfold eVB at e
  split at e
  · rename_i fl d' h'
    cases e
    obtain ⟨o, h1, h2⟩ := S.sl i _ h'
    cases fl with
    | false =>
      obtain ⟨v, rfl, r⟩ := h2
      exact ⟨v, h1, k v H (.refl _) (.inl r)⟩
    | true =>
      obtain ⟨a, e1, rfl, t⟩ := h2
      exact ⟨.ref a, h1, k _ H (.refl _) (.inr ⟨a, rfl, t⟩)⟩
  · cases e
/-- a constant of the module -/
theorem de_glob {x : Str} {v : V} {d : D} {pos : Pos} (h : PE X (.Name x pos) (tC v)) (r : ∀ H, Rep X.K H v d) : DE X (.Name x pos) (eC d) := PE.imp h fun σ H Q ⟨O0, ow, ρ, S, d, e, k⟩ => by
  cases e; exact k _ _ (.refl _) (r _)
/-- two things, then an operation on them -/
def OpD (X : Cx) (f : Value → Value → Sem Value) (g : D → D → Option D) : Prop := ∃ r : R2, OpR X f r ∧ ∀ (O : Addr → Prop) (H : Hp) (x y : V) (p q d : D) (Q : VK), BV X.K (hide O H) H x p → BV X.K (hide O H) H y q → g p q = some d →
  (∀ v H', Same H H' → Rep X.K (hide O H') v d → Q v H') → (∀ a, O a → ∃ o, H a = some o) → r x y H Q
def e2 (g : D → D → Option D) (fa fb : DE1) : DE1 := fun ρ => (fa ρ).bind fun x => (fb ρ).bind fun y => g x y
theorem e2_some {g : D → D → Option D} {ρ : DEnv} {d : D} (h : e2 g fa fb ρ = some d) : ∃ x y, fa ρ = some x ∧ fb ρ = some y ∧ g x y = some d := by
  unfold e2 at h
  cases ea : fa ρ with
  | none => rw [ea] at h; cases h
  | some x =>
    cases eb : fb ρ with
    | none => rw [ea, eb] at h; cases h
    | some y => rw [ea, eb] at h; exact ⟨x, y, rfl, rfl, h⟩
theorem tOp_D {f : Value → Value → Sem Value} {g : D → D → Option D} {r : R2} (hr : ∀ (O : Addr → Prop) (H : Hp) (x y : V) (p q d : D) (Q : VK), BV X.K (hide O H) H x p → BV X.K (hide O H) H y q → g p q = some d →
  (∀ v H', Same H H' → Rep X.K (hide O H') v d → Q v H') → (∀ a, O a → ∃ o, H a = some o) → r x y H Q) : ∀ σ H Q, tDE X.K (e2 g fa fb) σ H Q → tOp r (tDB X.K fa) (tDB X.K fb) σ H Q := fun σ H Q ⟨O0, ow, ρ, S, d, e, k⟩ => by
  obtain ⟨p, q, ea, eb, eg⟩ := e2_some e
  refine ⟨O0, ow, ρ, S, p, ea, fun x H1 s1 r1 => ?_⟩
  refine ⟨O0, ow, ρ, S.same s1, q, eb, fun y H2 s2 r2 => ?_⟩
  exact hr _ H2 x y p q d Q (r1.same (hide_same s2) s2) r2 eg (fun v H' s r => k v H' ((s1.trans s2).trans s) r) ((S.same s1).same s2).trk
theorem de_op {op : Operator} {g : D → D → Option D} (ho : OpD X (binaryOp op) g) (ha : DB X a fa) (hb : DB X b fb) : DE X (.BinOp a op b pos) (e2 g fa fb) := by
  obtain ⟨r, o, h⟩ := ho
  exact PE.imp (pe_op o ha hb) (tOp_D (f := binaryOp op) h)
theorem de_cmp {op : CmpOp} {g : D → D → Option D} (ho : OpD X (compareOp op) g) (ha : DB X a fa) (hb : DB X b fb) (hm : behindInMarks op b = false) : DE X (.Compare a [op] [b] pos) (e2 g fa fb) := by
  obtain ⟨r, o, h⟩ := ho
  exact PE.imp (pe_cmpR o ha hb hm) (tOp_D (f := compareOp op) h)
theorem dt_cmp {op : CmpOp} {g : D → D → Option D} (ho : OpD X (compareOp op) g) (ha : DB X a fa) (hb : DB X b fb) (hm : behindInMarks op b = false) : DT X (.Compare a [op] [b] pos) (e2 g fa fb) := by
  obtain ⟨r, o, h⟩ := ho
  refine PT.imp (pt_cmpR o ha hb hm) fun σ H Q ⟨O0, ow, ρ, S, b, e, k⟩ => ?_
  exact tOp_D (f := compareOp op) h σ H _ ⟨O0, ow, ρ, S, _, e, fun v H' s r => by cases r; exact ⟨b, rfl, k H' s⟩⟩
/-- an expression that gives a truth value, as a test -/
theorem dt_val (h : DE X e f) (he : ∀ whole, isTrue e X.env whole = (do let v ← whole; standAt e.pos; holding [v] (truthy v)) := by intro _; rfl) : DT X e f := PT.imp (pt_val h he) fun σ H Q ⟨O0, ow, ρ, S, b, e, k⟩ =>
  ⟨O0, ow, ρ, S, _, e, fun v H' s r => by cases r; exact ⟨b, rfl, k H' s⟩⟩
end
end DL

set_option maxHeartbeats 4000000
namespace DL
open PySem PySem.Spec PyProof.Rows L2

section
variable {K : PySem.W.Frag} {O0 : Addr → Prop} {H H' : Hp} {σ : L2.St} {ρ : DEnv} {ow : Nat → Option Addr} {i : Nat} {a : Addr} {v : V} {d : D}
theorem getset {α : Type} {l : List α} {i j : Nat} {x y : α} (h : (l.set i x)[j]? = some y) : (j = i ∧ y = x) ∨ (j ≠ i ∧ l[j]? = some y) := by
  by_cases e : j = i
  · subst e
    by_cases hl : j < l.length
    · rw [List.getElem?_set_self hl] at h; exact .inl ⟨rfl, (Option.some.inj h).symm⟩
    · rw [List.getElem?_eq_none (by simp; omega)] at h; cases h
  · rw [List.getElem?_set_ne (Ne.symm e)] at h; exact .inr ⟨e, h⟩
theorem setget {α : Type} {l : List α} {i : Nat} {x y : α} (h : l[i]? = some y) : (l.set i x)[i]? = some x := List.getElem?_set_self (List.getElem?_eq_some_iff.mp h).1
theorem inlen {α β : Type} {l : List α} {m : List β} {i : Nat} {y : α} (e : l.length = m.length) (h : l[i]? = some y) : ∃ x, m[i]? = some x := by
  have := (List.getElem?_eq_some_iff.mp h).1
  exact ⟨m[i]'(by omega), List.getElem?_eq_getElem (by omega)⟩
theorem Sl.set (S : Sl K O0 H σ ρ ow) (r : Rep K (hide (hid O0 ow) H) v d) : Sl K O0 H (σ.set i (some v)) (ρ.set i (some (false, d))) ow := by
  refine ⟨by simp [S.len], S.inj, S.out, S.trk, fun j s h => ?_⟩
  rcases getset h with ⟨rfl, rfl⟩ | ⟨ne, h⟩
  · have hl := (List.getElem?_eq_some_iff.mp h).1
    simp only [List.length_set, ← S.len] at hl
    exact ⟨_, List.getElem?_set_self hl, v, rfl, r⟩
  · obtain ⟨o, h1, h2⟩ := S.sl j s h
    exact ⟨o, by rw [List.getElem?_set_ne (Ne.symm ne)]; exact h1, h2⟩
theorem Sl.forget (S : Sl K O0 H σ ρ ow) : Sl K O0 H (σ.set i none) (ρ.set i none) ow := by
  refine ⟨by simp [S.len], S.inj, S.out, S.trk, fun j s h => ?_⟩
  rcases getset h with ⟨rfl, rfl⟩ | ⟨ne, h⟩
  · have hl := (List.getElem?_eq_some_iff.mp h).1
    simp only [List.length_set, ← S.len] at hl
    exact ⟨_, List.getElem?_set_self hl, trivial⟩
  · obtain ⟨o, h1, h2⟩ := S.sl j s h
    exact ⟨o, by rw [List.getElem?_set_ne (Ne.symm ne)]; exact h1, h2⟩
def owSet (ow : Nat → Option Addr) (i : Nat) (w : Option Addr) : Nat → Option Addr := fun j => if j = i then w else ow j
theorem Sl.setF (S : Sl K O0 H σ ρ ow) (e : Same H H') (n : H a = none) (t : TopR K (hide (fun b => hid O0 ow b ∨ b = a) H') H' a d) :
    Sl K O0 H' (σ.set i (some (.ref a))) (ρ.set i (some (true, d))) (owSet ow i (some a)) := by
  have nh : ¬ hid O0 ow a := fun z => by
    obtain ⟨u, w⟩ := S.trk a z
    rw [n] at w; cases w
  have sub : ∀ b, hid O0 (owSet ow i (some a)) b → hid O0 ow b ∨ b = a := fun b z => by
    rcases z with z | ⟨j, z⟩
    · exact .inl (.inl z)
    · unfold owSet at z
      split at z
      · exact .inr (Option.some.inj z).symm
      · exact .inl (.inr ⟨j, z⟩)
  have sm : Same (hide (hid O0 ow) H) (hide (hid O0 (owSet ow i (some a))) H') := fun b o q => by
    rw [hide_some] at q ⊢
    refine ⟨fun z => ?_, e _ _ q.2⟩
    rcases sub b z with z | z
    · exact q.1 z
    · subst z; rw [n] at q; cases q.2
  obtain ⟨u, hu⟩ := t.some
  refine ⟨by simp [S.len], fun j k b h1 h2 => ?_, fun j b h => ?_, fun b z => ?_, fun j s h => ?_⟩
  · unfold owSet at h1 h2
    split at h1 <;> split at h2
    · omega
    · cases h1; exact absurd (.inr ⟨k, h2⟩) nh
    · cases h2; exact absurd (.inr ⟨j, h1⟩) nh
    · exact S.inj j k b h1 h2
  · unfold owSet at h
    split at h
    · cases h; exact fun z => nh (.inl z)
    · exact S.out j b h
  · rcases sub b z with z | z
    · obtain ⟨o, q⟩ := S.trk b z
      exact ⟨o, e _ _ q⟩
    · subst z; exact ⟨u, hu⟩
  · rcases getset h with ⟨rfl, rfl⟩ | ⟨ne, h⟩
    · have hl := (List.getElem?_eq_some_iff.mp h).1
      simp only [List.length_set, ← S.len] at hl
      refine ⟨_, List.getElem?_set_self hl, a, by simp [owSet], rfl, t.same (hide_sub fun b z => sub b z) rfl⟩
    · obtain ⟨o, h1, h2⟩ := S.sl j s h
      refine ⟨o, by rw [List.getElem?_set_ne (Ne.symm ne)]; exact h1, ?_⟩
      have eo : owSet ow i (some a) j = ow j := by simp [owSet, ne]
      rw [eo]
      match s, h2 with
      | none, _ => trivial
      | some (false, d), ⟨v, e1, r⟩ => exact ⟨v, e1, r.same sm⟩
      | some (true, d), ⟨b, e1, e2, t'⟩ =>
        obtain ⟨u', q⟩ := t'.some
        exact ⟨b, e1, e2, t'.same sm (by rw [q, e _ _ q])⟩
/-- an object that one name alone holds is changed -/
theorem Sl.wr {o : HO} {d' : D} (S : Sl K O0 H σ ρ ow) (hi : ρ[i]? = some (some (true, d))) (ha : ow i = some a)
    (t : ∀ Hh, Same (hide (hid O0 ow) H) Hh → TopR K Hh (upd H a o) a d') : Sl K O0 (upd H a o) σ (ρ.set i (some (true, d'))) ow := by
  have hh : hid O0 ow a := .inr ⟨i, ha⟩
  refine ⟨by simp [S.len], S.inj, S.out, fun b z => ?_, fun j s h => ?_⟩
  · by_cases hb : b = a
    · subst hb; exact ⟨o, upd_same⟩
    · rw [upd_ne hb]; exact S.trk b z
  · rcases getset h with ⟨rfl, rfl⟩ | ⟨ne, h⟩
    · obtain ⟨x, h1, b, e1, e2, _⟩ := S.sl j _ hi
      rw [ha] at e1; cases e1
      exact ⟨x, h1, a, ha, e2, t _ (hide_upd hh)⟩
    · obtain ⟨x, h1, h2⟩ := S.sl j s h
      refine ⟨x, h1, ?_⟩
      match s, h2 with
      | none, _ => trivial
      | some (false, d), ⟨v, e1, r⟩ => exact ⟨v, e1, r.same (hide_upd hh)⟩
      | some (true, d), ⟨b, e1, e2, t'⟩ =>
        refine ⟨b, e1, e2, t'.same (hide_upd hh) ?_⟩
        rw [upd_ne]
        intro z; subst z; exact ne (S.inj _ _ _ e1 ha)
def frz (i : Nat) (ρ : DEnv) : DEnv := match ρ[i]? with
  | some (some (true, d)) => ρ.set i (some (false, d))
  | _ => ρ
theorem Sl.frz (S : Sl K O0 H σ ρ ow) : ∃ ow', Sl K O0 H σ (frz i ρ) ow' ∧ ∀ j b, ow' j = some b → ow j = some b := by
  unfold DL.frz
  split
  · rename_i d hi
    obtain ⟨x, h1, a, ha, e2, t⟩ := S.sl i _ hi
    have sub : ∀ b, hid O0 (owSet ow i none) b → hid O0 ow b := fun b z => by
      rcases z with z | ⟨j, z⟩
      · exact .inl z
      · unfold owSet at z
        split at z
        · cases z
        · exact .inr ⟨j, z⟩
    have ho : ∀ j b, owSet ow i none j = some b → ow j = some b ∧ j ≠ i := fun j b z => by
      unfold owSet at z
      split at z
      · cases z
      · rename_i q; exact ⟨z, q⟩
    have na : ¬ hid O0 (owSet ow i none) a := fun z => by
      rcases z with z | ⟨j, z⟩
      · exact S.out i a ha z
      · obtain ⟨z, q⟩ := ho j a z
        exact q (S.inj _ _ _ z ha)
    refine ⟨owSet ow i none, ⟨by simp [S.len], fun j k b h1 h2 => S.inj j k b (ho _ _ h1).1 (ho _ _ h2).1, fun j b h => S.out j b (ho _ _ h).1, fun b z => S.trk b (sub b z), fun j s h => ?_⟩, fun j b h => (ho j b h).1⟩
    rcases getset h with ⟨rfl, rfl⟩ | ⟨ne, h⟩
    · exact ⟨x, h1, _, e2, t.rep (hide_sub sub) fun o q => hide_some.mpr ⟨na, q⟩⟩
    · obtain ⟨o, h1, h2⟩ := S.sl j s h
      refine ⟨o, h1, ?_⟩
      have eo : owSet ow i none j = ow j := by simp [owSet, ne]
      rw [eo]
      match s, h2 with
      | none, _ => trivial
      | some (false, d), ⟨v, e1, r⟩ => exact ⟨v, e1, r.same (hide_sub sub)⟩
      | some (true, d), ⟨b, e1, e2, t'⟩ => exact ⟨b, e1, e2, t'.same (hide_sub sub) rfl⟩
  · exact ⟨ow, S, fun _ _ h => h⟩
end

/-! ### statements -/
inductive Fl where
  | nx (ρ : DEnv) | rt (d : D) | bk (ρ : DEnv) | ct (ρ : DEnv) | stuck
abbrev DS1 := DEnv → Fl
def Stt (K : PySem.W.Frag) (H0 : Hp) (O0 : Addr → Prop) (σ : L2.St) (H : Hp) (ρ : DEnv) : Prop := Same H0 H ∧ ∃ ow, Sl K O0 H σ ρ ow ∧ ∀ i a, ow i = some a → H0 a = none
def Post (K : PySem.W.Frag) (H0 : Hp) (O0 : Addr → Prop) (N : Ends) : Fl → Prop
  | .nx ρ => ∀ σ H, Stt K H0 O0 σ H ρ → N.nx σ H
  | .bk ρ => ∀ σ H, Stt K H0 O0 σ H ρ → N.bk σ H
  | .ct ρ => ∀ σ H, Stt K H0 O0 σ H ρ → N.ct σ H
  | .rt d => ∀ v H, Same H0 H → Rep K (hide O0 H) v d → N.rt v H
  | .stuck => False
def tDS (K : PySem.W.Frag) (g : DS1) : TS := fun N σ H => ∃ H0 O0 ρ, Stt K H0 O0 σ H ρ ∧ Post K H0 O0 N (g ρ)
def DS (X : Cx) (st : Stmt) (g : DS1) : Prop := PS X st (tDS X.K g)
def DSs (X : Cx) (st : List Stmt) (g : DS1) : Prop := PSs X st (tDS X.K g)
theorem PS.imp {X : Cx} {st : Stmt} {t t' : TS} (h : PS X st t) (k : ∀ N σ H, t' N σ H → t N σ H) : PS X st t' := ⟨fun pins s σ H N I q => h.run pins s σ H N I (k _ _ _ q)⟩
theorem PSs.imp {X : Cx} {st : List Stmt} {t t' : TS} (h : PSs X st t) (k : ∀ N σ H, t' N σ H → t N σ H) : PSs X st t' := ⟨fun pins s σ H N I q => h.run pins s σ H N I (k _ _ _ q)⟩
theorem Stt.same {K : PySem.W.Frag} {H0 H H' : Hp} {O0 : Addr → Prop} {σ : L2.St} {ρ : DEnv} (S : Stt K H0 O0 σ H ρ) (e : Same H H') : Stt K H0 O0 σ H' ρ := by
  obtain ⟨s, ow, S, h⟩ := S
  exact ⟨s.trans e, ow, S.same e, h⟩

section
variable {X : Cx} {st : Stmt} {rest : List Stmt} {g g' : DS1} {e c : Expr} {f fc : DE1} {pos : Pos}
def gNx : DS1 := fun ρ => .nx ρ
def gStuck : DS1 := fun _ => .stuck
def gSeq (g g' : DS1) : DS1 := fun ρ => match g ρ with
  | .nx ρ1 => g' ρ1
  | x => x
theorem dss_nil : DSs X [] gNx := PSs.imp pss_nil fun N σ H ⟨H0, O0, ρ, S, p⟩ => p σ H S
theorem dss_cons (h1 : DS X st g) (h2 : DSs X rest g') : DSs X (st :: rest) (gSeq g g') := PSs.imp (pss_cons h1 h2) fun N σ H ⟨H0, O0, ρ, S, p⟩ => by
  refine ⟨H0, O0, ρ, S, ?_⟩
  unfold gSeq at p
  cases e : g ρ with
  | nx ρ1 => rw [e] at p; exact fun σ' H' S' => ⟨H0, O0, ρ1, S', p⟩
  | rt d => rw [e] at p; exact p
  | bk ρ => rw [e] at p; exact p
  | ct ρ => rw [e] at p; exact p
  | stuck => rw [e] at p; exact p
theorem dss_one (h1 : DS X st g) : DSs X [st] g := pss_one h1
theorem ds_frz (i : Nat) (h : DS X st g) : DS X st (fun ρ => g (frz i ρ)) := PS.imp h fun N σ H ⟨H0, O0, ρ, S, p⟩ => by
  obtain ⟨s, ow, S, h⟩ := S
  obtain ⟨ow', S', k⟩ := S.frz (i := i)
  exact ⟨H0, O0, frz i ρ, ⟨s, ow', S', fun j a q => h j a (k j a q)⟩, p⟩
theorem ds_stuck : DS X st gStuck := PS.imp ps_never fun N σ H ⟨H0, O0, ρ, S, p⟩ => p
theorem dss_stuck {sts : List Stmt} : DSs X sts gStuck := PSs.imp pss_never fun N σ H ⟨H0, O0, ρ, S, p⟩ => p
theorem ds_pass : DS X (.Pass pos) gNx := PS.imp ps_pass fun N σ H ⟨H0, O0, ρ, S, p⟩ => p σ H S
theorem ds_brk : DS X (.Break pos) (fun ρ => .bk ρ) := PS.imp ps_break fun N σ H ⟨H0, O0, ρ, S, p⟩ => p σ H S
theorem ds_cnt : DS X (.Continue pos) (fun ρ => .ct ρ) := PS.imp ps_continue fun N σ H ⟨H0, O0, ρ, S, p⟩ => p σ H S
def gRet (f : DE1) : DS1 := fun ρ => match f ρ with
  | some d => .rt d
  | none => .stuck
theorem ret_post {K : PySem.W.Frag} {t : TE} (ht : ∀ σ H Q, tDE K f σ H Q → t σ H Q) : ∀ N σ H, tDS K (gRet f) N σ H → tRet t N σ H := fun N σ H ⟨H0, O0, ρ, ⟨s, ow, S, h⟩, p⟩ => by
  unfold gRet at p
  cases e : f ρ with
  | none => rw [e] at p; exact p.elim
  | some d =>
    rw [e] at p
    exact ht _ _ _ ⟨O0, ow, ρ, S, d, e, fun v H' s' r => p v H' (s.trans s') (r.same (hide_sub fun b z => .inl z))⟩
theorem ds_ret (he : DE X e f) : DS X (.Return (some e) pos) (gRet f) := PS.imp (ps_ret he) (ret_post fun _ _ _ q => q)
theorem ds_retN : DS X (.Return none pos) (gRet (eC .non)) := PS.imp ps_retN fun N σ H ⟨H0, O0, ρ, ⟨s, ow, S, h⟩, p⟩ => p .non H s .non
def gIf (c : DE1) (g g' : DS1) : DS1 := fun ρ => match c ρ with
  | some (.bl true) => g ρ
  | some (.bl false) => g' ρ
  | _ => .stuck
theorem ds_if {A B : List Stmt} (hc : DT X c fc) (ha : DSs X A g) (hb : DSs X B g') : DS X (.If c A B pos) (gIf fc g g') := PS.imp (ps_if hc ha hb) fun N σ H ⟨H0, O0, ρ, S, p⟩ => by
  obtain ⟨s, ow, S1, h⟩ := id S
  unfold gIf at p
  split at p
  · rename_i e
    exact ⟨O0, ow, ρ, S1, true, e, fun H' s' => iteT ⟨H0, O0, ρ, S.same s', p⟩⟩
  · rename_i e
    exact ⟨O0, ow, ρ, S1, false, e, fun H' s' => iteF ⟨H0, O0, ρ, S.same s', p⟩⟩
  · exact p.elim
def gSet (i : Nat) (f : DE1) : DS1 := fun ρ => match f ρ with
  | some d => .nx (ρ.set i (some (false, d)))
  | none => .stuck
def gSetF (i : Nat) (f : DE1) : DS1 := fun ρ => match f ρ with
  | some d => .nx (ρ.set i (some (true, d)))
  | none => .stuck
theorem set_post {K : PySem.W.Frag} {i : Nat} : ∀ N σ H, tDS K (gSet i f) N σ H → tAsg (tDE K f) (gName i) N σ H := fun N σ H ⟨H0, O0, ρ, ⟨s, ow, S, h⟩, p⟩ => by
  unfold gSet at p
  cases e : f ρ with
  | none => rw [e] at p; exact p.elim
  | some d =>
    rw [e] at p
    exact ⟨O0, ow, ρ, S, d, e, fun v H' s' r => p _ H' ⟨s.trans s', ow, (S.same s').set r, h⟩⟩
theorem setF_post {K : PySem.W.Frag} {i : Nat} : ∀ N σ H, tDS K (gSetF i f) N σ H → tAsg (tDF K f) (gName i) N σ H := fun N σ H ⟨H0, O0, ρ, ⟨s, ow, S, h⟩, p⟩ => by
  unfold gSetF at p
  cases e : f ρ with
  | none => rw [e] at p; exact p.elim
  | some d =>
    rw [e] at p
    refine ⟨O0, ow, ρ, S, d, e, fun a H' s' n t => p _ H' ⟨s.trans s', _, S.setF s' n t, fun j b q => ?_⟩⟩
    unfold owSet at q
    split at q
    · cases q; exact Same.free s n
    · exact h j b q
theorem ds_set (i : Nat) {x : Str} {pos' : Pos} (hN : X.N.Nodup) (he : DE X e f) (hi : X.N[i]? = some x := by rfl) (hx : Loc X.env.scope x := by first | exact .inl rfl | exact .inr rfl)
    (hs : swapsWith e (some (.Name x pos')) pos.line X.env = pure false := by rfl) (hf : X.fn x = true ∨ X.env.scope.names.lookup x = some .local := by first | exact .inl rfl | exact .inr rfl | assumption) :
    DS X (.Assign [.Name x pos'] e pos) (gSet i f) := PS.imp (ps_set hN hi hx he hs hf) set_post
theorem ds_setF (i : Nat) {x : Str} {pos' : Pos} (hN : X.N.Nodup) (he : DF X e f) (hi : X.N[i]? = some x := by rfl) (hx : Loc X.env.scope x := by first | exact .inl rfl | exact .inr rfl)
    (hs : swapsWith e (some (.Name x pos')) pos.line X.env = pure false := by rfl) (hf : X.fn x = true ∨ X.env.scope.names.lookup x = some .local := by first | exact .inl rfl | exact .inr rfl | assumption) :
    DS X (.Assign [.Name x pos'] e pos) (gSetF i f) := PS.imp (ps_set hN hi hx he hs hf) setF_post

/-! ### targets -/
def tDG (K : PySem.W.Frag) (is : List Nat) (b : D → DEnv → Option DEnv) : TG := fun v σ H Q => ∃ O0 ow ρ d, Sl K O0 H σ ρ ow ∧ Rep K (hide (hid O0 ow) H) v d ∧ ∃ ρ', b d ρ = some ρ' ∧
  ∀ σ', Sl K O0 H σ' ρ' ow → (∀ vs, (∀ i ∈ is, i ∈ vs) → wipe σ' vs = wipe σ vs) → Q σ' H
def tDGs (K : PySem.W.Frag) (is : List Nat) (b : List D → DEnv → Option DEnv) : TGs := fun v σ H Q => ∃ O0 ow ρ d, Sl K O0 H σ ρ ow ∧ Reps K (hide (hid O0 ow) H) v d ∧ ∃ ρ', b d ρ = some ρ' ∧
  ∀ σ', Sl K O0 H σ' ρ' ow → (∀ vs, (∀ i ∈ is, i ∈ vs) → wipe σ' vs = wipe σ vs) → Q σ' H
def DG (X : Cx) (tg : Expr) (is : List Nat) (b : D → DEnv → Option DEnv) : Prop := PG X tg (tDG X.K is b)
def DGs (X : Cx) (tg : List Expr) (is : List Nat) (b : List D → DEnv → Option DEnv) : Prop := PGs X tg (tDGs X.K is b)
theorem PG.imp {tg : Expr} {t t' : TG} (h : PG X tg t) (k : ∀ v σ H Q, t' v σ H Q → t v σ H Q) : PG X tg t' := ⟨fun pins s σ H v u Q I r q => h.run pins s σ H v u Q I r (k _ _ _ _ q)⟩
theorem PGs.imp {tg : List Expr} {t t' : TGs} (h : PGs X tg t) (k : ∀ v σ H Q, t' v σ H Q → t v σ H Q) : PGs X tg t' := ⟨fun pins s σ H v u Q I r q => h.run pins s σ H v u Q I r (k _ _ _ _ q)⟩
theorem wipe_set {σ : L2.St} {i : Nat} {o : Option V} : ∀ {vs : List Nat}, i ∈ vs → wipe (σ.set i o) vs = wipe σ vs
  | v :: vs, h => by
    unfold wipe
    by_cases hv : i ∈ vs
    · rw [wipe_set hv]
    · have e : i = v := by simpa [hv] using h
      subst e
      have comm : ∀ (ws : List Nat), (wipe (σ.set i o) ws).set i none = (wipe σ ws).set i none := by
        intro ws
        induction ws with
        | nil => show (σ.set i o).set i none = σ.set i none; rw [List.set_set]
        | cons w ws ih =>
          show ((wipe (σ.set i o) ws).set w none).set i none = ((wipe σ ws).set w none).set i none
          by_cases hw : w = i
          · subst hw; rw [List.set_set, List.set_set]; exact ih
          · rw [List.set_comm _ _ hw, ih, List.set_comm _ _ hw]
      exact comm vs
def bN (i : Nat) : D → DEnv → Option DEnv := fun d ρ => some (ρ.set i (some (false, d)))
def bT (b : List D → DEnv → Option DEnv) : D → DEnv → Option DEnv := fun d ρ => match d with
  | .tup ds => b ds ρ
  | _ => none
def bNil : List D → DEnv → Option DEnv := fun ds ρ => match ds with
  | [] => some ρ
  | _ => none
def bCons (b : D → DEnv → Option DEnv) (bs : List D → DEnv → Option DEnv) : List D → DEnv → Option DEnv := fun ds ρ => match ds with
  | d :: ds => (b d ρ).bind (bs ds)
  | _ => none
theorem dg_name (i : Nat) {x : Str} {pos : Pos} (hN : X.N.Nodup) (hi : X.N[i]? = some x := by rfl) (hx : Loc X.env.scope x := by first | exact .inl rfl | exact .inr rfl) (hf : X.fn x = true ∨ X.env.scope.names.lookup x = some .local := by first | exact .inl rfl | exact .inr rfl | assumption) :
    DG X (.Name x pos) [i] (bN i) := PG.imp (pg_name hN hi hx hf) fun v σ H Q ⟨O0, ow, ρ, d, S, r, ρ', e, k⟩ => by
  cases e
  exact k _ (S.set r) fun vs h => wipe_set (h i (by simp))
theorem dgs_nil : DGs X [] [] bNil := PGs.imp pgs_nil fun v σ H Q ⟨O0, ow, ρ, d, S, r, ρ', e, k⟩ => by
  cases r with
  | nil => cases e; exact ⟨rfl, k _ S fun _ _ => rfl⟩
  | cons _ _ => cases e
theorem dgs_cons {e : Expr} {es : List Expr} {is js : List Nat} {b : D → DEnv → Option DEnv} {bs : List D → DEnv → Option DEnv} (h1 : DG X e is b) (h2 : DGs X es js bs)
    (hs : (assignEach (e :: es) X.env).map (·.2) = assign e X.env :: (assignEach es X.env).map (·.2) := by rfl) : DGs X (e :: es) (is ++ js) (bCons b bs) := PGs.imp (pgs_cons h1 h2 hs) fun v σ H Q ⟨O0, ow, ρ, d, S, r, ρ', e, k⟩ => by
  cases r with
  | nil => cases e
  | @cons v1 vs1 d1 ds1 r rr =>
    have e : (b d1 ρ).bind (bs ds1) = some ρ' := e
    cases eb : b d1 ρ with
    | none => rw [eb] at e; cases e
    | some ρ1 =>
      rw [eb] at e
      exact ⟨_, _, rfl, O0, ow, ρ, d1, S, r, ρ1, eb, fun σ1 S1 w1 => ⟨O0, ow, ρ1, ds1, S1, rr, ρ', e, fun σ2 S2 w2 => k σ2 S2 fun us hu => (w2 us fun i hi => hu i (List.mem_append_right _ hi)).trans (w1 us fun i hi => hu i (List.mem_append_left _ hi))⟩⟩
theorem dg_tup {es : List Expr} {k : Nat} {is : List Nat} {b : List D → DEnv → Option DEnv} (n : Nat) (hc : X.calm = true) (h : DGs X es is b) (hb : ∀ ds ρ ρ', b ds ρ = some ρ' → ds.length = n)
    (hn : (assignEach es X.env).length = n := by rfl) (hst : (assignEach es X.env).findIdx? (·.1) = none := by rfl) : DG X (.Tuple es k pos) is (bT b) := PG.imp (pg_tup hc h hn hst) fun v σ H Q ⟨O0, ow, ρ, d, S, r, ρ', e, q⟩ => by
  unfold bT at e
  cases r with
  | tup s rs => exact ⟨_, _, rfl, Same.sqT hide_le s, (rs.length).trans (hb _ _ _ e), O0, ow, ρ, _, S, rs, ρ', e, q⟩
  | _ => cases e
theorem bNil_len : ∀ ds ρ ρ', bNil ds ρ = some ρ' → ds.length = 0 := fun ds ρ ρ' h => by
  cases ds with
  | nil => rfl
  | cons _ _ => cases h
theorem bCons_len {b : D → DEnv → Option DEnv} {bs : List D → DEnv → Option DEnv} {n : Nat} (h : ∀ ds ρ ρ', bs ds ρ = some ρ' → ds.length = n) : ∀ ds ρ ρ', bCons b bs ds ρ = some ρ' → ds.length = n + 1 := fun ds ρ ρ' e => by
  cases ds with
  | nil => cases e
  | cons d ds =>
    have e : (b d ρ).bind (bs ds) = some ρ' := e
    cases eb : b d ρ with
    | none => rw [eb] at e; cases e
    | some ρ1 => rw [eb] at e; simp [h _ _ _ e]
def gAsg (f : DE1) (b : D → DEnv → Option DEnv) : DS1 := fun ρ => match (f ρ).bind fun d => b d ρ with
  | some ρ' => .nx ρ'
  | none => .stuck
theorem ds_asg {tg : Expr} {is : List Nat} {b : D → DEnv → Option DEnv} (he : DE X e f) (hg : DG X tg is b) (hs : swapsWithSole [tg] e pos.line X.env = pure false := by rfl) (hw : swappedStores [tg] e X.env = pure none := by rfl)
    (h1 : (assignEach [tg] X.env).map (·.2) = [assign tg X.env] := by rfl) : DS X (.Assign [tg] e pos) (gAsg f b) := PS.imp (ps_asg he hg hs hw h1) fun N σ H ⟨H0, O0, ρ, ⟨s, ow, S, h⟩, p⟩ => by
  unfold gAsg at p
  cases e : f ρ with
  | none => rw [e] at p; exact p.elim
  | some d =>
    rw [e] at p
    cases eb : b d ρ with
    | none => simp [eb] at p; exact p.elim
    | some ρ' =>
      simp only [Option.bind_some, eb] at p
      exact ⟨O0, ow, ρ, S, d, e, fun v H' s' r => ⟨O0, ow, ρ, d, S.same s', r, ρ', eb, fun σ' S' _ => p σ' H' ⟨s.trans s', ow, S', h⟩⟩⟩
end
end DL

set_option maxHeartbeats 4000000
namespace DL
open PySem PySem.Spec PyProof.Rows L2

/-! ### what is walked -/
structure Walks (K : PySem.W.Frag) (O : Addr → Prop) (J : It) (H1 : Hp) (ds : List D) : Prop where
  stop : ∀ H, Same (hide O H1) H → J.stop ds.length H
  go : ∀ i d H, Same (hide O H1) H → ds[i]? = some d → J.go i H
  yld : ∀ i d H x H', Same (hide O H1) H → ds[i]? = some d → J.yld i H x H' → Same H H' ∧ ∀ O' : Addr → Prop, (∀ b, O' b → O b ∨ H1 b = none) → (∀ b, O' b → ∃ o, H b = some o) → Rep K (hide O' H') x d
def tDI (K : PySem.W.Frag) (f : DEnv → Option (List D)) : TI := fun σ H R => ∃ O0 ow ρ, Sl K O0 H σ ρ ow ∧ ∃ ds, f ρ = some ds ∧ ∀ J H1, Same H H1 → Walks K (hid O0 ow) J H1 ds → R J H1
def DI (X : Cx) (tg iter : Expr) (f : DEnv → Option (List D)) : Prop := PI X tg iter (tDI X.K f)
theorem PI.imp {X : Cx} {tg e : Expr} {t t' : TI} (h : PI X tg e t) (k : ∀ σ H Q, t' σ H Q → t σ H Q) : PI X tg e t' := ⟨fun pins s σ H Q I q => h.run pins s σ H Q I (k _ _ _ q)⟩
theorem keepO {O O' : Addr → Prop} {H1 H : Hp} (e : Same (hide O H1) H) (h : ∀ b, O' b → O b ∨ H1 b = none) : Same (hide O H1) (hide O' H) := fun b o q => by
  refine hide_some.mpr ⟨fun z => ?_, e b o q⟩
  rw [hide_some] at q
  rcases h b z with z | z
  · exact q.1 z
  · rw [z] at q; cases q.2
section
variable {X : Cx} {tg e e' : Expr} {f f' : DE1} {p pos tpos : Pos}
def iL (f : DE1) : DEnv → Option (List D) := fun ρ => match f ρ with
  | some (.lst ds) => some ds
  | _ => none
def iT (f : DE1) : DEnv → Option (List D) := fun ρ => match f ρ with
  | some (.tup ds) => some ds
  | _ => none
theorem di_list (h : DE X e f) : DI X tg e (iL f) := PI.imp (pi_list h) fun σ H R ⟨O0, ow, ρ, S, ds, q, k⟩ => by
  unfold iL at q
  split at q
  · rename_i ds' ef
    cases q
    refine ⟨O0, ow, ρ, S, _, ef, fun v H1 s r => ?_⟩
    cases r with
    | lst sq rs =>
      rename_i a vs
      have ln := rs.length
      refine ⟨a, rfl, ⟨vs, SqL.of (hide_le _ _ sq)⟩, k _ H1 s ⟨fun H2 e2 => ⟨vs, SqL.of (e2 _ _ sq), by omega⟩, fun i d H2 e2 hd => ?_, fun i d H2 x H3 e2 hd y => ?_⟩⟩
      · obtain ⟨v, hv, _⟩ := rs.get hd
        exact ⟨vs, v, SqL.of (e2 _ _ sq), hv⟩
      · obtain ⟨v, hv, r⟩ := rs.get hd
        obtain ⟨rfl, y⟩ := y
        have := y vs (SqL.of (e2 _ _ sq))
        rw [hv] at this; cases this
        exact ⟨.refl _, fun O' h1 h2 => r.same (keepO e2 h1)⟩
  · cases q
theorem di_tup (h : DE X e f) : DI X tg e (iT f) := PI.imp (pi_tup h) fun σ H R ⟨O0, ow, ρ, S, ds, q, k⟩ => by
  unfold iT at q
  split at q
  · rename_i ds' ef
    cases q
    refine ⟨O0, ow, ρ, S, _, ef, fun v H1 s r => ?_⟩
    cases r with
    | tup sq rs =>
      rename_i a vs
      have ln := rs.length
      refine ⟨a, rfl, ⟨vs, DL.Same.sqT hide_le sq⟩, k _ H1 s ⟨fun H2 e2 => ⟨vs, DL.Same.sqT e2 sq, by omega⟩, fun i d H2 e2 hd => ?_, fun i d H2 x H3 e2 hd y => ?_⟩⟩
      · obtain ⟨v, hv, _⟩ := rs.get hd
        exact ⟨vs, v, DL.Same.sqT e2 sq, hv⟩
      · obtain ⟨v, hv, r⟩ := rs.get hd
        obtain ⟨rfl, y⟩ := y
        have := y vs (DL.Same.sqT e2 sq)
        rw [hv] at this; cases this
        exact ⟨.refl _, fun O' h1 h2 => r.same (keepO e2 h1)⟩
  · cases q
def rngD (a b : Int) : List D := (List.range (b - a).toNat).map fun i => D.int (a + (i : Nat))
theorem rngD_length (a b : Int) : (rngD a b).length = (b - a).toNat := by simp [rngD]
theorem rngD_get {a b : Int} {i : Nat} {d : D} (h : (rngD a b)[i]? = some d) : d = .int (a + i) ∧ i < (b - a).toNat := by
  unfold rngD at h
  rw [List.getElem?_map] at h
  by_cases hi : i < (b - a).toNat
  · rw [List.getElem?_eq_getElem (by simpa using hi)] at h
    simp at h
    exact ⟨h.symm, hi⟩
  · rw [List.getElem?_eq_none (by simp; omega)] at h; cases h
def rngOk (a b : Int) : Bool := decide (-1000000 ≤ a ∧ a ≤ 1000000 ∧ -1000000 ≤ b ∧ b ≤ 1000000)
def iR1 (f : DE1) : DEnv → Option (List D) := fun ρ => match f ρ with
  | some (.int j) => if rngOk 0 j then some (rngD 0 j) else none
  | _ => none
def iR2 (f g : DE1) : DEnv → Option (List D) := fun ρ => match f ρ, g ρ with
  | some (.int i), some (.int j) => if rngOk i j then some (rngD i j) else none
  | _, _ => none
theorem walks_rng {K : PySem.W.Frag} {O : Addr → Prop} {H1 : Hp} {a b : Int} {n : Nat} (hn : n = (b - a).toNat) : Walks K O (Itr a n) H1 (rngD a b) := by
  subst hn
  refine ⟨fun H2 _ => by rw [rngD_length]; exact Nat.le_refl _, fun i d H2 _ hd => (rngD_get hd).2, fun i d H2 x H3 _ hd y => ?_⟩
  obtain ⟨rfl, rfl⟩ := y
  rw [(rngD_get hd).1]
  exact ⟨.refl _, fun _ _ _ => .int _⟩
theorem di_range1 (hg : Gl X "range") (hm : X.mg "range" = none) (h : DE X e f) (hs : starEach [e] X.env = [(false, eval e X.env)] := by rfl) : DI X tg (.Call (.Name "range" p) [e] [] pos) (iR1 f) :=
  PI.imp (pi_range1 hg hm (pa_cons h pa_nil (hs := hs)) hs) fun σ H R ⟨O0, ow, ρ, S, ds, q, k⟩ => by
  unfold iR1 at q
  split at q
  · rename_i j ef
    split at q
    · rename_i hr
      cases q
      have hb := of_decide_eq_true hr
      refine ⟨O0, ow, ρ, S, _, ef, fun v H1 s r => ?_⟩
      cases r
      exact ⟨j, rfl, by omega, by omega, k _ H1 s (walks_rng (by omega))⟩
    · cases q
  · cases q
theorem di_range2 (hg : Gl X "range") (hm : X.mg "range" = none) (h : DE X e f) (h' : DE X e' f') (hs : starEach [e, e'] X.env = [(false, eval e X.env), (false, eval e' X.env)] := by rfl) (hs2 : starEach [e'] X.env = [(false, eval e' X.env)] := by rfl) :
    DI X tg (.Call (.Name "range" p) [e, e'] [] pos) (iR2 f f') :=
  PI.imp (pi_range2 hg hm (pa_cons h (pa_cons h' pa_nil hs2) (by rw [hs, hs2])) hs hs2) fun σ H R ⟨O0, ow, ρ, S, ds, q, k⟩ => by
  unfold iR2 at q
  split at q
  · rename_i i j ef ef'
    split at q
    · rename_i hr
      cases q
      have hb := of_decide_eq_true hr
      refine ⟨O0, ow, ρ, S, _, ef, fun v H1 s r => ?_⟩
      cases r
      refine ⟨O0, ow, ρ, S.same s, _, ef', fun v H2 s2 r => ?_⟩
      cases r
      exact ⟨i, j, rfl, by omega, k _ H2 (s.trans s2) (walks_rng rfl)⟩
    · cases q
  · cases q
def zipD : List D → List D → List D
  | x :: xs, y :: ys => .tup [x, y] :: zipD xs ys
  | _, _ => []
theorem zipD_length : ∀ xs ys : List D, (zipD xs ys).length = min xs.length ys.length
  | [], _ => by simp [zipD]
  | _ :: _, [] => by simp [zipD]
  | x :: xs, y :: ys => by simp [zipD, zipD_length xs ys]
theorem zipD_get : ∀ {xs ys : List D} {i : Nat} {d : D}, (zipD xs ys)[i]? = some d → ∃ x y, xs[i]? = some x ∧ ys[i]? = some y ∧ d = .tup [x, y]
  | [], ys, i, d, h => by simp [zipD] at h
  | _ :: _, [], i, d, h => by simp [zipD] at h
  | x :: xs, y :: ys, 0, d, h => by simp [zipD] at h; exact ⟨x, y, rfl, rfl, h.symm⟩
  | x :: xs, y :: ys, i + 1, d, h => by
    obtain ⟨a, b, h1, h2, h3⟩ := zipD_get (xs := xs) (ys := ys) (i := i) (by simpa [zipD] using h)
    exact ⟨a, b, by simpa using h1, by simpa using h2, h3⟩
def iZ (f g : DE1) : DEnv → Option (List D) := fun ρ => match f ρ, g ρ with
  | some (.lst xs), some (.lst ys) => some (zipD xs ys)
  | some (.tup xs), some (.tup ys) => some (zipD xs ys)
  | _, _ => none
/-- a new pair of two that stand -/
theorem pair_rep {K : PySem.W.Frag} {O O' : Addr → Prop} {H1 H2 : Hp} {T : Addr} {x y : V} {p q : D} (e2 : Same (hide O H1) H2) (nT : H2 T = none) (h1 : ∀ b, O' b → O b ∨ H1 b = none) (h2 : ∀ b, O' b → ∃ o, H2 b = some o)
    (rx : Rep K (hide O H1) x p) (ry : Rep K (hide O H1) y q) : Rep K (hide O' (upd H2 T (.tup [x, y]))) (.ref T) (.tup [p, q]) := by
  have sm : Same (hide O H1) (hide O' (upd H2 T (.tup [x, y]))) := keepO (e2.trans (same_upd nT)) h1
  have nO : ¬ O' T := fun z => by
    obtain ⟨o, w⟩ := h2 T z
    rw [nT] at w; cases w
  exact .tup (SqT.of (hide_some.mpr ⟨nO, upd_same⟩)) (.cons (rx.same sm) (.cons (ry.same sm) .nil))
theorem di_zip {elts : List Expr} {kk : Nat} (hg : Gl X "zip") (hm : X.mg "zip" = none) (h : DE X e f) (h' : DE X e' f') (hs : starEach [e, e'] X.env = (false, eval e X.env) :: starEach [e'] X.env := by rfl) (hpl : (backTo pos (starEach [e'] X.env)).any (·.1) = false := by rfl) (hs2 : starEach [e'] X.env = (false, eval e' X.env) :: starEach [] X.env := by rfl) :
    DI X (.Tuple elts kk tpos) (.Call (.Name "zip" p) [e, e'] [] pos) (iZ f f') :=
  PI.imp (RZ.pi_zipA hg hm (pa_cons h (pa_cons h' pa_nil hs2) hs) hs hpl) fun σ H R ⟨O0, ow, ρ, S, ds, q, k⟩ => by
  unfold iZ at q
  split at q
  · rename_i xs ys ef ef'
    cases q
    refine ⟨O0, ow, ρ, S, _, ef, fun v H1 s r => ⟨O0, ow, ρ, S.same s, _, ef', fun v' H2 s2 r' => ?_⟩⟩
    replace r := r.same (hide_same s2)
    cases r with
    | lst sq rs =>
      cases r' with
      | lst sq' rs' =>
        rename_i a vs b us
        refine ⟨a, b, vs, us, rfl, .inl ⟨SqL.of (hide_le _ _ sq), SqL.of (hide_le _ _ sq'), k _ H2 (s.trans s2) ⟨fun H3 e2 => ⟨vs, us, SqL.of (e2 _ _ sq), SqL.of (e2 _ _ sq'), ?_⟩, fun i d H3 e2 hd => ?_, fun i d H3 x H4 e2 hd y => ?_⟩⟩⟩
        · have := rs.length; have := rs'.length
          rw [zipD_length]; omega
        · obtain ⟨p, q, hp, hq, rfl⟩ := zipD_get hd
          obtain ⟨v1, hv1, _⟩ := rs.get hp
          obtain ⟨v2, hv2, _⟩ := rs'.get hq
          exact ⟨vs, us, v1, v2, SqL.of (e2 _ _ sq), SqL.of (e2 _ _ sq'), hv1, hv2⟩
        · obtain ⟨p, q, hp, hq, rfl⟩ := zipD_get hd
          obtain ⟨v1, hv1, r1⟩ := rs.get hp
          obtain ⟨v2, hv2, r2⟩ := rs'.get hq
          obtain ⟨T, x1, x2, rfl, nT, rfl, f1, f2⟩ := y
          have e1 := f1 _ (SqL.of (e2 _ _ sq))
          have e3 := f2 _ (SqL.of (e2 _ _ sq'))
          rw [hv1] at e1; cases e1
          rw [hv2] at e3; cases e3
          exact ⟨same_upd nT, fun O' h1 h2 => pair_rep e2 nT h1 h2 r1 r2⟩
  · rename_i xs ys ef ef'
    cases q
    refine ⟨O0, ow, ρ, S, _, ef, fun v H1 s r => ⟨O0, ow, ρ, S.same s, _, ef', fun v' H2 s2 r' => ?_⟩⟩
    replace r := r.same (hide_same s2)
    cases r with
    | tup sq rs =>
      cases r' with
      | tup sq' rs' =>
        rename_i a vs b us
        refine ⟨a, b, vs, us, rfl, .inr ⟨DL.Same.sqT hide_le sq, DL.Same.sqT hide_le sq', k _ H2 (s.trans s2) ⟨fun H3 e2 => ⟨vs, us, DL.Same.sqT e2 sq, DL.Same.sqT e2 sq', ?_⟩, fun i d H3 e2 hd => ?_, fun i d H3 x H4 e2 hd y => ?_⟩⟩⟩
        · have := rs.length; have := rs'.length
          rw [zipD_length]; omega
        · obtain ⟨p, q, hp, hq, rfl⟩ := zipD_get hd
          obtain ⟨v1, hv1, _⟩ := rs.get hp
          obtain ⟨v2, hv2, _⟩ := rs'.get hq
          exact ⟨vs, us, v1, v2, DL.Same.sqT e2 sq, DL.Same.sqT e2 sq', hv1, hv2⟩
        · obtain ⟨p, q, hp, hq, rfl⟩ := zipD_get hd
          obtain ⟨v1, hv1, r1⟩ := rs.get hp
          obtain ⟨v2, hv2, r2⟩ := rs'.get hq
          obtain ⟨T, x1, x2, rfl, nT, rfl, f1, f2⟩ := y
          have e1 := f1 _ (DL.Same.sqT e2 sq)
          have e3 := f2 _ (DL.Same.sqT e2 sq')
          rw [hv1] at e1; cases e1
          rw [hv2] at e3; cases e3
          exact ⟨same_upd nT, fun O' h1 h2 => pair_rep e2 nT h1 h2 r1 r2⟩
  · cases q
end

/-! ### for, while -/
def forL (b : D → DEnv → Option DEnv) (g : DS1) : List D → DEnv → Fl
  | [], ρ => .nx ρ
  | d :: ds, ρ => match b d ρ with
    | none => .stuck
    | some ρ1 => match g ρ1 with
      | .nx ρ2 => forL b g ds ρ2
      | .ct ρ2 => forL b g ds ρ2
      | .bk ρ2 => .nx ρ2
      | x => x
def gFor (it : DEnv → Option (List D)) (b : D → DEnv → Option DEnv) (g : DS1) : DS1 := fun ρ => match it ρ with
  | some ds => forL b g ds ρ
  | none => .stuck
def whL (c : DE1) (g : DS1) : Nat → DEnv → Fl
  | 0, _ => .stuck
  | n + 1, ρ => match c ρ with
    | some (.bl true) => match g ρ with
      | .nx ρ2 => whL c g n ρ2
      | .ct ρ2 => whL c g n ρ2
      | .bk ρ2 => .nx ρ2
      | x => x
    | some (.bl false) => .nx ρ
    | _ => .stuck
def gWh (fu : DEnv → Nat) (c : DE1) (g : DS1) : DS1 := fun ρ => whL c g (fu ρ) ρ
section
variable {X : Cx} {tg iter c : Expr} {body : List Stmt} {it : DEnv → Option (List D)} {b : D → DEnv → Option DEnv} {g : DS1} {fc : DE1} {is : List Nat} {pos : Pos}
theorem Stt.up {K : PySem.W.Frag} {H0 H1 H : Hp} {O0 : Addr → Prop} {σ : L2.St} {ρ : DEnv} (S : Stt K H1 O0 σ H ρ) (e : Same H0 H1) : Stt K H0 O0 σ H ρ := by
  obtain ⟨s, ow, S, h⟩ := S
  exact ⟨e.trans s, ow, S, fun i a q => Same.free e (h i a q)⟩
theorem ds_for (hp : PassesOwn (model X.prog X.w) X.A X.env X.xe) (hc : X.calm = true) (hi : DI X tg iter it) (hg : DG X tg is b) (hb : DSs X body g)
    (hs : ∀ x, foldedSetIterable iter X.env x = pure x := by intro _; rfl) : DS X (.For tg iter body [] pos) (gFor it b g) := PS.imp (ps_for hp hc hi hg hb hs) fun N σ H ⟨H0, O0, ρ, S, p⟩ => by
  unfold gFor at p
  cases ei : it ρ with
  | none => rw [ei] at p; exact p.elim
  | some ds =>
    rw [ei] at p
    obtain ⟨s, ow, S1, h⟩ := S
    refine ⟨O0, ow, ρ, S1, ds, ei, fun J H1 s1 Wk => ?_⟩
    have hH : Same H0 (hide (fun b => ∃ j, ow j = some b) H1) := fun b o q => hide_some.mpr ⟨fun ⟨j, z⟩ => (by rw [h j b z] at q; cases q), s1 _ _ (s _ _ q)⟩
    refine ⟨fun i m σ H => m = ds.length - i ∧ i ≤ ds.length ∧ ∃ ρ, Stt X.K (hide (fun b => ∃ j, ow j = some b) H1) O0 σ H ρ ∧ Post X.K H0 O0 N (forL b g (ds.drop i) ρ), ⟨ds.length, by simp, Nat.zero_le _, ρ, ⟨hide_le, ow, S1.same s1, fun i a q => ?_⟩, p⟩, ?_⟩
    · cases e : hide (fun b => ∃ j, ow j = some b) H1 a with
      | none => rfl
      | some o => exact absurd ⟨i, q⟩ (hide_some.mp e).1
    · rintro i m σ' H' ⟨rfl, hi', ρ', S', p'⟩
      have hsm : Same (hide (hid O0 ow) H1) H' := fun b o q => S'.1 b o (by
        rw [hide_some] at q ⊢
        exact ⟨fun z => q.1 (.inr z), q.2⟩)
      by_cases hlt : i < ds.length
      · obtain ⟨d, hd⟩ : ∃ d, ds[i]? = some d := ⟨_, List.getElem?_eq_getElem hlt⟩
        have hdr : ds.drop i = d :: ds.drop (i + 1) := by
          rw [List.getElem?_eq_getElem hlt] at hd; cases hd
          exact List.drop_eq_getElem_cons hlt
        rw [hdr] at p'
        unfold forL at p'
        refine .inr ⟨Wk.go i d H' hsm hd, fun σ2 H2 => ∃ ρ2, Stt X.K (hide (fun b => ∃ j, ow j = some b) H1) O0 σ2 H2 ρ2 ∧ Post X.K H0 O0 N (forL b g (ds.drop (i + 1)) ρ2), fun σ2 H2 ⟨ρ2, h1, h2⟩ => ⟨_, by omega, rfl, hlt, ρ2, h1, h2⟩, fun x H2 y => ?_⟩
        obtain ⟨s3, rp⟩ := Wk.yld i d H' x H2 hsm hd y
        have S2 := S'.same s3
        obtain ⟨sa, ow2, S3, h3⟩ := id S'
        have r := rp (hid O0 ow2) (fun b z => by
          rcases z with z | ⟨j, z⟩
          · exact .inl (.inl z)
          · have := h3 j b z
            cases e : H1 b with
            | none => exact .inr rfl
            | some o =>
              refine .inl (.inr ?_)
              apply Classical.byContradiction
              intro nj
              rw [hide_some.mpr ⟨nj, e⟩] at this
              cases this) S3.trk
        cases eb : b d ρ' with
        | none => rw [eb] at p'; exact p'.elim
        | some ρ1 =>
          rw [eb] at p'
          dsimp only at p'
          refine ⟨O0, ow2, ρ', d, S3.same s3, r, ρ1, eb, fun σ3 S4 _ => ⟨_, O0, ρ1, ⟨sa.trans s3, ow2, S4, h3⟩, ?_⟩⟩
          cases eg : g ρ1 with
          | nx ρ2 => rw [eg] at p'; exact fun σ4 H4 S5 => ⟨ρ2, S5, p'⟩
          | ct ρ2 => rw [eg] at p'; exact fun σ4 H4 S5 => ⟨ρ2, S5, p'⟩
          | bk ρ2 => rw [eg] at p'; exact fun σ4 H4 S5 => p' σ4 H4 (S5.up hH)
          | rt d => rw [eg] at p'; exact fun v H4 s4 r4 => p' v H4 (hH.trans s4) r4
          | stuck => rw [eg] at p'; exact p'.elim
      · have e : i = ds.length := by omega
        subst e
        rw [List.drop_length] at p'
        exact .inl ⟨Wk.stop H' hsm, p' σ' H' (S'.up hH)⟩
theorem ds_while (fu : DEnv → Nat) (hp : PassesOwn (model X.prog X.w) X.A X.env X.xe) (hc : DT X c fc) (hb : DSs X body g) : DS X (.While c body [] pos) (gWh fu fc g) := PS.imp (ps_while hp hc hb) fun N σ H ⟨H0, O0, ρ, S, p⟩ => by
  refine ⟨fun m σ H => ∃ ρ, Stt X.K H0 O0 σ H ρ ∧ Post X.K H0 O0 N (whL fc g m ρ), ⟨fu ρ, ρ, S, p⟩, ?_⟩
  rintro m σ1 H1 ⟨ρ1, S1, p1⟩
  cases m with
  | zero => exact p1.elim
  | succ m =>
    unfold whL at p1
    obtain ⟨s, ow, S2, h⟩ := id S1
    split at p1
    · rename_i ec
      refine ⟨O0, ow, ρ1, S2, true, ec, fun H2 s2 => iteT ⟨fun σ' H' => ∃ ρ', Stt X.K H0 O0 σ' H' ρ' ∧ Post X.K H0 O0 N (whL fc g m ρ'), fun σ' H' h' => ⟨m, by omega, h'⟩, H0, O0, ρ1, S1.same s2, ?_⟩⟩
      cases eg : g ρ1 with
      | nx ρ2 => rw [eg] at p1; exact fun σ4 H4 S5 => ⟨ρ2, S5, p1⟩
      | ct ρ2 => rw [eg] at p1; exact fun σ4 H4 S5 => ⟨ρ2, S5, p1⟩
      | bk ρ2 => rw [eg] at p1; exact p1
      | rt d => rw [eg] at p1; exact p1
      | stuck => rw [eg] at p1; exact p1.elim
    · rename_i ec
      exact ⟨O0, ow, ρ1, S2, false, ec, fun H2 s2 => iteF (p1 σ1 H2 (S1.same s2))⟩
    · exact p1.elim
end

/-! ### comprehensions -/
def wipeD (ρ : DEnv) : List Nat → DEnv
  | [] => ρ
  | v :: vs => (wipeD ρ vs).set v none
def compL (b : D → DEnv → Option DEnv) (t f : DE1) (ρ : DEnv) : List D → Option (List D)
  | [] => some []
  | d :: ds => match b d ρ with
    | none => none
    | some ρ1 => match t ρ1 with
      | some (.bl true) => match f ρ1 with
        | some x => (compL b t f ρ ds).map (x :: ·)
        | none => none
      | some (.bl false) => compL b t f ρ ds
      | _ => none
def eLc (it : DEnv → Option (List D)) (vs : List Nat) (b : D → DEnv → Option DEnv) (t f : DE1) : DE1 := fun ρ => match it ρ with
  | some ds => if ds.length ≤ 1000 then (compL b t f (wipeD ρ vs) ds).map D.lst else none
  | none => none
def DTs (X : Cx) (ifs : List Expr) (f : DE1) : Prop := PTs X ifs (tDT X.K f)
section
variable {X : Cx} {tg iter elt : Expr} {it : DEnv → Option (List D)} {b : D → DEnv → Option DEnv} {t f : DE1} {is : List Nat} {pos : Pos}
theorem dts_nil : DTs X [] (eC (.bl true)) := ⟨fun pins s σ H Q I h => pts_nil.run pins s σ H Q I (by
  obtain ⟨O0, ow, ρ, S, d, e, k⟩ := h
  cases e
  exact k H (.refl _))⟩
theorem dts_one {c : Expr} (h : DT X c t) : DTs X [c] t := pts_one h
theorem Sl.wipe {K : PySem.W.Frag} {O0 : Addr → Prop} {H : Hp} {σ : L2.St} {ρ : DEnv} {ow : Nat → Option Addr} (S : Sl K O0 H σ ρ ow) : ∀ vs : List Nat, Sl K O0 H (L2.wipe σ vs) (wipeD ρ vs) ow
  | [] => S
  | v :: vs => (Sl.wipe S vs).forget
theorem wipe_wipe {σ : L2.St} {vs : List Nat} : ∀ {us : List Nat}, (∀ i ∈ us, i ∈ vs) → L2.wipe (L2.wipe σ us) vs = L2.wipe σ vs
  | [], _ => rfl
  | u :: us, h => by
    show L2.wipe ((L2.wipe σ us).set u none) vs = L2.wipe σ vs
    rw [wipe_set (h u List.mem_cons_self)]
    exact wipe_wipe fun i hi => h i (List.mem_cons_of_mem _ hi)
/-- one more place is hidden, a new one -/
theorem Sl.more {K : PySem.W.Frag} {O0 : Addr → Prop} {H H' : Hp} {σ : L2.St} {ρ : DEnv} {ow : Nat → Option Addr} {a : Addr} (S : Sl K O0 H σ ρ ow) (e : Same H H') (n : H a = none) (h : ∃ o, H' a = some o) : Sl K (fun b => O0 b ∨ b = a) H' σ ρ ow := by
  have na : ∀ j, ow j ≠ some a := fun j z => by
    obtain ⟨o, w⟩ := S.trk a (.inr ⟨j, z⟩)
    rw [n] at w; cases w
  have sm : Same (hide (hid O0 ow) H) (hide (hid (fun b => O0 b ∨ b = a) ow) H') := fun b o q => by
    rw [hide_some] at q ⊢
    refine ⟨fun z => ?_, e _ _ q.2⟩
    rcases z with (z | z) | z
    · exact q.1 (.inl z)
    · subst z; rw [n] at q; cases q.2
    · exact q.1 (.inr z)
  refine ⟨S.len, S.inj, fun i b hb z => ?_, fun b z => ?_, fun i s hi => ?_⟩
  · rcases z with z | z
    · exact S.out i b hb z
    · subst z; exact na i hb
  · rcases z with (z | z) | z
    · obtain ⟨o, q⟩ := S.trk b (.inl z)
      exact ⟨o, e _ _ q⟩
    · subst z; exact h
    · obtain ⟨o, q⟩ := S.trk b (.inr z)
      exact ⟨o, e _ _ q⟩
  · obtain ⟨o, h1, h2⟩ := S.sl i s hi
    refine ⟨o, h1, ?_⟩
    match s, h2 with
    | none, _ => trivial
    | some (false, d), ⟨v, e1, r⟩ => exact ⟨v, e1, r.same sm⟩
    | some (true, d), ⟨b, e1, e2, t⟩ =>
      obtain ⟨u, q⟩ := t.some
      exact ⟨b, e1, e2, t.same sm (by rw [q, e _ _ q])⟩
theorem tLc_D {K : PySem.W.Frag} {vs : List Nat} (his : ∀ i ∈ is, i ∈ vs) : ∀ σ H Q, tDF K (eLc it vs b t f) σ H Q → tLc (tDI K it) (tDG K is b) (tDT K t) (tDE K f) vs σ H Q := fun σ H Q ⟨O0, ow, ρ, S, d, e, k⟩ => by
  unfold eLc at e
  cases ei : it ρ with
  | none => rw [ei] at e; cases e
  | some ds =>
    rw [ei] at e
    simp only at e
    split at e
    · rename_i hlen
      cases ec : compL b t f (wipeD ρ vs) ds with
      | none => rw [ec] at e; cases e
      | some out =>
        rw [ec] at e
        cases e
        refine ⟨O0, ow, ρ, S, ds, ei, fun J H1 s1 Wk Dd nD => ?_⟩
        have SW := (S.same s1).wipe vs
        refine ⟨fun i m H => m = ds.length - i ∧ i ≤ ds.length ∧ Same H1 H ∧ ∃ accV accD, H Dd = some (.lst accV) ∧ accV.length ≤ i ∧ Reps K (hide (hid (fun b => O0 b ∨ b = Dd) ow) H) accV accD ∧
          ∃ r, compL b t f (wipeD ρ vs) (ds.drop i) = some r ∧ accD ++ r = out, ⟨ds.length, by simp, Nat.zero_le _, same_upd nD, [], [], upd_same, Nat.zero_le _, .nil, out, ec, rfl⟩, ?_⟩
        rintro i m H2 ⟨rfl, hi, sm, accV, accD, hD, hl, ra, r, er, eo⟩
        have hsm : Same (hide (hid O0 ow) H1) H2 := Same.trans hide_le sm
        by_cases hlt : i < ds.length
        · obtain ⟨d, hd⟩ : ∃ d, ds[i]? = some d := ⟨_, List.getElem?_eq_getElem hlt⟩
          have hdr : ds.drop i = d :: ds.drop (i + 1) := by
            rw [List.getElem?_eq_getElem hlt] at hd; cases hd
            exact List.drop_eq_getElem_cons hlt
          rw [hdr] at er
          unfold compL at er
          cases eb : b d (wipeD ρ vs) with
          | none => rw [eb] at er; cases er
          | some ρ1 =>
            rw [eb] at er
            refine .inr ⟨Wk.go i d H2 hsm hd, fun H' => i + 1 ≤ ds.length ∧ Same H1 H' ∧ ∃ accV accD, H' Dd = some (.lst accV) ∧ accV.length ≤ i + 1 ∧ Reps K (hide (hid (fun b => O0 b ∨ b = Dd) ow) H') accV accD ∧
              ∃ r, compL b t f (wipeD ρ vs) (ds.drop (i + 1)) = some r ∧ accD ++ r = out, fun H' h' => ⟨_, by omega, rfl, h'⟩, fun x H3 y => ?_⟩
            obtain ⟨s3, rp⟩ := Wk.yld i d H2 x H3 hsm hd y
            have SM := SW.more sm nD ⟨_, hD⟩
            have rx := rp (hid (fun b => O0 b ∨ b = Dd) ow) (fun b z => by
              rcases z with (z | z) | z
              · exact .inl (.inl z)
              · subst z; exact .inr nD
              · exact .inl (.inr z)) SM.trk
            refine ⟨_, ow, _, d, SM.same s3, rx, ρ1, eb, fun σ2 S2 hw => ⟨(hw vs his).trans (wipe_wipe (fun _ h => h)), ?_⟩⟩
            simp only at er
            split at er
            · rename_i et
              refine ⟨_, ow, ρ1, S2, true, et, fun H4 s4 => iteT ?_⟩
              cases ef : f ρ1 with
              | none => rw [ef] at er; cases er
              | some z =>
                rw [ef] at er
                refine ⟨_, ow, ρ1, S2.same s4, z, ef, fun v H5 s5 rv => ?_⟩
                have s25 : Same H2 H5 := (s3.trans s4).trans s5
                refine ⟨accV, s25 _ _ hD, small1000 (by omega), hlt, fun b o q => ?_, accV ++ [v], accD ++ [z], upd_same, by simp; omega, ?_, ?_⟩
                · rw [upd_ne (ne_of_none q nD)]; exact s25 _ _ (sm _ _ q)
                · have hh : hid (fun b => O0 b ∨ b = Dd) ow Dd := .inl (.inr rfl)
                  exact ((ra.same (hide_same s25)).append (.cons rv .nil)).same (hide_upd hh)
                · cases er2 : compL b t f (wipeD ρ vs) (ds.drop (i + 1)) with
                  | none => rw [er2] at er; cases er
                  | some r2 =>
                    rw [er2] at er
                    cases er
                    exact ⟨r2, rfl, by simpa using eo⟩
            · rename_i et
              refine ⟨_, ow, ρ1, S2, false, et, fun H4 s4 => iteF ?_⟩
              have s25 : Same H2 H4 := s3.trans s4
              exact ⟨hlt, sm.trans s25, accV, accD, s25 _ _ hD, by omega, ra.same (hide_same s25), r, er, eo⟩
            · cases er
        · have e : i = ds.length := by omega
          subst e
          rw [List.drop_length] at er
          cases er
          rw [List.append_nil] at eo
          subst eo
          refine .inl ⟨Wk.stop H2 hsm, k Dd H2 (s1.trans sm) (Same.free s1 nD) (.lst hD (ra.same (hide_sub fun b z => ?_)))⟩
          rcases z with (z | z) | z
          · exact .inl (.inl z)
          · exact .inr z
          · exact .inl (.inr z)
    · cases e
theorem df_lc {scope : Scope} (own : List (Str × Nat)) (hc : X.calm = true) (hN : X.N.Nodup) (hi : DI X tg iter it) {ifs : List Expr} (ok : BlkOk X.N X.env.scope scope own)
    (hg : ∀ (s : Shared) (H : Hp) (C : Addr) (cl : List (Str × Addr)) (fp : List Addr), DG (X.blk s H scope (compEnvC scope cl C X.env) fp) tg is b) (ht : ∀ (s : Shared) (H : Hp) (C : Addr) (cl : List (Str × Addr)) (fp : List Addr), DTs (X.blk s H scope (compEnvC scope cl C X.env) fp) ifs t)
    (he : ∀ (s : Shared) (H : Hp) (C : Addr) (cl : List (Str × Addr)) (fp : List Addr), DE (X.blk s H scope (compEnvC scope cl C X.env) fp) elt f) (his : ∀ i ∈ is, i ∈ own.map (·.2) := by decide) (hs : ∀ x, foldedSetIterable iter X.env x = pure x := by intro _; rfl) :
    DF X (.ListComp elt [⟨tg, iter, ifs, 0⟩] scope pos) (eLc it (own.map (·.2)) b t f) := PE.imp (pe_lc (g := tDG X.K is b) (tt := tDT X.K t) (te := tDE X.K f) hc hN hi ok hg ht he hs) (tLc_D his)
theorem ds_setLc (i : Nat) {y : Str} {py spos : Pos} {scope : Scope} (own : List (Str × Nat)) (hc : X.calm = true) (hN : X.N.Nodup) (hy : X.N[i]? = some y) (hyl : X.env.scope.names.lookup y = some .local) {ifs : List Expr}
    (hsw : swapsWith (.ListComp elt [⟨tg, iter, ifs, 0⟩] scope pos) (some (.Name y py)) spos.line X.env = pure true) (hi : DI X tg iter it) (ok : BlkOk X.N X.env.scope scope own)
    (hg : ∀ (s : Shared) (H : Hp) (C : Addr) (cl : List (Str × Addr)) (fp : List Addr), DG (X.blk s H scope (compEnvC scope cl C X.env) fp) tg is b) (ht : ∀ (s : Shared) (H : Hp) (C : Addr) (cl : List (Str × Addr)) (fp : List Addr), DTs (X.blk s H scope (compEnvC scope cl C X.env) fp) ifs t)
    (he : ∀ (s : Shared) (H : Hp) (C : Addr) (cl : List (Str × Addr)) (fp : List Addr), DE (X.blk s H scope (compEnvC scope cl C X.env) fp) elt f) (his : ∀ i ∈ is, i ∈ own.map (·.2) := by decide) (hs : ∀ x, foldedSetIterable iter X.env x = pure x := by intro _; rfl) :
    DS X (.Assign [.Name y py] (.ListComp elt [⟨tg, iter, ifs, 0⟩] scope pos) spos) (gSetF i (eLc it (own.map (·.2)) b t f)) := PS.imp (ps_setLc (g := tDG X.K is b) (tt := tDT X.K t) (te := tDE X.K f) hc hN hy hyl hsw hi ok hg ht he hs) fun N σ H h => by
  obtain ⟨H0, O0, ρ, S, p⟩ := h
  have := setF_post (K := X.K) (i := i) (f := eLc it (own.map (·.2)) b t f) N σ H ⟨H0, O0, ρ, S, p⟩
  exact tLc_D his σ H _ this
end
end DL

set_option maxHeartbeats 4000000
namespace DL
open PySem PySem.Spec PyProof.Rows L2

def isNon : D → Bool
  | .non => true
  | _ => false
section
variable {K : PySem.W.Frag} {Hh H : Hp} {v : V}
theorem BV.int {i : Int} (h : BV K Hh H v (.int i)) : v = .int i := by
  rcases h with h | ⟨a, _, t⟩
  · cases h; rfl
  · cases t
theorem BV.bl {b : Bool} (h : BV K Hh H v (.bl b)) : v = .bl b := by
  rcases h with h | ⟨a, _, t⟩
  · cases h; rfl
  · cases t
theorem BV.str {x : Str} (h : BV K Hh H v (.str x)) : v = .str x := by
  rcases h with h | ⟨a, _, t⟩
  · cases h; rfl
  · cases t
theorem BV.non (h : BV K Hh H v .non) : v = .non := by
  rcases h with h | ⟨a, _, t⟩
  · cases h; rfl
  · cases t
theorem BV.lst {ds : List D} (h : BV K Hh H v (.lst ds)) (e : Same Hh H) : ∃ a vs, v = .ref a ∧ H a = some (.lst vs) ∧ Reps K Hh vs ds := by
  rcases h with h | ⟨a, rfl, t⟩
  · cases h with
    | lst s r => exact ⟨_, _, rfl, e _ _ s, r⟩
  · cases t with
    | lst s r => exact ⟨_, _, rfl, s, r⟩
theorem BV.tup {ds : List D} (h : BV K Hh H v (.tup ds)) (e : Same Hh H) : ∃ a vs, v = .ref a ∧ SqT K H a vs ∧ Reps K Hh vs ds := by
  rcases h with h | ⟨a, rfl, t⟩
  · cases h with
    | tup s r => exact ⟨_, _, rfl, DL.Same.sqT e s, r⟩
  · cases t
theorem BV.scr {ns : List Int} (h : BV K Hh H v (.scr ns)) (e : Same Hh H) : ∃ a, v = .ref a ∧ SqL K H a (ns.map V.int) := by
  rcases h with h | ⟨a, rfl, t⟩
  · cases h with
    | scr s => exact ⟨_, rfl, L2.Same.seq e s⟩
  · cases t
theorem BV.ins {C : Addr} {fs : List (Str × D)} (h : BV K Hh H v (.ins C fs)) (e : Same Hh H) : ∃ a dx vs, v = .ref a ∧ H a = some (.ins C dx vs) ∧ RepF K Hh vs fs := by
  rcases h with h | ⟨a, rfl, t⟩
  · cases h with
    | ins s r => exact ⟨_, _, _, rfl, e _ _ s, r⟩
  · cases t
theorem BV.not_non {d : D} (h : BV K Hh H v d) : (decide (v = .non) = isNon d) := by
  rcases h with h | ⟨a, rfl, t⟩
  · cases h <;> rfl
  · cases t <;> rfl
end

/-! ### operations -/
theorem OpD.or {X : Cx} {f : Value → Value → Sem Value} {g g' : D → D → Option D} (h : OpD X f g) (h' : OpD X f g') : OpD X f (fun x y => (g x y).or (g' x y)) := by
  obtain ⟨r, o, k⟩ := h
  obtain ⟨r', o', k'⟩ := h'
  refine ⟨_, o.or o', fun O H x y p q d Q hx hy e c t => ?_⟩
  replace e : (g p q).or (g' p q) = some d := e
  cases eg : g p q with
  | some z => rw [eg] at e; cases e; exact .inl (k O H x y p q _ Q hx hy eg c t)
  | none => rw [eg] at e; exact .inr (k' O H x y p q d Q hx hy (by simpa using e) c t)
def gI (f : Int → Int → Option D) : D → D → Option D
  | .int i, .int j => f i j
  | _, _ => none
section
variable {X : Cx}
theorem od_int {f : Value → Value → Sem Value} {C : Int → Int → Prop} {g : Int → Int → V} {m : Int → Int → Option D} (o : OpR X f (rI C g)) (h : ∀ i j d, m i j = some d → C i j ∧ ∀ H, Rep X.K H (g i j) d) : OpD X f (gI m) :=
  ⟨_, o, fun O H x y p q d Q hx hy e c _ => by
    unfold gI at e
    split at e
    · rename_i i j
      obtain ⟨h1, h2⟩ := h i j d e
      exact ⟨i, j, hx.int, hy.int, h1, c _ _ (.refl _) (h2 _)⟩
    · cases e⟩
theorem od_int0 {f : Value → Value → Sem Value} {g : Int → Int → V} {m : Int → Int → D} (o : OpR X f (rI0 g)) (h : ∀ i j H, Rep X.K H (g i j) (m i j)) : OpD X f (gI fun i j => some (m i j)) :=
  ⟨_, o, fun O H x y p q d Q hx hy e c _ => by
    unfold gI at e
    split at e
    · rename_i i j
      cases e
      exact ⟨i, j, hx.int, hy.int, c _ _ (.refl _) (h i j _)⟩
    · cases e⟩
def sz (i : Int) : Bool := decide (i.natAbs.log2 < 8000)
def mMul (i j : Int) : Option D := if sz i && sz j then some (.int (i * j)) else none
def mDiv (i j : Int) : Option D := if 0 < j && sz j then some (.int (i / j)) else none
def mMod (i j : Int) : Option D := if 0 < j then some (.int (i % j)) else none
theorem od_sub : OpD X (binaryOp .Sub) (gI fun i j => some (.int (i - j))) := od_int0 op_sub fun i j H => .int _
theorem od_addI : OpD X (binaryOp .Add) (gI fun i j => some (.int (i + j))) := od_int0 op_add fun i j H => .int _
theorem od_mulI : OpD X (binaryOp .Mult) (gI mMul) := od_int op_mulW fun i j d e => by
  unfold mMul at e
  split at e
  · rename_i h
    cases e
    rw [Bool.and_eq_true] at h
    have h1 := of_decide_eq_true h.1
    have h2 := of_decide_eq_true h.2
    exact ⟨(by show _ + _ < _; omega), fun H => .int _⟩
  · cases e
theorem od_div : OpD X (binaryOp .FloorDiv) (gI mDiv) := od_int op_fdivW fun i j d e => by
  unfold mDiv at e
  split at e
  · rename_i h
    cases e
    rw [Bool.and_eq_true] at h
    have h1 := of_decide_eq_true h.1
    have h2 := of_decide_eq_true h.2
    exact ⟨⟨h1, by omega⟩, fun H => .int _⟩
  · cases e
theorem od_mod : OpD X (binaryOp .Mod) (gI mMod) := od_int op_mod fun i j d e => by
  unfold mMod at e
  split at e
  · rename_i h
    cases e
    exact ⟨h, fun H => .int _⟩
  · cases e
theorem od_lt : OpD X (compareOp .Lt) (gI fun i j => some (.bl (decide (i < j)))) := ⟨_, op_lt, fun O H x y p q d Q hx hy e c _ => by
    unfold gI at e
    split at e
    · rename_i i j
      cases e
      exact ⟨i, j, hx.int, hy.int, c _ _ (.refl _) (.bl _)⟩
    · cases e⟩
theorem od_le : OpD X (compareOp .LtE) (gI fun i j => some (.bl (decide (i ≤ j)))) := ⟨_, op_le, fun O H x y p q d Q hx hy e c _ => by
    unfold gI at e
    split at e
    · rename_i i j
      cases e
      exact ⟨i, j, hx.int, hy.int, c _ _ (.refl _) (.bl _)⟩
    · cases e⟩
theorem od_gt : OpD X (compareOp .Gt) (gI fun i j => some (.bl (decide (j < i)))) := ⟨_, op_gt, fun O H x y p q d Q hx hy e c _ => by
    unfold gI at e
    split at e
    · rename_i i j
      cases e
      exact ⟨i, j, hx.int, hy.int, c _ _ (.refl _) (.bl _)⟩
    · cases e⟩
theorem od_ge : OpD X (compareOp .GtE) (gI fun i j => some (.bl (decide (j ≤ i)))) := ⟨_, op_ge, fun O H x y p q d Q hx hy e c _ => by
    unfold gI at e
    split at e
    · rename_i i j
      cases e
      exact ⟨i, j, hx.int, hy.int, c _ _ (.refl _) (.bl _)⟩
    · cases e⟩
/-! is None -/
def gIsN (neg : Bool) : D → D → Option D := fun x y => if isNon y then some (.bl (if neg then !isNon x else isNon x)) else none
theorem od_isN : OpD X (compareOp .Is) (gIsN false) := ⟨_, op_isN, fun O H x y p q d Q hx hy e c _ => by
    unfold gIsN at e
    split at e
    · rename_i h
      cases e
      cases q <;> first | cases h | skip
      refine ⟨hy.non, ?_⟩
      have := hx.not_non
      rw [this]
      exact c _ _ (.refl _) (.bl (isNon p))
    · cases e⟩
theorem od_notN : OpD X (compareOp .IsNot) (gIsN true) := ⟨_, op_notN, fun O H x y p q d Q hx hy e c _ => by
    unfold gIsN at e
    split at e
    · rename_i h
      cases e
      cases q <;> first | cases h | skip
      refine ⟨hy.non, ?_⟩
      have := hx.not_non
      rw [this]
      exact c _ _ (.refl _) (.bl (!isNon p))
    · cases e⟩
/-! == of data -/
end
mutual
def toPy : D → Option PyData
  | .non => some .none
  | .bl b => some (.bool b)
  | .int i => some (.int i)
  | .str x => some (.str x)
  | .tup xs => (toPys xs).map .tuple
  | .lst xs => (toPys xs).map .list
  | .scr ns => some (.list (ns.map .int))
  | .ins _ _ => none
  | .new _ _ _ _ => none
  | .dic _ => none
def toPys : List D → Option (List PyData)
  | [] => some []
  | x :: xs => (toPy x).bind fun a => (toPys xs).map (a :: ·)
end
theorem dp_ints {K : PySem.W.Frag} {H : Hp} : ∀ ns : List Int, DpAll K H (ns.map V.int) (ns.map PyData.int)
  | [] => .nil
  | n :: ns => .cons (.int n) (dp_ints ns)
mutual
theorem Rep.dp {K : PySem.W.Frag} {H : Hp} : ∀ {v : V} {d : D} {p : PyData}, Rep K H v d → toPy d = some p → Dp K H v p
  | _, _, _, .non, e => by cases e; exact .non
  | _, _, _, .bl b, e => by cases e; exact .bl b
  | _, _, _, .int b, e => by cases e; exact .int b
  | _, _, _, .str b, e => by cases e; exact .str b
  | _, _, _, .tup (ds := ds) s r, e => by
    simp only [toPy, Option.map_eq_some_iff] at e
    obtain ⟨ps, e, rfl⟩ := e
    exact .tup s (Reps.dp r e)
  | _, _, _, .lst (ds := ds) s r, e => by
    simp only [toPy, Option.map_eq_some_iff] at e
    obtain ⟨ps, e, rfl⟩ := e
    exact .lst (SqL.of s) (Reps.dp r e)
  | _, _, _, .scr s, e => by cases e; exact .lst s (dp_ints _)
  | _, _, _, .ins s r, e => by simp [toPy] at e
  | _, _, _, .new s r, e => by simp [toPy] at e
theorem Reps.dp {K : PySem.W.Frag} {H : Hp} : ∀ {v : List V} {d : List D} {p : List PyData}, Reps K H v d → toPys d = some p → DpAll K H v p
  | _, _, _, .nil, e => by cases e; exact .nil
  | _, _, _, .cons r s, e => by
    simp only [toPys, Option.bind_eq_some_iff, Option.map_eq_some_iff] at e
    obtain ⟨a, e1, as, e2, rfl⟩ := e
    exact .cons (Rep.dp r e1) (Reps.dp s e2)
end
theorem BV.dp {K : PySem.W.Frag} {Hh H : Hp} {v : V} {d : D} {p : PyData} (h : BV K Hh H v d) (s : Same Hh H) (e : toPy d = some p) : Dp K H v p := by
  rcases h with h | ⟨a, rfl, t⟩
  · exact (h.same s).dp e
  · exact (t.rep s fun o q => q).dp e
def eqD (neg : Bool) (x y : D) : Option D := (toPy x).bind fun a => (toPy y).bind fun b => if SeqAt.shaped a && SeqAt.shaped b then some (.bl (if neg then !PyData.eqv a b else PyData.eqv a b)) else none
section
variable {X : Cx}
theorem od_eq (hu : X.A.units + 64 < cLine) : OpD X (compareOp .Eq) (eqD false) := ⟨_, op_eqD hu, fun O H x y p q d Q hx hy e c _ => by
  unfold eqD at e
  simp only [Option.bind_eq_some_iff] at e
  obtain ⟨a, ea, b, eb, e⟩ := e
  split at e
  · rename_i h
    cases e
    rw [Bool.and_eq_true] at h
    exact ⟨a, b, hx.dp hide_le ea, hy.dp hide_le eb, h.1, h.2, c _ _ (.refl _) (.bl _)⟩
  · cases e⟩
theorem od_ne (hu : X.A.units + 64 < cLine) : OpD X (compareOp .NotEq) (eqD true) := ⟨_, op_neD hu, fun O H x y p q d Q hx hy e c _ => by
  unfold eqD at e
  simp only [Option.bind_eq_some_iff] at e
  obtain ⟨a, ea, b, eb, e⟩ := e
  split at e
  · rename_i h
    cases e
    rw [Bool.and_eq_true] at h
    exact ⟨a, b, hx.dp hide_le ea, hy.dp hide_le eb, h.1, h.2, c _ _ (.refl _) (.bl _)⟩
  · cases e⟩
/-! lists and tuples together -/
def gCat : D → D → Option D
  | .lst xs, .lst ys => if xs.length + ys.length ≤ 1000 then some (.lst (xs ++ ys)) else none
  | _, _ => none
theorem new_rep {K : PySem.W.Frag} {O : Addr → Prop} {H : Hp} {p : Addr} (t : ∀ a, O a → ∃ o, H a = some o) (n : H p = none) : ¬ O p := fun z => by
  obtain ⟨o, w⟩ := t p z
  rw [n] at w; cases w
theorem small1000' {n : Nat} (h : n ≤ 1000) : n ≤ sizeLine := Nat.le_of_lt (small1000 h)
theorem od_cat : OpD X (binaryOp .Add) gCat := ⟨_, op_cat, fun O H x y p q d Q hx hy e c t => by
  unfold gCat at e
  split at e
  · rename_i xs ys
    split at e
    · rename_i h
      cases e
      obtain ⟨a, vs, rfl, ha, ra⟩ := hx.lst hide_le
      obtain ⟨b, us, rfl, hb, rb⟩ := hy.lst hide_le
      refine ⟨a, b, vs, us, rfl, rfl, ha, hb, small1000' (by rw [ra.length, rb.length]; exact h), fun l nl => c _ _ (same_upd nl) ?_⟩
      have nO := new_rep (K := X.K) t nl
      exact .lst (hide_some.mpr ⟨nO, upd_same⟩) ((ra.append rb).same (hide_same (same_upd nl)))
    · cases e
  · cases e⟩
def gCatT : D → D → Option D
  | .tup (x :: xs), .tup ys => if xs.length + ys.length ≤ 900 then some (.tup (x :: xs ++ ys)) else none
  | _, _ => none
theorem od_catT : OpD X (binaryOp .Add) gCatT := ⟨_, op_catT, fun O H x y p q d Q hx hy e c t => by
  unfold gCatT at e
  split at e
  · rename_i x xs ys
    split at e
    · rename_i h
      cases e
      obtain ⟨a, vs, rfl, ha, ra⟩ := hx.tup hide_le
      obtain ⟨b, us, rfl, hb, rb⟩ := hy.tup hide_le
      have h1 := ra.length
      have h2 := rb.length
      simp only [List.length_cons] at h1
      refine ⟨a, b, vs, us, rfl, rfl, ha, hb, fun z => by subst z; simp at h1, small1000' (by omega), fun z => ?_, fun z l nl => c _ _ (same_upd nl) ?_⟩
      · subst z
        cases rb
        rw [List.append_nil] at c
        refine c _ _ (.refl _) ?_
        rcases hx with hx | ⟨_, _, hx⟩
        · exact hx
        · cases hx
      · have nO := new_rep (K := X.K) t nl
        exact .tup (SqT.of (hide_some.mpr ⟨nO, upd_same⟩)) ((ra.append rb).same (hide_same (same_upd nl)))
    · cases e
  · cases e⟩
end
end DL

set_option maxHeartbeats 4000000
namespace DL
open PySem PySem.Spec PyProof.Rows L2

section
variable {X : Cx} {e a b c : Expr} {es : List Expr} {f g fa fb fc ft : DE1} {fs : DEnv → Option (List D)} {pos p : Pos}
/-! ### lists of expressions, displays -/
def aNil : DEnv → Option (List D) := fun _ => some []
def aCons (f : DE1) (fs : DEnv → Option (List D)) : DEnv → Option (List D) := fun ρ => (f ρ).bind fun x => (fs ρ).map (x :: ·)
theorem aCons_some {ρ : DEnv} {ds : List D} (h : aCons f fs ρ = some ds) : ∃ x xs, f ρ = some x ∧ fs ρ = some xs ∧ ds = x :: xs := by
  unfold aCons at h
  simp only [Option.bind_eq_some_iff, Option.map_eq_some_iff] at h
  obtain ⟨x, h1, xs, h2, rfl⟩ := h
  exact ⟨x, xs, h1, h2, rfl⟩
theorem da_nil : DA X [] aNil := PA.imp pa_nil fun σ H Q ⟨O0, ow, ρ, S, d, e, k⟩ => by cases e; exact k _ _ (.refl _) .nil
theorem da_cons (h : DE X e f) (hr : DA X es fs) (hs : starEach (e :: es) X.env = (false, eval e X.env) :: starEach es X.env := by rfl) : DA X (e :: es) (aCons f fs) := PA.imp (pa_cons h hr hs) fun σ H Q ⟨O0, ow, ρ, S, d, e, k⟩ => by
  obtain ⟨x, xs, e1, e2, rfl⟩ := aCons_some e
  exact ⟨O0, ow, ρ, S, x, e1, fun v H1 s1 r1 => ⟨O0, ow, ρ, S.same s1, xs, e2, fun vs H2 s2 r2 => k _ H2 (s1.trans s2) (.cons (r1.same (hide_same s2)) r2)⟩⟩
theorem dab_nil : DAB X [] aNil := PA.imp pa_nil fun σ H Q ⟨O0, ow, ρ, S, d, e, k⟩ => by cases e; exact k _ _ (.refl _) .nil
theorem dab_cons (h : DB X e f) (hr : DAB X es fs) (hs : starEach (e :: es) X.env = (false, eval e X.env) :: starEach es X.env := by rfl) : DAB X (e :: es) (aCons f fs) := PA.imp (pa_cons h hr hs) fun σ H Q ⟨O0, ow, ρ, S, d, e, k⟩ => by
  obtain ⟨x, xs, e1, e2, rfl⟩ := aCons_some e
  exact ⟨O0, ow, ρ, S, x, e1, fun v H1 s1 r1 => ⟨O0, ow, ρ, S.same s1, xs, e2, fun vs H2 s2 r2 => k _ H2 (s1.trans s2) (.cons (r1.same (hide_same s2) s2) r2)⟩⟩
def eTup (fs : DEnv → Option (List D)) : DE1 := fun ρ => (fs ρ).bind fun ds => if ds.length ≤ 1000 then some (.tup ds) else none
def eLst (fs : DEnv → Option (List D)) : DE1 := fun ρ => (fs ρ).bind fun ds => if ds.length ≤ 1000 then some (.lst ds) else none
theorem de_tup {x1} (h : DA X es fs) : DE X (.Tuple es x1 pos) (eTup fs) := PE.imp (pe_tup h) fun σ H Q ⟨O0, ow, ρ, S, d, e, k⟩ => by
  unfold eTup at e
  simp only [Option.bind_eq_some_iff] at e
  obtain ⟨ds, e1, e⟩ := e
  split at e
  · rename_i hl
    cases e
    refine ⟨O0, ow, ρ, S, ds, e1, fun vs H1 s1 r1 => ⟨small1000' (by rw [r1.length]; exact hl), fun p np => k _ _ (s1.trans (same_upd np)) ?_⟩⟩
    exact .tup (SqT.of (hide_some.mpr ⟨new_rep (K := X.K) (S.same s1).trk np, upd_same⟩)) (r1.same (hide_same (same_upd np)))
  · cases e
theorem df_lst (h : DA X es fs) : DF X (.List es pos) (eLst fs) := PE.imp (pe_lst h) fun σ H Q ⟨O0, ow, ρ, S, d, e, k⟩ => by
  unfold eLst at e
  simp only [Option.bind_eq_some_iff] at e
  obtain ⟨ds, e1, e⟩ := e
  split at e
  · rename_i hl
    cases e
    refine ⟨O0, ow, ρ, S, ds, e1, fun vs H1 s1 r1 => ⟨small1000' (by rw [r1.length]; exact hl), fun p np => k _ _ (s1.trans (same_upd np)) (Same.free s1 np) (.lst upd_same (r1.same fun b o q => ?_))⟩⟩
    rw [hide_some] at q ⊢
    exact ⟨fun z => z.elim q.1 fun z => (by subst z; rw [np] at q; cases q.2), same_upd np _ _ q.2⟩
  · cases e
/-- an operation that lays a new list -/
def OpF (X : Cx) (f : Value → Value → Sem Value) (g : D → D → Option D) : Prop := ∃ r : R2, OpR X f r ∧ ∀ (O : Addr → Prop) (H : Hp) (x y : V) (p q d : D) (Q : VK), BV X.K (hide O H) H x p → BV X.K (hide O H) H y q → g p q = some d →
  (∀ a H', Same H H' → H a = none → TopR X.K (hide (fun b => O b ∨ b = a) H') H' a d → Q (.ref a) H') → (∀ a, O a → ∃ o, H a = some o) → r x y H Q
theorem fresh_reps {K : PySem.W.Frag} {O : Addr → Prop} {H : Hp} {a : Addr} {o : HO} {vs : List V} {ds : List D} (n : H a = none) (r : Reps K (hide O H) vs ds) : Reps K (hide (fun b => O b ∨ b = a) (upd H a o)) vs ds := r.same fun b u q => by
  rw [hide_some] at q ⊢
  exact ⟨fun z => z.elim q.1 fun z => (by subst z; rw [n] at q; cases q.2), same_upd n _ _ q.2⟩
theorem of_cat : OpF X (binaryOp .Add) gCat := ⟨_, op_cat, fun O H x y p q d Q hx hy e c t => by
  unfold gCat at e
  split at e
  · rename_i xs ys
    split at e
    · rename_i h
      cases e
      obtain ⟨a, vs, rfl, ha, ra⟩ := hx.lst hide_le
      obtain ⟨b, us, rfl, hb, rb⟩ := hy.lst hide_le
      exact ⟨a, b, vs, us, rfl, rfl, ha, hb, small1000' (by rw [ra.length, rb.length]; exact h), fun l nl => c _ _ (same_upd nl) nl (.lst upd_same (fresh_reps nl (ra.append rb)))⟩
    · cases e
  · cases e⟩
def gRep : D → D → Option D
  | .lst xs, .int k => if decide (-1000 ≤ k ∧ k ≤ 1000) && decide (xs.length ≤ 1000) then some (.lst (List.replicate k.toNat xs).flatten) else none
  | _, _ => none
theorem of_rep : OpF X (binaryOp .Mult) gRep := ⟨_, op_rep, fun O H x y p q d Q hx hy e c t => by
  unfold gRep at e
  split at e
  · rename_i xs k
    split at e
    · rename_i h
      cases e
      rw [Bool.and_eq_true] at h
      have h1 := of_decide_eq_true h.1
      have h2 := of_decide_eq_true h.2
      obtain ⟨a, vs, rfl, ha, ra⟩ := hx.lst hide_le
      have hl := ra.length
      refine ⟨a, k, vs, rfl, hy.int, ha, by omega, by omega, ?_, fun l nl => c _ _ (same_upd nl) nl (.lst upd_same (fresh_reps nl (ra.rep _)))⟩
      have : vs.length * k.toNat ≤ 1000 * 1000 := Nat.mul_le_mul (by omega) (by omega)
      exact Nat.le_trans this (by decide)
    · cases e
  · cases e⟩
def gRepT : D → D → Option D
  | .tup (x :: xs), .int k => if decide (2 ≤ k ∧ k ≤ 1000) && decide (xs.length ≤ 900) then some (.tup (List.replicate k.toNat (x :: xs)).flatten) else none
  | _, _ => none
theorem od_repT : OpD X (binaryOp .Mult) gRepT := ⟨_, op_repT, fun O H x y p q d Q hx hy e c t => by
  unfold gRepT at e
  split at e
  · rename_i x xs k
    split at e
    · rename_i h
      cases e
      rw [Bool.and_eq_true] at h
      have h1 := of_decide_eq_true h.1
      have h2 := of_decide_eq_true h.2
      obtain ⟨a, vs, rfl, ha, ra⟩ := hx.tup hide_le
      have hl := ra.length
      simp only [List.length_cons] at hl
      refine ⟨a, k, vs, rfl, hy.int, ha, fun z => by subst z; simp at hl, h1.1, h1.2, by omega, fun l nl => c _ _ (same_upd nl) ?_⟩
      exact .tup (SqT.of (hide_some.mpr ⟨new_rep (K := X.K) t nl, upd_same⟩)) ((ra.rep _).same (hide_same (same_upd nl)))
    · cases e
  · cases e⟩
theorem df_op {op : Operator} {g : D → D → Option D} (ho : OpF X (binaryOp op) g) (ha : DB X a fa) (hb : DB X b fb) : DF X (.BinOp a op b pos) (e2 g fa fb) := by
  obtain ⟨r, o, h⟩ := ho
  refine PE.imp (pe_op o ha hb) fun σ H Q ⟨O0, ow, ρ, S, d, e, k⟩ => ?_
  obtain ⟨p, q, ea, eb, eg⟩ := e2_some e
  refine ⟨O0, ow, ρ, S, p, ea, fun x H1 s1 r1 => ⟨O0, ow, ρ, S.same s1, q, eb, fun y H2 s2 r2 => ?_⟩⟩
  exact h _ H2 x y p q d Q (r1.same (hide_same s2) s2) r2 eg (fun l H' s n t => k l H' ((s1.trans s2).trans s) (Same.free (s1.trans s2) n) t) ((S.same s1).same s2).trk
/-- minus -/
def eNeg (f : DE1) : DE1 := fun ρ => match f ρ with
  | some (.int i) => some (.int (-i))
  | _ => none
theorem de_neg (h : DB X e f) : DE X (.UnaryOp .USub e pos) (eNeg f) := PE.imp (pe_un un_neg h) fun σ H Q ⟨O0, ow, ρ, S, d, e, k⟩ => by
  unfold eNeg at e
  split at e
  · rename_i i ef
    cases e
    exact ⟨O0, ow, ρ, S, _, ef, fun v H1 s r => ⟨i, r.int, k _ H1 s (.int _)⟩⟩
  · cases e
/-! ### and, or, not, if else, chains -/
def eAnd (fa fb : DE1) : DE1 := fun ρ => match fa ρ with
  | some (.bl true) => fb ρ
  | some (.bl false) => some (.bl false)
  | _ => none
def eOr (fa fb : DE1) : DE1 := fun ρ => match fa ρ with
  | some (.bl true) => some (.bl true)
  | some (.bl false) => fb ρ
  | _ => none
def eNot (f : DE1) : DE1 := fun ρ => match f ρ with
  | some (.bl b) => some (.bl (!b))
  | _ => none
def eIf (c f g : DE1) : DE1 := fun ρ => match c ρ with
  | some (.bl true) => f ρ
  | some (.bl false) => g ρ
  | _ => none
theorem de_and1 {op} (h : DE X a f) : DE X (.BoolOp op [a] pos) f := pe_one h
theorem de_and {rest : List Expr} (ha : DE X a fa) (hb : DE X (.BoolOp .And (b :: rest) pos) fb) : DE X (.BoolOp .And (a :: b :: rest) pos) (eAnd fa fb) := PE.imp (pe_and ha hb) fun σ H Q ⟨O0, ow, ρ, S, d, e, k⟩ => by
  unfold eAnd at e
  split at e
  · rename_i ef
    exact ⟨O0, ow, ρ, S, _, ef, fun v H1 s r => by cases r; exact ⟨true, rfl, iteT ⟨O0, ow, ρ, S.same s, d, e, fun v H2 s2 r => k v H2 (s.trans s2) r⟩⟩⟩
  · rename_i ef
    cases e
    exact ⟨O0, ow, ρ, S, _, ef, fun v H1 s r => by cases r; exact ⟨false, rfl, iteF (k _ _ s (.bl _))⟩⟩
  · cases e
theorem de_or {rest : List Expr} (ha : DE X a fa) (hb : DE X (.BoolOp .Or (b :: rest) pos) fb) : DE X (.BoolOp .Or (a :: b :: rest) pos) (eOr fa fb) := PE.imp (pe_or ha hb) fun σ H Q ⟨O0, ow, ρ, S, d, e, k⟩ => by
  unfold eOr at e
  split at e
  · rename_i ef
    cases e
    exact ⟨O0, ow, ρ, S, _, ef, fun v H1 s r => by cases r; exact ⟨true, rfl, iteT (k _ _ s (.bl _))⟩⟩
  · rename_i ef
    exact ⟨O0, ow, ρ, S, _, ef, fun v H1 s r => by cases r; exact ⟨false, rfl, iteF ⟨O0, ow, ρ, S.same s, d, e, fun v H2 s2 r => k v H2 (s.trans s2) r⟩⟩⟩
  · cases e
theorem de_not (h : DE X a f) : DE X (.UnaryOp .Not a pos) (eNot f) := PE.imp (pe_not h) fun σ H Q ⟨O0, ow, ρ, S, d, e, k⟩ => by
  unfold eNot at e
  split at e
  · rename_i b ef
    cases e
    exact ⟨O0, ow, ρ, S, _, ef, fun v H1 s r => by cases r; exact ⟨b, rfl, k _ _ s (.bl _)⟩⟩
  · cases e
/-- tests -/
def DW (X : Cx) (e : Expr) (f : DE1) : Prop := PW X e (tDT X.K f)
theorem PW.imp {t t' : TT} (h : PW X e t) (k : ∀ σ H Q, t' σ H Q → t σ H Q) : PW X e t' := ⟨fun wh pins s σ H Q I q => h.run wh pins s σ H Q I (k _ _ _ q)⟩
theorem dt_w (h : DW X e f) : DT X e f := PW.pt h
theorem dw_and1 (h : DT X a f) : DW X (.BoolOp .And [a] pos) f := pw_and1 h
theorem dw_or1 (h : DT X a f) : DW X (.BoolOp .Or [a] pos) f := pw_or1 h
theorem dw_and {rest : List Expr} (ha : DT X a fa) (hb : DW X (.BoolOp .And (b :: rest) pos) fb) : DW X (.BoolOp .And (a :: b :: rest) pos) (eAnd fa fb) := PW.imp (pw_and ha hb) fun σ H Q ⟨O0, ow, ρ, S, d, e, k⟩ => by
  unfold eAnd at e
  split at e
  · rename_i ef
    exact ⟨O0, ow, ρ, S, _, ef, fun H1 s => iteT ⟨O0, ow, ρ, S.same s, d, e, fun H2 s2 => k H2 (s.trans s2)⟩⟩
  · rename_i ef
    cases e
    exact ⟨O0, ow, ρ, S, _, ef, fun H1 s => iteF (k _ s)⟩
  · cases e
theorem dw_or {rest : List Expr} (ha : DT X a fa) (hb : DW X (.BoolOp .Or (b :: rest) pos) fb) : DW X (.BoolOp .Or (a :: b :: rest) pos) (eOr fa fb) := PW.imp (pw_or ha hb) fun σ H Q ⟨O0, ow, ρ, S, d, e, k⟩ => by
  unfold eOr at e
  split at e
  · rename_i ef
    cases e
    exact ⟨O0, ow, ρ, S, _, ef, fun H1 s => iteT (k _ s)⟩
  · rename_i ef
    exact ⟨O0, ow, ρ, S, _, ef, fun H1 s => iteF ⟨O0, ow, ρ, S.same s, d, e, fun H2 s2 => k H2 (s.trans s2)⟩⟩
  · cases e
theorem dt_not (h : DT X a f) : DT X (.UnaryOp .Not a pos) (eNot f) := PT.imp (pt_not h) fun σ H Q ⟨O0, ow, ρ, S, d, e, k⟩ => by
  unfold eNot at e
  split at e
  · rename_i b ef
    cases e
    exact ⟨O0, ow, ρ, S, _, ef, fun H1 s => k _ s⟩
  · cases e
theorem de_if (hc : DT X c fc) (ha : DE X a fa) (hb : DE X b fb) : DE X (.IfExp c a b pos) (eIf fc fa fb) := PE.imp (pe_ifExp hc ha hb) fun σ H Q ⟨O0, ow, ρ, S, d, e, k⟩ => by
  unfold eIf at e
  split at e
  · rename_i ef
    exact ⟨O0, ow, ρ, S, _, ef, fun H1 s => iteT ⟨O0, ow, ρ, S.same s, d, e, fun v H2 s2 r => k v H2 (s.trans s2) r⟩⟩
  · rename_i ef
    exact ⟨O0, ow, ρ, S, _, ef, fun H1 s => iteF ⟨O0, ow, ρ, S.same s, d, e, fun v H2 s2 r => k v H2 (s.trans s2) r⟩⟩
  · cases e
def eCh (g g' : D → D → Option D) (fa fb fc : DE1) : DE1 := fun ρ => (fa ρ).bind fun x => (fb ρ).bind fun y => match g x y with
  | some (.bl true) => (fc ρ).bind fun z => g' y z
  | some (.bl false) => some (.bl false)
  | _ => none
theorem tChain_D {op op' : CmpOp} {g g' : D → D → Option D} (ho : OpD X (compareOp op) g) (ho' : OpD X (compareOp op') g') (ha : DB X a fa) (hb : DB X b fb) (hc : DB X c fc) : ∃ r r', OpR X (compareOp op) r ∧ OpR X (compareOp op') r' ∧
    ∀ σ H Q, tDE X.K (eCh g g' fa fb fc) σ H Q → tChain r r' (tDB X.K fa) (tDB X.K fb) (tDB X.K fc) σ H Q := by
  obtain ⟨r, o, h⟩ := ho
  obtain ⟨r', o', h'⟩ := ho'
  refine ⟨r, r', o, o', fun σ H Q ⟨O0, ow, ρ, S, d, e, k⟩ => ?_⟩
  unfold eCh at e
  simp only [Option.bind_eq_some_iff] at e
  obtain ⟨x, ex, y, ey, e⟩ := e
  refine ⟨O0, ow, ρ, S, x, ex, fun vx H1 s1 r1 => ⟨O0, ow, ρ, S.same s1, y, ey, fun vy H2 s2 r2 => ?_⟩⟩
  split at e
  · rename_i eg
    simp only [Option.bind_eq_some_iff] at e
    obtain ⟨z, ez, e⟩ := e
    refine h _ H2 vx vy x y _ _ (r1.same (hide_same s2) s2) r2 eg (fun v H3 s3 rv => ?_) ((S.same s1).same s2).trk
    cases rv
    refine ⟨true, rfl, iteT ⟨O0, ow, ρ, ((S.same s1).same s2).same s3, z, ez, fun vz H4 s4 r4 => ?_⟩⟩
    exact h' _ H4 vy vz y z d Q (r2.same (hide_same (s3.trans s4)) (s3.trans s4)) r4 e (fun v H5 s5 rv => k v H5 (((s1.trans s2).trans (s3.trans s4)).trans s5) rv) ((((S.same s1).same s2).same s3).same s4).trk
  · rename_i eg
    cases e
    refine h _ H2 vx vy x y _ _ (r1.same (hide_same s2) s2) r2 eg (fun v H3 s3 rv => ?_) ((S.same s1).same s2).trk
    cases rv
    exact ⟨false, rfl, iteF (k _ _ ((s1.trans s2).trans s3) (.bl _))⟩
  · cases e
theorem de_chain {op op' : CmpOp} {g g' : D → D → Option D} (ho : OpD X (compareOp op) g) (ho' : OpD X (compareOp op') g') (ha : DB X a fa) (hb : DB X b fb) (hc : DB X c fc)
    (hm : lastMarks [op, op'] [b, c] = false := by with_unfolding_all rfl) : DE X (.Compare a [op, op'] [b, c] pos) (eCh g g' fa fb fc) := by
  obtain ⟨r, r', o, o', h⟩ := tChain_D ho ho' ha hb hc
  exact PE.imp (pe_chain o o' ha hb hc hm) h
theorem dt_chain {op op' : CmpOp} {g g' : D → D → Option D} (ho : OpD X (compareOp op) g) (ho' : OpD X (compareOp op') g') (ha : DB X a fa) (hb : DB X b fb) (hc : DB X c fc)
    (hm : lastMarks [op, op'] [b, c] = false := by with_unfolding_all rfl) : DT X (.Compare a [op, op'] [b, c] pos) (eCh g g' fa fb fc) := by
  obtain ⟨r, r', o, o', h⟩ := tChain_D ho ho' ha hb hc
  refine PT.imp (pt_chain o o' ha hb hc hm) fun σ H Q ⟨O0, ow, ρ, S, b, e, k⟩ => h σ H _ ⟨O0, ow, ρ, S, _, e, fun v H' s r => by cases r; exact ⟨b, rfl, k H' s⟩⟩

/-! ### items, slices -/
def ixD (xs : List D) (i : Int) : Option D := atI xs i
def gIx : D → D → Option D
  | .lst xs, .int i => atI xs i
  | .tup xs, .int i => atI xs i
  | .scr ns, .int i => (atI ns i).map .int
  | _, _ => none
theorem atI_reps {K : PySem.W.Frag} {H : Hp} {vs : List V} {ds : List D} {i : Int} {d : D} (r : Reps K H vs ds) (h : atI ds i = some d) : ∃ v, atI vs i = some v ∧ Rep K H v d := by
  unfold atI at h ⊢
  rw [r.length]
  cases e : ixN ds.length i with
  | none => rw [e] at h; cases h
  | some j =>
    rw [e] at h
    exact r.get h
theorem atI_map {ns : List Int} {i n : Int} (h : atI ns i = some n) : atI (ns.map V.int) i = some (.int n) := by
  unfold atI at h ⊢
  rw [List.length_map]
  cases e : ixN ns.length i with
  | none => rw [e] at h; cases h
  | some j =>
    rw [e] at h
    show (ns.map V.int)[j]? = _
    rw [List.getElem?_map, show ns[j]? = some n from h]
    rfl
theorem de_ix (ha : DB X a fa) (hb : DB X b fb) (hs : PlainIx b := by exact fun _ _ => rfl) : DE X (.Subscript a b pos) (e2 gIx fa fb) := PE.imp (pe_ix (ix_list.or ix_tup) ha hb hs) fun σ H Q ⟨O0, ow, ρ, S, d, e, k⟩ => by
  obtain ⟨p, q, ea, eb, eg⟩ := e2_some e
  refine ⟨O0, ow, ρ, S, p, ea, fun x H1 s1 r1 => ⟨O0, ow, ρ, S.same s1, q, eb, fun y H2 s2 r2 => ?_⟩⟩
  replace r1 := r1.same (hide_same s2) s2
  unfold gIx at eg
  split at eg
  · obtain ⟨l, vs, rfl, hl, rs⟩ := r1.lst hide_le
    obtain ⟨v, hv, rv⟩ := atI_reps rs eg
    exact .inl ⟨l, vs, _, v, rfl, r2.int, SqL.of hl, hv, k v H2 (s1.trans s2) rv⟩
  · obtain ⟨l, vs, rfl, hl, rs⟩ := r1.tup hide_le
    obtain ⟨v, hv, rv⟩ := atI_reps rs eg
    exact .inr ⟨l, vs, _, v, rfl, r2.int, hl, hv, k v H2 (s1.trans s2) rv⟩
  · rename_i ns i
    rw [Option.map_eq_some_iff] at eg
    obtain ⟨n, en, rfl⟩ := eg
    obtain ⟨l, rfl, hl⟩ := r1.scr hide_le
    exact .inl ⟨l, _, i, .int n, rfl, r2.int, hl, atI_map en, k _ H2 (s1.trans s2) (.int n)⟩
  · cases eg
/-- bounds of a slice -/
def tDO (K : PySem.W.Frag) (f : DEnv → Option (Option Int)) : TO := fun σ H Q => ∃ O0 ow ρ, Sl K O0 H σ ρ ow ∧ ∃ o, f ρ = some o ∧ ∀ H', Same H H' → Q o H'
def DO (X : Cx) (e : Option Expr) (f : DEnv → Option (Option Int)) : Prop := PO X e (tDO X.K f)
def oNone : DEnv → Option (Option Int) := fun _ => some none
def oSome (f : DE1) : DEnv → Option (Option Int) := fun ρ => match f ρ with
  | some (.int i) => some (some i)
  | _ => none
theorem PO.imp {e : Option Expr} {t t' : TO} (h : PO X e t) (k : ∀ σ H Q, t' σ H Q → t σ H Q) : PO X e t' := ⟨fun pins s σ H Q I q => h.run pins s σ H Q I (k _ _ _ q)⟩
theorem do_none : DO X none oNone := PO.imp po_none fun σ H Q ⟨O0, ow, ρ, S, o, e, k⟩ => by cases e; exact k H (.refl _)
theorem do_some (h : DE X e f) : DO X (some e) (oSome f) := PO.imp (po_some h) fun σ H Q ⟨O0, ow, ρ, S, o, e, k⟩ => by
  unfold oSome at e
  split at e
  · rename_i i ef
    cases e
    exact ⟨O0, ow, ρ, S, _, ef, fun v H1 s r => by cases r; exact ⟨i, rfl, k H1 s⟩⟩
  · cases e
def cutD {α : Type} (xs : List α) (lo hi : Option Int) : List α := (xs.drop (HT.sIx xs.length 0 lo)).take (HT.sIx xs.length xs.length hi - HT.sIx xs.length 0 lo)
theorem cut_reps {K : PySem.W.Frag} {H : Hp} {vs : List V} {ds : List D} (r : Reps K H vs ds) (lo hi : Option Int) : Reps K H (cutV vs lo hi) (cutD ds lo hi) := by
  unfold cutV cutD
  rw [r.length]
  exact (r.drop _).take _
theorem cut_map (ns : List Int) (lo hi : Option Int) : cutV (ns.map V.int) lo hi = (cutD ns lo hi).map V.int := by
  unfold cutV cutD
  rw [List.length_map, ← List.map_drop, ← List.map_take]
theorem reps_ints {K : PySem.W.Frag} {H : Hp} : ∀ ns : List Int, Reps K H (ns.map V.int) (ns.map D.int)
  | [] => .nil
  | n :: ns => .cons (.int n) (reps_ints ns)
def gSl (x : D) (lo hi : Option Int) : Option D := match x with
  | .lst xs => some (.lst (cutD xs lo hi))
  | .scr ns => some (.lst ((cutD ns lo hi).map D.int))
  | _ => none
def eSl (f : DE1) (l h : DEnv → Option (Option Int)) : DE1 := fun ρ => (f ρ).bind fun x => (l ρ).bind fun a => (h ρ).bind fun b => gSl x a b
theorem df_sl {lo hi : Option Expr} {l h : DEnv → Option (Option Int)} {p2 : Pos} (he : DB X e f) (hl : DO X lo l) (hh : DO X hi h) : DF X (.Subscript e (.Slice lo hi none p2) pos) (eSl f l h) := PE.imp (pe_slice sl_list he hl hh) fun σ H Q ⟨O0, ow, ρ, S, d, e, k⟩ => by
  unfold eSl at e
  simp only [Option.bind_eq_some_iff] at e
  obtain ⟨x, ex, lo', el, hi', eh, eg⟩ := e
  refine ⟨O0, ow, ρ, S, x, ex, fun v H1 s1 r1 => ⟨O0, ow, ρ, S.same s1, lo', el, fun H2 s2 => ⟨O0, ow, ρ, (S.same s1).same s2, hi', eh, fun H3 s3 => ?_⟩⟩⟩
  replace r1 := r1.same (hide_same (s2.trans s3)) (s2.trans s3)
  have s13 := s1.trans (s2.trans s3)
  unfold gSl at eg
  split at eg
  · cases eg
    obtain ⟨a, vs, rfl, ha, rs⟩ := r1.lst hide_le
    exact ⟨a, vs, rfl, SqL.of ha, fun q nq => k q _ (s13.trans (same_upd nq)) (Same.free s13 nq) (.lst upd_same (fresh_reps nq (cut_reps rs lo' hi')))⟩
  · rename_i ns
    cases eg
    obtain ⟨a, rfl, ha⟩ := r1.scr hide_le
    refine ⟨a, _, rfl, ha, fun q nq => k q _ (s13.trans (same_upd nq)) (Same.free s13 nq) (.lst upd_same ?_)⟩
    rw [cut_map]
    exact reps_ints _
  · cases eg
def gSlT (x : D) (lo hi : Option Int) : Option D := match x with
  | .tup xs => some (.tup (cutD xs lo hi))
  | _ => none
end
end DL

set_option maxHeartbeats 4000000
namespace DL
open PySem PySem.Spec PyProof.Rows L2

section
variable {X : Cx} {e a b c : Expr} {es : List Expr} {f g fa fb fc ft : DE1} {fs : DEnv → Option (List D)} {pos p : Pos}
/-! ### lists that one name holds -/
def gApp (i : Nat) (f : DE1) : DS1 := fun ρ => match f ρ, ρ[i]? with
  | some d, some (some (true, .lst ds)) => if ds.length < 1000 then .nx (ρ.set i (some (true, .lst (ds ++ [d])))) else .stuck
  | _, _ => .stuck
theorem ds_app (i : Nat) {x : Str} {p1 apos cpos spos : Pos} (hv : PE X (.Name x p1) (tVar i)) (he : DE X e f)
    (h : PE X (.Name x p1) (tVar i) → PE X e (tDE X.K f) → PS X (.Expr (.Call (.Attribute (.Name x p1) "append" apos) [e] [] cpos) spos) (tDrop (tBM X.K "list" rAppend (tVar i) (tCons (tDE X.K f) tNil)))) :
    DS X (.Expr (.Call (.Attribute (.Name x p1) "append" apos) [e] [] cpos) spos) (gApp i f) := PS.imp (h hv he) fun N σ H ⟨H0, O0, ρ, ⟨s, ow, S, hn⟩, p⟩ => by
  unfold gApp at p
  split at p
  · rename_i d ds ef ei
    split at p
    · rename_i hl
      obtain ⟨o, h1, l, hw, rfl, t⟩ := S.sl i _ ei
      cases t with
      | lst hL rs =>
        rename_i vs
        refine ⟨.ref l, h1, .inl ⟨rfl, _, SqL.of hL⟩, O0, ow, ρ, S, d, ef, fun v H1 s1 r1 => ?_⟩
        have hL1 := s1 _ _ hL
        refine ⟨l, vs, v, rfl, rfl, hL1, small1000 (by rw [rs.length]; omega), p _ _ ⟨fun b u q => ?_, ow, (S.same s1).wr ei hw fun Hh sm => .lst upd_same (((rs.same (hide_same s1)).append (.cons r1 .nil)).same sm), hn⟩⟩
        have := hn i l hw
        rw [upd_ne (fun z => by subst z; rw [this] at q; cases q)]
        exact s1 _ _ (s _ _ q)
    · exact p.elim
  · exact p.elim
def gSetI (i : Nat) (fi f : DE1) : DS1 := fun ρ => match f ρ, fi ρ, ρ[i]? with
  | some d, some (.int k), some (some (true, .lst ds)) => match ixN ds.length k with
    | some j => .nx (ρ.set i (some (true, .lst (ds.set j d))))
    | none => .stuck
  | _, _, _ => .stuck
theorem ds_setI (i : Nat) {x : Str} {p1 spos tpos : Pos} {ie : Expr} {fi : DE1} (hv : PE X (.Name x p1) (tVar i)) (hi : DE X ie fi) (he : DE X e f)
    (h : PS X (.Assign [.Subscript (.Name x p1) ie tpos] e spos) (tAsg (tDE X.K f) (gSub (tVar i) (tDE X.K fi) rSetL))) : DS X (.Assign [.Subscript (.Name x p1) ie tpos] e spos) (gSetI i fi f) := PS.imp h fun N σ H ⟨H0, O0, ρ, ⟨s, ow, S, hn⟩, p⟩ => by
  unfold gSetI at p
  split at p
  · rename_i d k ds ef efi ei
    split at p
    · rename_i j hj
      obtain ⟨o, h1, l, hw, rfl, t⟩ := S.sl i _ ei
      cases t with
      | lst hL rs =>
        rename_i vs
        refine ⟨O0, ow, ρ, S, d, ef, fun v H1 s1 r1 => ⟨.ref l, h1, O0, ow, ρ, S.same s1, _, efi, fun vi H2 s2 r2 => ?_⟩⟩
        cases r2
        have s12 := s1.trans s2
        have hL1 := s12 _ _ hL
        refine ⟨l, vs, k, j, rfl, rfl, hL1, by rw [rs.length]; exact hj, p _ _ ⟨fun b u q => ?_, ow, (S.same s12).wr ei hw fun Hh sm => .lst upd_same (((rs.same (hide_same s12)).set (r1.same (hide_same s2)) j).same sm), hn⟩⟩
        have := hn i l hw
        rw [upd_ne (fun z => by subst z; rw [this] at q; cases q)]
        exact s12 _ _ (s _ _ q)
    · exact p.elim
  · exact p.elim

/-! ### calls of built-ins -/
def CallD (X : Cx) (f : Value) (g : List D → Option D) : Prop := ∃ r, CallR X f r ∧ ∀ (O : Addr → Prop) (H : Hp) (xs : List V) (ds : List D) (d : D) (Q : VK), BVs X.K (hide O H) H xs ds → g ds = some d → (∀ v H', Same H H' → Rep X.K (hide O H') v d → Q v H') →
  (∀ a, O a → ∃ o, H a = some o) → r xs H Q
def CallF (X : Cx) (f : Value) (g : List D → Option D) : Prop := ∃ r, CallR X f r ∧ ∀ (O : Addr → Prop) (H : Hp) (xs : List V) (ds : List D) (d : D) (Q : VK), BVs X.K (hide O H) H xs ds → g ds = some d →
  (∀ a H', Same H H' → H a = none → TopR X.K (hide (fun b => O b ∨ b = a) H') H' a d → Q (.ref a) H') → (∀ a, O a → ∃ o, H a = some o) → r xs H Q
def eCB (g : List D → Option D) (fs : DEnv → Option (List D)) : DE1 := fun ρ => (fs ρ).bind g
theorem tCB_D {v : Value} {g : List D → Option D} (h : CallD X v g) : ∃ r, CallR X v r ∧ ∀ σ H Q, tDE X.K (eCB g fs) σ H Q → tCB r (tDAB X.K fs) σ H Q := by
  obtain ⟨r, c, k⟩ := h
  refine ⟨r, c, fun σ H Q ⟨O0, ow, ρ, S, d, e, q⟩ => ?_⟩
  unfold eCB at e
  simp only [Option.bind_eq_some_iff] at e
  obtain ⟨ds, e1, e⟩ := e
  exact ⟨O0, ow, ρ, S, ds, e1, fun vs H1 s1 r1 => k _ H1 vs ds d Q r1 e (fun v H2 s2 r => q v H2 (s1.trans s2) r) (S.same s1).trk⟩
theorem tCB_F {v : Value} {g : List D → Option D} (h : CallF X v g) : ∃ r, CallR X v r ∧ ∀ σ H Q, tDF X.K (eCB g fs) σ H Q → tCB r (tDAB X.K fs) σ H Q := by
  obtain ⟨r, c, k⟩ := h
  refine ⟨r, c, fun σ H Q ⟨O0, ow, ρ, S, d, e, q⟩ => ?_⟩
  unfold eCB at e
  simp only [Option.bind_eq_some_iff] at e
  obtain ⟨ds, e1, e⟩ := e
  exact ⟨O0, ow, ρ, S, ds, e1, fun vs H1 s1 r1 => k _ H1 vs ds d Q r1 e (fun a H2 s2 n r => q a H2 (s1.trans s2) (Same.free s1 n) r) (S.same s1).trk⟩
theorem de_callB {id : String} {x : Str} {g : List D → Option D} (hc : CallD X (.builtin id) g) (hg : Gl X x) (hm : X.mg x = none) (hv : bootBuiltins x = some (.builtin id)) (ha : DAB X (e :: es) fs) (hn : x ≠ "__name__" := by decide) (hdb : (x == ("__debug__" : Str)) = false := by decide)
    (he : starEach (e :: es) X.env = (false, eval e X.env) :: starEach es X.env := by rfl) (hpl : (backTo pos (starEach es X.env)).any (·.1) = false := by rfl) : DE X (.Call (.Name x p) (e :: es) [] pos) (eCB g fs) := by
  obtain ⟨r, c, k⟩ := tCB_D (fs := fs) hc
  exact PE.imp (pe_callB c hg hm hv ha hn hdb he hpl) k
theorem de_callTy {T : String} {x : Str} {g : List D → Option D} (hc : CallD X (.type T) g) (hg : Gl X x) (hm : X.mg x = none) (hv : bootBuiltins x = some (.type T)) (ha : DAB X (e :: es) fs) (hn : x ≠ "__name__" := by decide) (hdb : (x == ("__debug__" : Str)) = false := by decide)
    (he : starEach (e :: es) X.env = (false, eval e X.env) :: starEach es X.env := by rfl) (hpl : (backTo pos (starEach es X.env)).any (·.1) = false := by rfl) : DE X (.Call (.Name x p) (e :: es) [] pos) (eCB g fs) := by
  obtain ⟨r, c, k⟩ := tCB_D (fs := fs) hc
  exact PE.imp (pe_callTy c hg hm hv ha hn hdb he hpl) k
theorem df_callTy {T : String} {x : Str} {g : List D → Option D} (hc : CallF X (.type T) g) (hg : Gl X x) (hm : X.mg x = none) (hv : bootBuiltins x = some (.type T)) (ha : DAB X (e :: es) fs) (hn : x ≠ "__name__" := by decide) (hdb : (x == ("__debug__" : Str)) = false := by decide)
    (he : starEach (e :: es) X.env = (false, eval e X.env) :: starEach es X.env := by rfl) (hpl : (backTo pos (starEach es X.env)).any (·.1) = false := by rfl) : DF X (.Call (.Name x p) (e :: es) [] pos) (eCB g fs) := by
  obtain ⟨r, c, k⟩ := tCB_F (fs := fs) hc
  exact PE.imp (pe_callTy c hg hm hv ha hn hdb he hpl) k
theorem de_callFun {id : String} {x : Str} {g : List D → Option D} (hc : CallD X (.builtin id) g) (hg : Gl X x) (hm : X.mg x = some (.builtin id)) (ha : DAB X (e :: es) fs)
    (h : ∀ {r} {t : TA}, CallR X (.builtin id) r → PA X (e :: es) t → PE X (.Call (.Name x p) (e :: es) [] pos) (tCB r t)) : DE X (.Call (.Name x p) (e :: es) [] pos) (eCB g fs) := by
  obtain ⟨r, c, k⟩ := tCB_D (fs := fs) hc
  exact PE.imp (h c ha) k
theorem BVs.one {K : PySem.W.Frag} {Hh H : Hp} {vs : List V} {d : D} (h : BVs K Hh H vs [d]) : ∃ v, vs = [v] ∧ BV K Hh H v d := by
  cases h with
  | cons a b => cases b; exact ⟨_, rfl, a⟩
theorem BVs.two {K : PySem.W.Frag} {Hh H : Hp} {vs : List V} {d e : D} (h : BVs K Hh H vs [d, e]) : ∃ v u, vs = [v, u] ∧ BV K Hh H v d ∧ BV K Hh H u e := by
  cases h with
  | cons a b =>
    obtain ⟨u, rfl, r⟩ := b.one
    exact ⟨_, _, rfl, a, r⟩
def gAbs : List D → Option D
  | [.int i] => some (.int (if i < 0 then -i else i))
  | _ => none
theorem cd_abs : CallD X (.builtin "abs") gAbs := ⟨_, call_abs, fun O H xs ds d Q r e k _ => by
  unfold gAbs at e
  split at e
  · rename_i i
    cases e
    obtain ⟨v, rfl, h⟩ := r.one
    cases h.int
    exact ⟨i, rfl, k _ _ (.refl _) (.int _)⟩
  · cases e⟩
def gInt : List D → Option D
  | [.int i] => some (.int i)
  | _ => none
theorem cd_int : CallD X (.type "int") gInt := ⟨_, call_int1, fun O H xs ds d Q r e k _ => by
  unfold gInt at e
  split at e
  · rename_i i
    cases e
    obtain ⟨v, rfl, h⟩ := r.one
    cases h.int
    exact .inl ⟨i, rfl, k _ _ (.refl _) (.int _)⟩
  · cases e⟩
def gGcd : List D → Option D
  | [.int i, .int j] => some (.int (Nat.gcd i.natAbs j.natAbs : Nat))
  | _ => none
theorem cd_gcd : CallD X (.builtin "math.gcd") gGcd := ⟨_, cr_gcd, fun O H xs ds d Q r e k _ => by
  unfold gGcd at e
  split at e
  · rename_i i j
    cases e
    obtain ⟨v, u, rfl, h1, h2⟩ := r.two
    cases h1.int
    cases h2.int
    exact ⟨i, j, rfl, k _ _ (.refl _) (.int _)⟩
  · cases e⟩
def gLen : List D → Option D
  | [.lst xs] => some (.int xs.length)
  | [.tup xs] => some (.int xs.length)
  | [.scr xs] => some (.int xs.length)
  | _ => none
theorem cd_len : CallD X (.builtin "len") gLen := ⟨_, call_len, fun O H xs ds d Q r e k _ => by
  unfold gLen at e
  split at e
  · cases e
    obtain ⟨v, rfl, h⟩ := r.one
    obtain ⟨a, vs, rfl, ha, rs⟩ := h.lst hide_le
    exact ⟨_, _, rfl, .inl ⟨vs, SqL.of ha, rfl⟩, k _ _ (.refl _) (by rw [rs.length]; exact .int _)⟩
  · cases e
    obtain ⟨v, rfl, h⟩ := r.one
    obtain ⟨a, vs, rfl, ha, rs⟩ := h.tup hide_le
    exact ⟨_, _, rfl, .inr ⟨vs, ha, rfl⟩, k _ _ (.refl _) (by rw [rs.length]; exact .int _)⟩
  · cases e
    obtain ⟨v, rfl, h⟩ := r.one
    obtain ⟨a, rfl, ha⟩ := h.scr hide_le
    exact ⟨_, _, rfl, .inl ⟨_, ha, rfl⟩, k _ _ (.refl _) (by rw [List.length_map]; exact .int _)⟩
  · cases e⟩
/-- sums -/
def intsOf : List D → Option (List Int)
  | [] => some []
  | .int i :: ds => (intsOf ds).map (i :: ·)
  | _ => none
theorem intsOf_V {K : PySem.W.Frag} {H : Hp} : ∀ {vs : List V} {ds : List D} {ns : List Int}, Reps K H vs ds → intsOf ds = some ns → vs = ns.map V.int
  | _, _, _, .nil, e => by cases e; rfl
  | _, _, _, .cons (d := d) r s, e => by
    cases d with
    | int i =>
      simp only [intsOf, Option.map_eq_some_iff] at e
      obtain ⟨ns, e, rfl⟩ := e
      cases r
      rw [intsOf_V s e]
      rfl
    | _ => simp [intsOf] at e
def blsOf : List D → Option (List Bool)
  | [] => some []
  | .bl i :: ds => (blsOf ds).map (i :: ·)
  | _ => none
theorem blsOf_V {K : PySem.W.Frag} {H : Hp} : ∀ {vs : List V} {ds : List D} {ns : List Bool}, Reps K H vs ds → blsOf ds = some ns → vs = ns.map V.bl
  | _, _, _, .nil, e => by cases e; rfl
  | _, _, _, .cons (d := d) r s, e => by
    cases d with
    | bl i =>
      simp only [blsOf, Option.map_eq_some_iff] at e
      obtain ⟨ns, e, rfl⟩ := e
      cases r
      rw [blsOf_V s e]
      rfl
    | _ => simp [blsOf] at e
theorem preSumT (xs : Array (Int × Tok)) (ns : List Int) (h : PyProof.Rows.IntsAre (intItems xs).toList ns) : preSum (numAt xs) xs.size = ns.sum := by
  have hn := h.numsOf
  rw [nums_intItems] at hn
  rw [preSum_eq, List.take_of_length_le (by simp), hn]
theorem cr_sumT (hc : X.calm = true) : CallR X (.builtin "sum") (fun vs H Q => ∃ (a : Addr) (ns : List Int), vs = [V.ref a] ∧ SqT X.K H a (ns.map V.int) ∧ Q (.int ns.sum) H) := by
  intro pins s σ H vs us Q I r h
  obtain ⟨a, ns, rfl, hs, q⟩ := h
  obtain ⟨its, rv, ht, _⟩ := I.tuple hs
  rw [Vals.ref1 r]
  have hi := rv.ints
  obtain ⟨xs, hx⟩ := hi.allInts.items
  rw [hx] at ht
  have hi2 : PyProof.Rows.IntsAre (intItems xs).toList ns := by rw [← hx]; exact hi
  refine PySem.W.ktm_sumG (I.ok.hd hc) ht fun h' tk t' hk => ?_
  rw [preSumT xs ns hi2]
  exact ⟨.int _, H, I.kept hk, ⟨_, rfl⟩, q⟩
def gSum : List D → Option D
  | [.lst xs] => (intsOf xs).map fun ns => .int ns.sum
  | [.tup xs] => (intsOf xs).map fun ns => .int ns.sum
  | _ => none
theorem CallR.or2 {f : Value} {r r' : List V → Hp → VK → Prop} (h : CallR X f r) (h' : CallR X f r') : CallR X f (fun xs H Q => r xs H Q ∨ r' xs H Q) := CallR.or h h'
theorem cd_sum (hc : X.calm = true) : CallD X (.builtin "sum") gSum := ⟨_, (cr_sum hc).or (cr_sumT hc), fun O H xs ds d Q r e k _ => by
  unfold gSum at e
  split at e
  · rw [Option.map_eq_some_iff] at e
    obtain ⟨ns, e1, rfl⟩ := e
    obtain ⟨v, rfl, h⟩ := r.one
    obtain ⟨a, vs, rfl, ha, rs⟩ := h.lst hide_le
    have := intsOf_V rs e1
    subst this
    exact .inl ⟨a, ns, rfl, SqL.of ha, k _ _ (.refl _) (.int _)⟩
  · rw [Option.map_eq_some_iff] at e
    obtain ⟨ns, e1, rfl⟩ := e
    obtain ⟨v, rfl, h⟩ := r.one
    obtain ⟨a, vs, rfl, ha, rs⟩ := h.tup hide_le
    have := intsOf_V rs e1
    subst this
    exact .inr ⟨a, ns, rfl, ha, k _ _ (.refl _) (.int _)⟩
  · cases e⟩
def gAll : List D → Option D
  | [.lst xs] => (blsOf xs).map fun bs => .bl (bs.all id)
  | _ => none
def gAny : List D → Option D
  | [.lst xs] => (blsOf xs).map fun bs => .bl (bs.any id)
  | _ => none
theorem cd_all (hc : X.calm = true) : CallD X (.builtin "all") gAll := ⟨_, cr_all hc, fun O H xs ds d Q r e k _ => by
  unfold gAll at e
  split at e
  · rw [Option.map_eq_some_iff] at e
    obtain ⟨ns, e1, rfl⟩ := e
    obtain ⟨v, rfl, h⟩ := r.one
    obtain ⟨a, vs, rfl, ha, rs⟩ := h.lst hide_le
    have := blsOf_V rs e1
    subst this
    exact ⟨a, ns, rfl, SqL.of ha, k _ _ (.refl _) (.bl _)⟩
  · cases e⟩
theorem cd_any (hc : X.calm = true) : CallD X (.builtin "any") gAny := ⟨_, cr_any hc, fun O H xs ds d Q r e k _ => by
  unfold gAny at e
  split at e
  · rw [Option.map_eq_some_iff] at e
    obtain ⟨ns, e1, rfl⟩ := e
    obtain ⟨v, rfl, h⟩ := r.one
    obtain ⟨a, vs, rfl, ha, rs⟩ := h.lst hide_le
    have := blsOf_V rs e1
    subst this
    exact ⟨a, ns, rfl, SqL.of ha, k _ _ (.refl _) (.bl _)⟩
  · cases e⟩
def gTupOf : List D → Option D
  | [.lst xs] => some (.tup xs)
  | [.tup xs] => some (.tup xs)
  | _ => none
theorem cd_tuple : CallD X (.type "tuple") gTupOf := ⟨_, call_tuple_of, fun O H xs ds d Q r e k t => by
  unfold gTupOf at e
  split at e
  · cases e
    obtain ⟨v, rfl, h⟩ := r.one
    obtain ⟨a, vs, rfl, ha, rs⟩ := h.lst hide_le
    exact ⟨a, vs, rfl, .inl ⟨SqL.of ha, fun l nl => k _ _ (same_upd nl) (.tup (SqT.of (hide_some.mpr ⟨new_rep (K := X.K) t nl, upd_same⟩)) (rs.same (hide_same (same_upd nl))))⟩⟩
  · cases e
    obtain ⟨v, rfl, h⟩ := r.one
    obtain ⟨a, vs, rfl, ha, rs⟩ := h.tup hide_le
    refine ⟨a, vs, rfl, .inr ⟨ha, k _ _ (.refl _) ?_⟩⟩
    rcases h with h | ⟨_, _, h⟩
    · exact h
    · cases h
  · cases e⟩
def gListOf : List D → Option D
  | [.lst xs] => some (.lst xs)
  | [.tup xs] => some (.lst xs)
  | _ => none
theorem cf_list : CallF X (.type "list") gListOf := ⟨_, call_list_of, fun O H xs ds d Q r e k t => by
  unfold gListOf at e
  split at e
  · cases e
    obtain ⟨v, rfl, h⟩ := r.one
    obtain ⟨a, vs, rfl, ha, rs⟩ := h.lst hide_le
    exact ⟨a, vs, rfl, .inl (SqL.of ha), fun l nl => k _ _ (same_upd nl) nl (.lst upd_same (fresh_reps nl rs))⟩
  · cases e
    obtain ⟨v, rfl, h⟩ := r.one
    obtain ⟨a, vs, rfl, ha, rs⟩ := h.tup hide_le
    exact ⟨a, vs, rfl, .inr ha, fun l nl => k _ _ (same_upd nl) nl (.lst upd_same (fresh_reps nl rs))⟩
  · cases e⟩
/-- list(range(n)) -/
def eLr (f : DE1) : DE1 := fun ρ => match f ρ with
  | some (.int n) => if rngOk 0 n then some (.lst (rngD 0 n)) else none
  | _ => none
def eLr2 (f g : DE1) : DE1 := fun ρ => match f ρ, g ρ with
  | some (.int m), some (.int n) => if rngOk m n then some (.lst (rngD m n)) else none
  | _, _ => none
theorem reps_rng {K : PySem.W.Frag} {H : Hp} (a b : Int) : Reps K H (rgV a b) (rngD a b) := by
  unfold rgV rngD
  generalize (b - a).toNat = n
  have : ∀ l : List Nat, Reps K H (l.map fun i => V.int (a + (i : Nat))) (l.map fun i => D.int (a + (i : Nat))) := fun l => by
    induction l with
    | nil => exact .nil
    | cons x l ih => exact .cons (.int _) ih
  exact this _
theorem df_listRg {p1 pos1 p2 pos2 : Pos} (hc : X.calm = true) (hg : Gl X "list") (hm : X.mg "list" = none) (hg2 : Gl X "range") (hm2 : X.mg "range" = none) (h : DE X e f)
    (na : starEach [.Call (.Name "range" p2) [e] [] pos2] X.env = (false, eval (.Call (.Name "range" p2) [e] [] pos2) X.env) :: starEach [] X.env := by rfl) (na2 : starEach [e] X.env = (false, eval e X.env) :: starEach [] X.env := by rfl) :
    DF X (.Call (.Name "list" p1) [.Call (.Name "range" p2) [e] [] pos2] [] pos1) (eLr f) := PE.imp (pe_listRg hc hg hm (prg_1 hg2 hm2 h na2) na) fun σ H Q ⟨O0, ow, ρ, S, d, e, k⟩ => by
  unfold eLr at e
  split at e
  · rename_i n ef
    split at e
    · rename_i hr
      cases e
      have hb := of_decide_eq_true hr
      refine ⟨O0, ow, ρ, S, _, ef, fun v H1 s1 r => ⟨n, (by cases r; rfl), (by unfold RgOk; omega), fun q nq => k q _ (s1.trans (same_upd nq)) (Same.free s1 nq) (.lst upd_same (reps_rng 0 n))⟩⟩
    · cases e
  · cases e
end
end DL

set_option maxHeartbeats 4000000
namespace DL
open PySem PySem.Spec PyProof.Rows L2

/-! ### defs -/
def spD (K : PySem.W.Frag) (n : Nat) (F : List D → Option D) : Sp := fun vs H Q _ => vs.length = n ∧ ∃ (O0 : Addr → Prop) (ds : List D), (∀ a, O0 a → ∃ o, H a = some o) ∧ Reps K (hide O0 H) vs ds ∧ ∃ d, F ds = some d ∧ ∀ v H', Same H H' → Rep K (hide O0 H') v d → Q v H'
def startD (m : Nat) (ds : List D) : DEnv := ds.map (fun d => some (false, d)) ++ List.replicate (m - ds.length) none
/-- what a body gives back -/
def backD : Fl → Option D
  | .rt d => some d
  | .nx _ => some .non
  | _ => none
def mkF (m : Nat) (g : DS1) : List D → Option D := fun ds => backD (g (startD m ds))
theorem start_sl {K : PySem.W.Frag} {O0 : Addr → Prop} {H : Hp} {N : List Str} {vs : List V} {ds : List D} (t : ∀ a, O0 a → ∃ o, H a = some o) (r : Reps K (hide O0 H) vs ds) : Sl K O0 H (L2.start N vs) (startD N.length ds) fun _ => none := by
  have hh : ∀ a, hid O0 (fun _ => none) a → O0 a := fun a z => z.elim (fun z => z) fun ⟨_, z⟩ => by cases z
  refine ⟨(by simp [L2.start, startD, r.length]), fun i j a z => (by cases z), fun i a z => (by cases z), fun a z => t a (hh a z), fun i s h => ?_⟩
  unfold startD at h
  unfold L2.start
  have hl := r.length
  by_cases hi : i < ds.length
  · rw [List.getElem?_append_left (by simpa using hi), List.getElem?_map] at h
    obtain ⟨d, hd⟩ : ∃ d, ds[i]? = some d := ⟨_, List.getElem?_eq_getElem hi⟩
    rw [hd] at h
    cases h
    obtain ⟨v, hv, rv⟩ := r.get hd
    refine ⟨some v, by rw [List.getElem?_append_left (by simp; omega), List.getElem?_map, hv]; rfl, v, rfl, rv.same (hide_sub hh)⟩
  · rw [List.getElem?_append_right (by simp; omega)] at h
    simp only [List.length_map] at h
    have h2 := List.getElem?_eq_some_iff.mp h
    obtain ⟨h2, h3⟩ := h2
    simp only [List.length_replicate] at h2
    simp only [List.getElem_replicate] at h3
    subst h3
    refine ⟨none, ?_, trivial⟩
    rw [List.getElem?_append_right (by simp; omega), List.getElem?_eq_getElem (by simp; omega)]
    simp
section
variable {P : Program} {w : World} {K : PySem.W.Frag} {mg : Str → Option Value} {base : Heap}
theorem def_ok {x qual : Str} {st : Stmt} {f : Addr} {fd : FuncData} {N ps : List Str} {k : Nat} {g : DS1} (F : Fun K x qual st f fd) (S : FnScope N ps (defScope st))
    (h : ∀ (cdv : Value) (A : Around) (outer : List Env) (s : Shared) (H : Hp) (E : XK), Room k (A.deeper (envOfC qual (defScope st) s.heap.objs.size f cdv)) → DSs (cxOf CX0 P w K mg base N qual (defScope st) f cdv A outer s H E).nox (defBody st) g) :
    FnOk P w K mg base CX0 (k + 1) f fd ps (spD K ps.length (mkF N.length g)) := by
  refine F.ok S (fun vs H Q E h => h.1) (fun cdv A outer s H vs Q E hr h' => ?_)
  refine ⟨_, h cdv A outer s H E hr, ?_⟩
  obtain ⟨hn, O0, ds, t, r, d, e, q⟩ := h'
  refine ⟨H, O0, _, ⟨.refl _, _, start_sl t r, fun i a z => (by cases z)⟩, ?_⟩
  unfold mkF at e
  cases eg : g (startD N.length ds) with
  | rt d' => rw [eg] at e; cases e; exact q
  | nx ρ => rw [eg] at e; cases e; exact fun σ H' S' => q .non H' S'.1 .non
  | bk ρ => rw [eg] at e; cases e
  | ct ρ => rw [eg] at e; cases e
  | stuck => rw [eg] at e; cases e
end
section
variable {X : Cx} {e a b : Expr} {es : List Expr} {f fa fb : DE1} {fs : DEnv → Option (List D)} {pos p : Pos}
/-! ### calls of defs -/
def eCall (n : Nat) (F : List D → Option D) (fs : DEnv → Option (List D)) : DE1 := fun ρ => (fs ρ).bind fun ds => if ds.length = n then F ds else none
theorem tCall_D {n : Nat} {F : List D → Option D} {E : XK} : ∀ σ H Q, tDE X.K (eCall n F fs) σ H Q → tCall (spD X.K n F) [] E (tDA X.K fs) σ H Q := fun σ H Q ⟨O0, ow, ρ, S, d, e, k⟩ => by
  unfold eCall at e
  simp only [Option.bind_eq_some_iff] at e
  obtain ⟨ds, e1, e⟩ := e
  split at e
  · rename_i hl
    refine ⟨O0, ow, ρ, S, ds, e1, fun vs H1 s1 r1 => ⟨by rw [List.append_nil, r1.length]; exact hl, hid O0 ow, ds, (S.same s1).trk, by rw [List.append_nil]; exact r1, d, e, fun v H2 s2 r => k v H2 (s1.trans s2) r⟩⟩
  · cases e
theorem de_call {fa : Addr} {fd : FuncData} {ps : List Str} {k n : Nat} {x : Str} {F : List D → Option D} (Fk : FnOk X.prog X.w X.K X.mg X.base CX0 k fa fd ps (spD X.K n F)) (hr : Room k X.A) (hg : Gl X x) (hm : X.mg x = some (.ref fa)) (hk : PySem.W.keepIn X.K (.ref fa) = true) (hb : Binds X.K fd ps [])
    (ha : DA X (e :: es) fs) (hdb : (x == ("__debug__" : Str)) = false := by decide) (he : starEach (e :: es) X.env = (false, eval e X.env) :: starEach es X.env := by rfl) (hpl : (backTo pos (starEach es X.env)).any (·.1) = false := by rfl) :
    DE X (.Call (.Name x p) (e :: es) [] pos) (eCall n F fs) := PE.imp (pe_call Fk hr hg hm hk hb .nil pass0 ha hdb he hpl) tCall_D

/-! ### two names at once -/
def gPar (i j : Nat) (fs : DEnv → Option (List D)) : DS1 := fun ρ => match fs ρ with
  | some [x, y] => .nx ((ρ.set i (some (false, x))).set j (some (false, y)))
  | _ => .stuck
theorem ds_par (i j : Nat) {x y : Str} {px py pt : Pos} {kt k2 pt2} (hc : X.calm = true) (hN : X.N.Nodup) (ha : DA X [a, b] fs) (hi : X.N[i]? = some x := by rfl) (hj : X.N[j]? = some y := by rfl) (hij : i ≠ j := by decide)
    (hx : X.env.scope.names.lookup x = some .local := by rfl) (hy : X.env.scope.names.lookup y = some .local := by rfl)
    (hw : swappedStores [.Tuple [.Name x px, .Name y py] kt pt] (.Tuple [a, b] k2 pt2) X.env = pure (some [x, y]) := by rfl)
    (hs : swapsWithSole [.Tuple [.Name x px, .Name y py] kt pt] (.Tuple [a, b] k2 pt2) pos.line X.env = pure false := by rfl) :
    DS X (.Assign [.Tuple [.Name x px, .Name y py] kt pt] (.Tuple [a, b] k2 pt2) pos) (gPar i j fs) := PS.imp (ps_par hc hN hi hj hij hx hy ha hw hs) fun N σ H ⟨H0, O0, ρ, ⟨s, ow, S, h⟩, p⟩ => by
  unfold gPar at p
  split at p
  · rename_i d1 d2 ef
    refine ⟨O0, ow, ρ, S, _, ef, fun vs H1 s1 r1 => ?_⟩
    cases r1 with
    | cons r1 r2 =>
      cases r2 with
      | cons r2 r3 =>
        cases r3
        exact ⟨_, _, rfl, p _ H1 ⟨s.trans s1, ow, ((S.same s1).set r1).set r2, h⟩⟩
  · exact p.elim
def gParF (i j : Nat) (f g : DE1) : DS1 := fun ρ => match f ρ, g ρ with
  | some x, some y => .nx ((ρ.set i (some (true, x))).set j (some (true, y)))
  | _, _ => .stuck
theorem ds_parF (i j : Nat) {x y : Str} {px py pt : Pos} {kt k2 pt2} (hc : X.calm = true) (hN : X.N.Nodup) (ha : DF X a fa) (hb : DF X b fb) (hs1 : starEach [a, b] X.env = (false, eval a X.env) :: starEach [b] X.env := by rfl) (hs2 : starEach [b] X.env = (false, eval b X.env) :: starEach [] X.env := by rfl)
    (hi : X.N[i]? = some x := by rfl) (hj : X.N[j]? = some y := by rfl) (hij : i ≠ j := by decide)
    (hx : X.env.scope.names.lookup x = some .local := by rfl) (hy : X.env.scope.names.lookup y = some .local := by rfl)
    (hw : swappedStores [.Tuple [.Name x px, .Name y py] kt pt] (.Tuple [a, b] k2 pt2) X.env = pure (some [x, y]) := by rfl)
    (hs : swapsWithSole [.Tuple [.Name x px, .Name y py] kt pt] (.Tuple [a, b] k2 pt2) pos.line X.env = pure false := by rfl) :
    DS X (.Assign [.Tuple [.Name x px, .Name y py] kt pt] (.Tuple [a, b] k2 pt2) pos) (gParF i j fa fb) := PS.imp (ps_par hc hN hi hj hij hx hy (pa_cons ha (pa_cons hb pa_nil hs2) hs1) hw hs) fun N σ H ⟨H0, O0, ρ, ⟨s, ow, S, h⟩, p⟩ => by
  unfold gParF at p
  split at p
  · rename_i d1 d2 ef1 ef2
    refine ⟨O0, ow, ρ, S, _, ef1, fun a1 H1 s1 n1 t1 => ?_⟩
    obtain ⟨o1, ho1⟩ := t1.some
    refine ⟨fun b => O0 b ∨ b = a1, ow, ρ, S.more s1 n1 ⟨o1, ho1⟩, _, ef2, fun a2 H2 s2 n2 t2 => ⟨_, _, rfl, p _ H2 ?_⟩⟩
    have S1 := S.setF (i := i) s1 n1 t1
    have sub : ∀ b, hid O0 (owSet ow i (some a1)) b ∨ b = a2 → hid (fun b => O0 b ∨ b = a1) ow b ∨ b = a2 := fun b z => by
      rcases z with (z | ⟨j, z⟩) | z
      · exact .inl (.inl (.inl z))
      · unfold owSet at z
        split at z
        · cases z; exact .inl (.inl (.inr rfl))
        · exact .inl (.inr ⟨j, z⟩)
      · exact .inr z
    refine ⟨s.trans (s1.trans s2), _, S1.setF (i := j) s2 n2 (t2.same (hide_sub sub) rfl), fun l b q => ?_⟩
    unfold owSet at q
    split at q
    · cases q; exact Same.free (s.trans s1) n2
    · split at q
      · cases q; exact Same.free s n1
      · exact h l b q
  · exact p.elim

/-! ### instances -/
def eFld (C : Addr) (x : Str) (f : DE1) : DE1 := fun ρ => match f ρ with
  | some (.ins C' fs) => if C' = C then fs.lookup x else none
  | _ => none
theorem de_fld {x : Str} (C : Addr) (c : Cls X.K C) (n : NoAttr X.K C x) (he : DE X e f) (hb : attributeBase e x X.env (eval e X.env) = eval e X.env := by rfl) : DE X (.Attribute e x pos) (eFld C x f) := PE.imp (pe_fld he hb) fun σ H Q ⟨O0, ow, ρ, S, d, e, k⟩ => by
  unfold eFld at e
  split at e
  · rename_i C' fs ef
    split at e
    · rename_i hC
      subst hC
      refine ⟨O0, ow, ρ, S, _, ef, fun v H1 s1 r1 => ?_⟩
      cases r1 with
      | ins hI rf =>
        obtain ⟨v, hv, rv⟩ := rf.lookup e
        exact ⟨_, _, _, _, v, rfl, hide_le _ _ hI, c, n, hv, k v H1 s1 rv⟩
    · cases e
  · cases e
/-- a property -/
def eProp (C : Addr) (F : List D → Option D) (f : DE1) : DE1 := fun ρ => match f ρ with
  | some (.ins C' fs) => if C' = C then F [.ins C' fs] else none
  | _ => none
theorem de_prop {x : Str} {C pa g : Addr} {fd : FuncData} {ps : List Str} {k : Nat} {F : List D → Option D} (c : Cls X.K C) (hp : PropOf X.K C x pa g) (Fk : FnOk X.prog X.w X.K X.mg X.base CX0 k g fd ps (spD X.K 1 F)) (hr : Room (k + 1) X.A) (hb : Binds X.K fd ps []) (he : DE X e f)
    (hab : attributeBase e x X.env (eval e X.env) = eval e X.env := by rfl) : DE X (.Attribute e x pos) (eProp C F f) := PE.imp (pe_prop he c hp Fk hr hb .nil pass0 hab) fun σ H Q ⟨O0, ow, ρ, S, d, e, q⟩ => by
  unfold eProp at e
  split at e
  · rename_i C' fs ef
    split at e
    · rename_i hC
      subst hC
      refine ⟨O0, ow, ρ, S, _, ef, fun v H1 s1 r1 => ?_⟩
      have r1' := r1
      cases r1 with
      | ins hI rf =>
        exact ⟨_, _, _, rfl, hide_le _ _ hI, rfl, hid O0 ow, _, (S.same s1).trk, .cons r1' .nil, d, e, fun v H2 s2 r => q v H2 (s1.trans s2) r⟩
    · cases e
  · cases e
/-- len of an instance -/
theorem call_len_own {C g : Addr} {fd : FuncData} {ps : List Str} {k : Nat} {F : List D → Option D} (c : Cls X.K C) (hm : Meth X.K C "__len__" g) (Fk : FnOk X.prog X.w X.K X.mg X.base CX0 k g fd ps (spD X.K 1 F)) (hr : Room (k + 1) X.A) (hb : Binds X.K fd ps []) :
    CallR X (.builtin "len") (fun xs H Q => ∃ a dx fs, xs = [.ref a] ∧ H a = some (.ins C dx fs) ∧ ∃ n : Int, 0 ≤ n ∧ n < 2 ^ 63 ∧ spD X.K 1 F [.ref a] H (fun v H' => v = .int n ∧ Q v H') E0) := by
  intro pins s σ H xs us Q I r h
  obtain ⟨a, dx, fs, rfl, ea, n, h0, h1, h⟩ := h
  rw [Vals.ref1 r]
  obtain ⟨mA, O, _, _, _, _⟩ := ins_get I.hok ea
  obtain ⟨od, J, _⟩ := O.look
  obtain ⟨m, Fm⟩ := I.fr
  refine PySem.W.len_K Fm I.mod.kin J hm.at_ hm.fn (wpAny_call ?_)
  have hl : ([Value.ref a] ++ ([] : List Value)).length = ps.length := by rw [← Fk.len _ _ _ _ h]; rfl
  refine codeAny_mono (Fk.run X.A.in1 X.stack s H ⟨[.ref a], []⟩ ([Value.ref a] ++ ([] : List Value)) [.ref a] _ E0 hr.in1 I.env0.in1 (hb _ [.ref a] I.kIn hl) (show Vals [V.ref a] [Value.ref a] from .cons rfl .nil) h) fun r s' hq => ?_
  cases r with
  | error er => exact pass0 (X := X) pins σ H s er s' I hq
  | ok fl =>
    cases fl with
    | ret u =>
      obtain ⟨v, H', I3, rv, rfl, q3⟩ := I.after hq
      obtain ⟨t, rfl⟩ := rv
      exact ⟨⟨h0, h1⟩, .int n, H', I3.tok _, ⟨_, rfl⟩, q3⟩
    | next => exact False.elim hq
    | brk => exact False.elim hq
    | cont => exact False.elim hq
def gLenO (C : Addr) (F : List D → Option D) : List D → Option D
  | [.ins C' fs] => if C' = C then (match F [.ins C' fs] with
    | some (.int n) => if 0 ≤ n ∧ n < 2 ^ 63 then some (.int n) else none
    | _ => none) else none
  | _ => none
theorem cd_lenO {C g : Addr} {fd : FuncData} {ps : List Str} {k : Nat} {F : List D → Option D} (c : Cls X.K C) (hm : Meth X.K C "__len__" g) (Fk : FnOk X.prog X.w X.K X.mg X.base CX0 k g fd ps (spD X.K 1 F)) (hr : Room (k + 1) X.A) (hb : Binds X.K fd ps []) :
    CallD X (.builtin "len") (gLenO C F) := ⟨_, call_len_own c hm Fk hr hb, fun O H xs ds d Q r e q t => by
  unfold gLenO at e
  split at e
  · rename_i C' fs
    split at e
    · rename_i hC
      subst hC
      split at e
      · rename_i n en
        split at e
        · rename_i hn
          cases e
          obtain ⟨v, rfl, h⟩ := r.one
          have hh : Rep X.K (hide O H) v (.ins C' fs) := by
            rcases h with h | ⟨_, _, h⟩
            · exact h
            · cases h
          obtain ⟨a, dx, vs, rfl, ha, rf⟩ := h.ins hide_le
          exact ⟨a, dx, vs, rfl, ha, n, hn.1, hn.2, rfl, O, _, t, .cons hh .nil, _, en, fun v H' s r => by cases r; exact ⟨rfl, q _ H' s (.int n)⟩⟩
        · cases e
      · cases e
    · cases e
  · cases e⟩
theorem CallD.or {v : Value} {g g' : List D → Option D} (h : CallD X v g) (h' : CallD X v g') : CallD X v (fun x => (g x).or (g' x)) := by
  obtain ⟨r, o, k⟩ := h
  obtain ⟨r', o', k'⟩ := h'
  refine ⟨_, CallR.or2 o o', fun O H xs ds d Q hx e c t => ?_⟩
  replace e : (g ds).or (g' ds) = some d := e
  cases eg : g ds with
  | some z => rw [eg] at e; cases e; exact .inl (k O H xs ds _ Q hx eg c t)
  | none => rw [eg] at e; exact .inr (k' O H xs ds d Q hx (by simpa using e) c t)
/-! ### isinstance -/
def tyName : D → Option String
  | .non => some "NoneType"
  | .bl _ => some "bool"
  | .int _ => some "int"
  | .str _ => some "str"
  | .tup _ => some "tuple"
  | .lst _ => some "list"
  | .scr _ => some "list"
  | _ => none
theorem tyX_of {K : PySem.W.Frag} {Hh H : Hp} {v : V} {d : D} {n : String} (h : BV K Hh H v d) (s : Same Hh H) (e : tyName d = some n) : TyX K H v (.type n) := by
  rcases h with h | ⟨a, rfl, t⟩
  · cases h with
    | non => cases e; exact .base .non
    | bl b => cases e; exact .base (.bl b)
    | int b => cases e; exact .base (.int b)
    | str b => cases e; exact .base (.str b)
    | tup q r =>
      cases e
      rcases q with (q | ⟨o, q⟩) | ⟨o, its, m, q1, q2, _⟩
      · exact .base (.tup (s _ _ q))
      · exact .fTuple (s _ _ q)
      · exact .kTuple q1 q2
    | lst q r => cases e; exact .base (.lst (s _ _ q))
    | scr q =>
      cases e
      rcases q with (q | ⟨o, q⟩) | ⟨o, its, m, q1, q2, _⟩
      · exact .base (.lst (s _ _ q))
      · exact .base (.frz (s _ _ q))
      · exact .kList q1 q2
    | ins q r => cases e
    | new q r => cases e
  · cases t with
    | lst q r => cases e; exact .base (.lst q)
    | new q r => cases e
def gIsi (n : String) (d : D) : Option D := (tyName d).bind fun m => (kitB m n).map .bl
def eIsi (n : String) (f : DE1) : DE1 := fun ρ => (f ρ).bind (gIsi n)
theorem de_isi {T : String} {x y : Str} {p2 : Pos} (hg : Gl X x) (hm : X.mg x = none) (hv : bootBuiltins x = some (.builtin "isinstance")) (ha : DB X e f) (hT : PE X (.Name y p2) (tC (.ty T))) (hn : x ≠ "__name__" := by decide) (hdb : (x == ("__debug__" : Str)) = false := by decide)
    (he : starEach [e, .Name y p2] X.env = (false, eval e X.env) :: starEach [.Name y p2] X.env := by rfl) (he2 : starEach [.Name y p2] X.env = (false, eval (.Name y p2) X.env) :: starEach [] X.env := by rfl) (hpl : (backTo pos (starEach [.Name y p2] X.env)).any (·.1) = false := by rfl) :
    DE X (.Call (.Name x p) [e, .Name y p2] [] pos) (eIsi T f) := PE.imp (pe_callB call_isi hg hm hv (pa_cons ha (pa_cons hT pa_nil he2) he) hn hdb he hpl) fun σ H Q ⟨O0, ow, ρ, S, d, e, k⟩ => by
  unfold eIsi gIsi at e
  simp only [Option.bind_eq_some_iff, Option.map_eq_some_iff] at e
  obtain ⟨z, ez, m, em, b, eb, rfl⟩ := e
  refine ⟨O0, ow, ρ, S, z, ez, fun v H1 s1 r1 => ⟨v, .ty T, _, _, b, rfl, .ty T, tyX_of r1 hide_le em, kit_ty eb, k _ H1 s1 (.bl b)⟩⟩
/-- isinstance(o, C) of an instance of C itself -/
def eIsC (C : Addr) (f : DE1) : DE1 := fun ρ => match f ρ with
  | some (.ins C' _) => if C' = C then some (.bl true) else none
  | _ => none
theorem de_isC {C : Addr} {x y : Str} {p2 : Pos} (cl : Cls X.K C) (h1 : PySem.W.findIn X.K (.ref C) "__class__" = some (some (.builtin "object.__class__"))) (h2 : PySem.W.specialIn X.K (.builtin "object.__class__") "__get__" = some (some (.builtin "getset_descriptor.__get__"))) (h3 : PySem.W.takesIn X.K (.builtin "object.__class__") = some true)
    (h4 : PySem.W.mroIn X.K C (.type "object") = some true) (h5 : PySem.W.kitOne X.K (.ref C) (.ref C) = some true)
    (hg : Gl X x) (hm : X.mg x = none) (hv : bootBuiltins x = some (.builtin "isinstance")) (ha : DE X e f) (hT : PE X (.Name y p2) (tC (.ref C))) (hn : x ≠ "__name__" := by decide) (hdb : (x == ("__debug__" : Str)) = false := by decide)
    (he : starEach [e, .Name y p2] X.env = (false, eval e X.env) :: starEach [.Name y p2] X.env := by rfl) (he2 : starEach [.Name y p2] X.env = (false, eval (.Name y p2) X.env) :: starEach [] X.env := by rfl) (hpl : (backTo pos (starEach [.Name y p2] X.env)).any (·.1) = false := by rfl) :
    DE X (.Call (.Name x p) [e, .Name y p2] [] pos) (eIsC C f) := PE.imp (pe_callB call_isi hg hm hv (pa_cons ha (pa_cons hT pa_nil he2) he) hn hdb he hpl) fun σ H Q ⟨O0, ow, ρ, S, d, e, k⟩ => by
  unfold eIsC at e
  split at e
  · rename_i C' fs ef
    split at e
    · rename_i hC
      subst hC
      cases e
      refine ⟨O0, ow, ρ, S, _, ef, fun v H1 s1 r1 => ?_⟩
      cases r1 with
      | ins hI rf => exact ⟨_, .ref C', _, _, true, rfl, .own C', .base (.ins (hide_le _ _ hI) cl h1 h2 h3 h4), h5, k _ H1 s1 (.bl true)⟩
    · cases e
  · cases e
end
end DL

set_option maxHeartbeats 4000000
namespace DL
open PySem PySem.Spec PyProof.Rows L2

/-! ### instances made -/
def putD (x : Str) (d : D) : List (Str × D) → List (Str × D)
  | [] => [(x, d)]
  | (g, y) :: r => if g = x then (g, d) :: r else (g, y) :: putD x d r
theorem RepF.put {K : PySem.W.Frag} {H : Hp} {x : Str} {v : V} {d : D} (r : Rep K H v d) : ∀ {fs : List (Str × V)} {ds : List (Str × D)}, RepF K H fs ds → RepF K H (putF x v fs) (putD x d ds)
  | _, _, .nil => .cons r .nil
  | _, _, .cons (x := g) q t => by
    unfold putF putD
    by_cases h : g = x
    · rw [if_pos h, if_pos h]; exact .cons r t
    · rw [if_neg h, if_neg h]; exact .cons q (RepF.put r t)
theorem RepF.length {K : PySem.W.Frag} {H : Hp} : ∀ {fs : List (Str × V)} {ds : List (Str × D)}, RepF K H fs ds → fs.length = ds.length
  | _, _, .nil => rfl
  | _, _, .cons _ r => by simp [RepF.length r]
section
variable {X : Cx} {e a b : Expr} {es : List Expr} {f fa fb : DE1} {fs : DEnv → Option (List D)} {pos p : Pos}
def gFld (i : Nat) (C : Addr) (x : Str) (f : DE1) : DS1 := fun ρ => match f ρ, ρ[i]? with
  | some d, some (some (true, .new C' a dx fs)) => if C' = C ∧ fs.length < 900 then .nx (ρ.set i (some (true, .new C' a dx (putD x d fs)))) else .stuck
  | _, _ => .stuck
theorem ds_fld (i : Nat) {y x : Str} {p1 pos' : Pos} (C : Addr) (c : Cls X.K C) (n : NoAttr X.K C x) (hv : PE X (.Name y p1) (tVar i)) (he : DE X e f) (hs : swapsWith e (some (.Attribute (.Name y p1) x pos')) pos.line X.env = pure false := by rfl) :
    DS X (.Assign [.Attribute (.Name y p1) x pos'] e pos) (gFld i C x f) := PS.imp (ps_fld hv he hs) fun N σ H ⟨H0, O0, ρ, ⟨s, ow, S, hn⟩, p⟩ => by
  unfold gFld at p
  split at p
  · rename_i d C' a' dx fs ef ei
    split at p
    · rename_i hC
      obtain ⟨rfl, hl⟩ := hC
      obtain ⟨o, h1, l, hw, rfl, t⟩ := S.sl i _ ei
      cases t with
      | new hL rs =>
        rename_i vs
        refine ⟨O0, ow, ρ, S, d, ef, fun v H1 s1 r1 => ⟨.ref _, h1, _, C', dx, vs, rfl, s1 _ _ hL, c, n, by rw [rs.length]; omega, p _ _ ⟨fun b u q => ?_, ow, (S.same s1).wr ei hw fun Hh sm => .new upd_same ((RepF.put (r1.same (.refl _)) (rs.same (hide_same s1))).same sm), hn⟩⟩⟩
        have := hn i _ hw
        rw [upd_ne (fun z => by subst z; rw [this] at q; cases q)]
        exact s1 _ _ (s _ _ q)
    · exact p.elim
  · exact p.elim
end
/-- an __init__: the fields that it gives -/
def spI (K : PySem.W.Frag) (C : Addr) (n : Nat) (F : List D → Option (List (Str × D))) : Sp := fun vs H Q _ => ∃ (x dx : Addr) (us : List V), vs = .ref x :: us ∧ us.length = n ∧ H x = some (.ins C dx []) ∧ ∃ (O0 : Addr → Prop) (ds : List D), ¬ O0 x ∧ (∀ a, O0 a → ∃ o, H a = some o) ∧
  Reps K (hide (fun b => O0 b ∨ b = x) H) us ds ∧ ∃ gs, F ds = some gs ∧ ∀ H' fv, (∀ b o, b ≠ x → H b = some o → H' b = some o) → H' x = some (.ins C dx fv) → RepF K (hide (fun b => O0 b ∨ b = x) H') fv gs → Q .non H'
def backI (C x dx : Addr) : Fl → Option (List (Str × D))
  | .nx ρ => match ρ[0]? with
    | some (some (true, D.new C' x' dx' fs)) => if C' = C ∧ x' = x ∧ dx' = dx then some fs else none
    | _ => none
  | _ => none
theorem Sl.cons_own {K : PySem.W.Frag} {O0 : Addr → Prop} {H : Hp} {σ : L2.St} {ρ : DEnv} {x : Addr} {d : D} (S : Sl K (fun b => O0 b ∨ b = x) H σ ρ fun _ => none) (nx : ¬ O0 x) (t : TopR K (hide (fun b => O0 b ∨ b = x) H) H x d) :
    Sl K O0 H (some (.ref x) :: σ) (some (true, d) :: ρ) (fun i => if i = 0 then some x else none) := by
  have h1 : ∀ b, hid O0 (fun i => if i = 0 then some x else none) b → O0 b ∨ b = x := fun b z => by
    rcases z with z | ⟨j, z⟩
    · exact .inl z
    · dsimp only at z
      split at z
      · cases z; exact .inr rfl
      · cases z
  have h2 : ∀ b, hid (fun b => O0 b ∨ b = x) (fun _ => none) b → O0 b ∨ b = x := fun b z => by
    rcases z with z | ⟨j, z⟩
    · exact z
    · cases z
  refine ⟨by simp [S.len], fun i j a z1 z2 => ?_, fun i a z => ?_, fun a z => S.trk a (.inl (h1 a z)), fun i s h => ?_⟩
  · split at z1
    · split at z2
      · omega
      · cases z2
    · cases z1
  · split at z
    · cases z; exact nx
    · cases z
  · cases i with
    | zero => cases h; exact ⟨_, rfl, x, rfl, rfl, t.same (hide_sub h1) rfl⟩
    | succ i =>
      obtain ⟨o, g1, g2⟩ := S.sl i s (by simpa using h)
      refine ⟨o, by simpa using g1, ?_⟩
      match s, g2 with
      | none, _ => trivial
      | some (false, d), ⟨v, e1, r⟩ => exact ⟨v, e1, r.same (hide_sub fun b z => .inl (h1 b z))⟩
      | some (true, d), ⟨b, e1, e2, t'⟩ => cases e1
section
variable {P : Program} {w : World} {K : PySem.W.Frag} {mg : Str → Option Value} {base : Heap}
theorem init_ok {x qual : Str} {st : Stmt} {f C : Addr} {fd : FuncData} {N ps : List Str} {k n m : Nat} {g : DS1} {F' : List D → Option (List (Str × D))} (F : Fun K x qual st f fd) (S : FnScope N ps (defScope st)) (hp : ps.length = n + 1) (hN : N.length = m + 1)
    (hF : ∀ x dx ds gs, F' ds = some gs → backI C x dx (g (some (true, .new C x dx []) :: startD m ds)) = some gs)
    (h : ∀ (cdv : Value) (A : Around) (outer : List Env) (s : Shared) (H : Hp) (E : XK), Room k (A.deeper (envOfC qual (defScope st) s.heap.objs.size f cdv)) → DSs (cxOf CX0 P w K mg base N qual (defScope st) f cdv A outer s H E).nox (defBody st) g) :
    FnOk P w K mg base CX0 (k + 1) f fd ps (spI K C n F') := by
  refine F.ok S (fun vs H Q E h => ?_) (fun cdv A outer s H vs Q E hr h' => ?_)
  · obtain ⟨x, dx, us, rfl, hn, _⟩ := h
    simp [hn, hp]
  · refine ⟨_, h cdv A outer s H E hr, ?_⟩
    obtain ⟨x, dx, us, rfl, hn, hx, O0, ds, nx, t, r, gs, e, q⟩ := h'
    have S0 : Sl K (fun b => O0 b ∨ b = x) H (L2.start (List.replicate m (Str.ofString "")) us) (startD (List.replicate m (Str.ofString "")).length ds) fun _ => none := start_sl (fun a z => by
      rcases z with z | z
      · exact t a z
      · subst z; exact ⟨_, hx⟩) r
    have es : L2.start N (.ref x :: us) = some (.ref x) :: L2.start (List.replicate m (Str.ofString "")) us := by
      unfold L2.start
      simp only [List.map_cons, List.cons_append, List.length_cons, List.length_replicate, hN]
      congr 3
      omega
    have S1 := S0.cons_own (d := .new C x dx []) nx (.new hx .nil)
    rw [es]
    simp only [List.length_replicate] at S1
    have nh : hide (fun b => b = x) H x = none := by
      cases e : hide (fun b => b = x) H x with
      | none => rfl
      | some o => exact absurd rfl (hide_some.mp e).1
    refine ⟨hide (fun b => b = x) H, O0, _, ⟨hide_le, _, S1, fun i a z => ?_⟩, ?_⟩
    · split at z
      · cases z; exact nh
      · cases z
    · have e' := hF x dx ds gs e
      unfold backI at e'
      split at e'
      · rename_i ρ eg
        rw [eg]
        split at e'
        · rename_i C' x' dx' fs ei
          split at e'
          · rename_i hx'
            obtain ⟨rfl, rfl, rfl⟩ := hx'
            cases e'
            intro σ' H' ⟨s', ow, S', h'⟩
            obtain ⟨o, g1, l, hw, e2, tt⟩ := S'.sl 0 _ ei
            cases tt with
            | new hL rf =>
              refine q H' _ (fun b u ne hb => s' b u (hide_some.mpr ⟨ne, hb⟩)) hL (rf.same (hide_sub fun b z => ?_))
              rcases z with z | z
              · exact .inl z
              · subst z; exact .inr ⟨0, hw⟩
          · cases e'
        · cases e'
      · cases e'
end
section
variable {X : Cx} {e a b : Expr} {es : List Expr} {f fa fb : DE1} {fs : DEnv → Option (List D)} {pos p : Pos}
def eMake (C : Addr) (n : Nat) (F : List D → Option (List (Str × D))) (fs : DEnv → Option (List D)) : DE1 := fun ρ => (fs ρ).bind fun ds => if ds.length = n then (F ds).map (.ins C) else none
theorem de_make {C fi : Addr} {fd : FuncData} {ps : List Str} {k n : Nat} {x : Str} {F : List D → Option (List (Str × D))} (M : Mk X.K C fi) (Fk : FnOk X.prog X.w X.K X.mg X.base CX0 k fi fd ps (spI X.K C n F)) (hr : Room (k + 1) X.A) (hg : Gl X x) (hm : X.mg x = some (.ref C)) (hb : Binds X.K fd ps [])
    (ha : DA X (e :: es) fs) (hdb : (x == ("__debug__" : Str)) = false := by decide) (he : starEach (e :: es) X.env = (false, eval e X.env) :: starEach es X.env := by rfl) (hpl : (backTo pos (starEach es X.env)).any (·.1) = false := by rfl) :
    DE X (.Call (.Name x p) (e :: es) [] pos) (eMake C n F fs) := PE.imp (pe_make M Fk hr hg hm hb .nil pass0 ha hdb he hpl) fun σ H Q ⟨O0, ow, ρ, S, d, e, k⟩ => by
  unfold eMake at e
  simp only [Option.bind_eq_some_iff] at e
  obtain ⟨ds, e1, e⟩ := e
  split at e
  · rename_i hl
    rw [Option.map_eq_some_iff] at e
    obtain ⟨gs, eg, rfl⟩ := e
    refine ⟨O0, ow, ρ, S, ds, e1, fun vs H1 s1 r1 x dx nx ndx ne => ?_⟩
    have st : Same H1 (upd (upd H1 dx (.own x)) x (.ins C dx [])) := (same_upd ndx).trans (same_upd (by rw [upd_ne (Ne.symm ne)]; exact nx))
    have S1 := S.same s1
    refine ⟨x, dx, vs, by rw [List.append_nil], by rw [r1.length]; exact hl, upd_same, hid O0 ow, ds, new_rep (K := X.K) S1.trk nx, fun a z => ?_, r1.same fun b o q => ?_, gs, eg, fun H2 fv h1 h2 h3 => ⟨rfl, ?_⟩⟩
    · obtain ⟨o, q⟩ := S1.trk a z
      exact ⟨o, st _ _ q⟩
    · rw [hide_some] at q ⊢
      exact ⟨fun z => z.elim q.1 fun z => (by subst z; rw [nx] at q; cases q.2), st _ _ q.2⟩
    · have s2 : Same H1 H2 := fun b o q => h1 b o (ne_of_none q nx) (st _ _ q)
      exact k _ H2 (s1.trans s2) (.ins (hide_some.mpr ⟨new_rep (K := X.K) S1.trk nx, h2⟩) (h3.same (hide_sub fun b z => .inl z)))
  · cases e
/-- len(o) by a class's own __len__ -/
theorem de_lenO {C g : Addr} {fd : FuncData} {ps : List Str} {k : Nat} {x : Str} {F : List D → Option D} (c : Cls X.K C) (hm' : Meth X.K C "__len__" g) (Fk : FnOk X.prog X.w X.K X.mg X.base CX0 k g fd ps (spD X.K 1 F)) (hr : Room (k + 1) X.A) (hb : Binds X.K fd ps [])
    (hg : Gl X x) (hm : X.mg x = none) (hv : bootBuiltins x = some (.builtin "len")) (ha : DAB X [e] fs) (hn : x ≠ "__name__" := by decide) (hdb : (x == ("__debug__" : Str)) = false := by decide)
    (he : starEach [e] X.env = (false, eval e X.env) :: starEach [] X.env := by rfl) (hpl : (backTo pos (starEach [] X.env)).any (·.1) = false := by rfl) :
    DE X (.Call (.Name x p) [e] [] pos) (eCB (fun x => (gLen x).or (gLenO C F x)) fs) := de_callB (cd_len.or (cd_lenO c hm' Fk hr hb)) hg hm hv ha hn hdb he hpl
end
end DL

set_option maxHeartbeats 4000000
namespace DL
open PySem PySem.Spec PyProof.Rows L2
def SqX (b : Bool) (K : PySem.W.Frag) (H : Hp) (a : Addr) (xs : List V) : Prop := match b with
  | true => SqT K H a xs
  | false => SqL K H a xs
def SrcM (b : Bool) (h : Heap) (l : Addr) (xs : Array Value) : Prop := match b with
  | true => h.IsTuple l xs
  | false => h.IsList l xs
section
variable {X : Cx} {pins : List (Addr × Obj)} {σ : L2.St} {H : Hp} {s : Shared} {a : Addr} {xs ys : List V}
theorem SqX.src {b : Bool} (I : Inv X pins σ H s) (h : SqX b X.K H a xs) : ∃ its : List Value, Vals xs its ∧ a < s.heap.objs.size ∧ SrcM b s.heap a its.toArray := by
  cases b with
  | true =>
    obtain ⟨its, r, p, _⟩ := I.tuple h
    exact ⟨its, r, p.lt, p⟩
  | false =>
    obtain ⟨its, r, p, _⟩ := I.list h
    exact ⟨its, r, p.lt, p.isList⟩
theorem SqX.inj {b : Bool} (I : Inv X pins σ H s) (h : SqX b X.K H a xs) (h' : SqX b X.K H a ys) : xs = ys := by
  cases b with
  | true => exact I.tuple_inj h h'
  | false => exact I.list_inj h h'
theorem srcAt {b : Bool} {h : Heap} {it l : Addr} {k : Nat} {its : Array Value} (i : DZ.ItAt b h it l k) (p : SrcM b h l its) : DZ.SrcAt b h it l k its := by
  cases b with
  | true => exact ⟨i, p⟩
  | false => exact ⟨i, p⟩
end
def ItzX (K : PySem.W.Frag) (b1 b2 : Bool) (a b : Addr) : It :=
  ⟨fun i H => ∃ (xs ys : List V) (x y : V), SqX b1 K H a xs ∧ SqX b2 K H b ys ∧ xs[i]? = some x ∧ ys[i]? = some y,
   fun i H v H' => ∃ T x y, v = .ref T ∧ H T = none ∧ H' = upd H T (.tup [x, y]) ∧ (∀ xs, SqX b1 K H a xs → xs[i]? = some x) ∧ ∀ ys, SqX b2 K H b ys → ys[i]? = some y,
   fun i H => ∃ xs ys : List V, SqX b1 K H a xs ∧ SqX b2 K H b ys ∧ (xs.length ≤ i ∨ ys.length ≤ i)⟩
theorem turn_zipX {b1 b2 : Bool} {P : Program} {w : World} {K : PySem.W.Frag} {elts : List Expr} {kk : Nat} {tpos : Pos} {a b z TI TO i1 i2 : Addr} (D : ZipApart z TI TO i1 i2 a b) :
    Turn P w K (.Tuple elts kk tpos) (ItzX K b1 b2 a b) [z, TI, TO, i1, i2] z (fun i h => IsZip h z TI TO .none ∧ IsPair h TI (.ref i1) (.ref i2) ∧ (∃ x y, IsPair h TO x y) ∧ DZ.ItAt b1 h i1 a i ∧ DZ.ItAt b2 h i2 b i) where
  mem := by simp
  obj := fun i h st c hc => by
    obtain ⟨z1, t1, ⟨x, y, t2⟩, q1, q2⟩ := st
    obtain ⟨o1, v1, e1, d1⟩ := q1.obj
    obtain ⟨o2, v2, e2, d2⟩ := q2.obj
    simp only [List.mem_cons, List.not_mem_nil, or_false] at hc
    rcases hc with rfl | rfl | rfl | rfl | rfl
    · exact ⟨_, z1, fun v q => by cases q⟩
    · exact ⟨_, t1, fun v q => by cases q⟩
    · exact ⟨_, t2, fun v q => by cases q⟩
    · exact ⟨o1, e1, fun v q => by rw [d1] at q; cases q⟩
    · exact ⟨o2, e2, fun v q => by rw [d2] at q; cases q⟩
  keep := fun i h h' ⟨z1, t1, ⟨x, y, t2⟩, q1, q2⟩ k => ⟨k z (by simp) _ z1, k TI (by simp) _ t1, ⟨x, y, k TO (by simp) _ t2⟩, q1.on fun o q => k i1 (by simp) o q, q2.on fun o q => k i2 (by simp) o q⟩
  item := by
    intro X hP hw hK hc i pins s σ H E I hf ⟨z1, t1, ⟨x0, y0, t2⟩, q1, q2⟩ ⟨xs, ys, x, y, hqx, hqy, hx, hy⟩
    subst hP hw hK
    obtain ⟨us, r1, _, p1⟩ := hqx.src I
    obtain ⟨us2, r2, _, p2⟩ := hqy.src I
    obtain ⟨u, hu, ru⟩ := r1.get hx
    obtain ⟨u2, hu2, ru2⟩ := r2.get hy
    have zl : z < s.heap.objs.size := Heap.lt_size z1
    obtain ⟨o1, v1, g1, _⟩ := q1.obj
    obtain ⟨o2, v2, g2, _⟩ := q2.obj
    refine DZ.py_item D z1 t1 t2 (srcAt q1 p1) (srcAt q2 p2) (x := u) (y := u2) (by simpa using hu) (by simpa using hu2) fun h' z' t' n1 n2 hT hs hk => ⟨_, rfl, wpAny_letOwnedTupleGo_zip (s := { s with heap := h' }) z' fun h'' z'' sb => ?_⟩
    have T2 : h''.get? s.heap.objs.size = some { cls := .type "tuple", data := .seq #[u, u2] } := (sb.2 _ (Nat.ne_of_gt zl)).trans hT
    have five : ∀ c, c ∉ [z, TI, TO, i1, i2] → c ≠ z ∧ c ≠ TI ∧ c ≠ TO ∧ c ≠ i1 ∧ c ≠ i2 := fun c h => by simpa [not_or] using h
    have J : Inv X pins σ (upd H s.heap.objs.size (.tup [x, y])) { s with heap := h'' } := I.turnedNew (t' := s.toks) (ch := [z, TI, TO, i1, i2]) (fun c o hb q => by
      obtain ⟨c1, c2, c3, c4, c5⟩ := five c hb
      exact (sb.2 c c1).trans (hk c o c1 c3 c4 c5 q)) hf (Nat.le_refl _) ⟨(by show 2 ≤ sizeLine; decide), [u, u2], .cons ru (.cons ru2 .nil), ⟨_, T2, rfl, _, rfl⟩⟩
    refine ⟨.ref s.heap.objs.size, _, J, rfl, ⟨_, x, y, rfl, I.hok.fresh (Nat.le_refl _), rfl, fun l hl => (by rw [SqX.inj I hl hqx]; exact hx), fun l hl => (by rw [SqX.inj I hl hqy]; exact hy)⟩,
      ⟨z'', (sb.2 _ D.TIz).trans (hk _ _ D.TIz D.TITO D.TIi1 D.TIi2 t1), ⟨u, u2, (sb.2 _ D.TOz).trans t'⟩, n1.on fun o q => (sb.2 _ D.i1z).trans q, n2.on fun o q => (sb.2 _ D.i2z).trans q⟩, fun c hcm => ?_⟩
    have lt : c < s.heap.objs.size := by
      have hcm' := hcm
      simp only [List.mem_cons, List.not_mem_nil, or_false] at hcm'
      rcases hcm' with rfl | rfl | rfl | rfl | rfl
      · exact zl
      · exact Heap.lt_size t1
      · exact Heap.lt_size t2
      · exact Heap.lt_size g1
      · exact Heap.lt_size g2
    rw [upd_ne (Nat.ne_of_lt lt)]
    exact (hf c hcm).1
  done := by
    intro X hP hw hK hc i pins s σ H E I hf ⟨z1, t1, ⟨x0, y0, t2⟩, q1, q2⟩ ⟨xs, ys, hqx, hqy, hend⟩
    subst hP hw hK
    obtain ⟨us, r1, _, p1⟩ := hqx.src I
    obtain ⟨us2, r2, _, p2⟩ := hqy.src I
    have l1 := r1.length
    have l2 := r2.length
    refine DZ.py_end (I.ok.hd hc) D z1 t1 t2 (srcAt q1 p1) (srcAt q2 p2) (hend.elim (fun q => .inl (by simp; omega)) fun q => .inr (by simp; omega)) fun h' hk => ⟨rfl, I.turnedL (t' := s.toks) (ch := [z, TI, TO, i1, i2]) (fun c o hb q => ?_) hf⟩
    have : c ≠ z ∧ c ≠ TI ∧ c ≠ TO ∧ c ≠ i1 ∧ c ≠ i2 := by simpa [not_or] using hb
    exact hk c o this.1 this.2.2.1 this.2.2.2.1 this.2.2.2.2 q
  self := fun A i s Q E st h => wpAny_pyIter_zip st.1 h
def iZipX (K : PySem.W.Frag) (ta : TA) : TI := fun σ H R => ta σ H fun vs H1 => ∃ b1 b2 a b xs ys, vs = [.ref a, .ref b] ∧ SqX b1 K H1 a xs ∧ SqX b2 K H1 b ys ∧ R (ItzX K b1 b2 a b) H1
theorem pi_zipX {X : Cx} {e e2 : Expr} {ta : TA} {p pos tpos : Pos} {elts : List Expr} {kk : Nat} (hg : Gl X "zip") (hm : X.mg "zip" = none) (ha : PA X [e, e2] ta)
    (hs : starEach [e, e2] X.env = (false, eval e X.env) :: starEach [e2] X.env := by rfl) (hpl : (backTo pos (starEach [e2] X.env)).any (·.1) = false := by rfl) :
    PI X (.Tuple elts kk tpos) (.Call (.Name "zip" p) [e, e2] [] pos) (iZipX X.K ta) := by
  refine ⟨fun pins s σ H R I h => Call_ (ld_blt I hg hm PyProof.Rows.boot_zip (PyProof.Rows.callWith_type1 (thn (ha.run pos pins s σ H _ I h) fun us s1 ⟨vs, H1, I1, r1, q1⟩ => ?_) hs hpl))⟩
  obtain ⟨b1, b2, a, b, xs, ys, rfl, hqx, hqy, q⟩ := q1
  obtain ⟨u, rr, rfl, ra, rb⟩ := Vals.two r1
  cases ra
  cases rb
  obtain ⟨us, v1, la, p1⟩ := hqx.src I1
  obtain ⟨us2, v2, lb, p2⟩ := hqy.src I1
  have fresh : ∀ c, c ∈ [s1.heap.objs.size + 4, s1.heap.objs.size + 2, s1.heap.objs.size + 3, s1.heap.objs.size, s1.heap.objs.size + 1] → FpOk X pins H1 c := fun c hcm => by
    have hle : s1.heap.objs.size ≤ c := by
      simp only [List.mem_cons, List.not_mem_nil, or_false] at hcm
      omega
    exact I1.fpOk hle (I1.hok.fresh hle)
  have fin : ∀ h' : Heap, IsZip h' (s1.heap.objs.size + 4) (s1.heap.objs.size + 2) (s1.heap.objs.size + 3) .none → IsPair h' (s1.heap.objs.size + 2) (.ref s1.heap.objs.size) (.ref (s1.heap.objs.size + 1)) →
      IsPair h' (s1.heap.objs.size + 3) .none .none → DZ.ItAt b1 h' s1.heap.objs.size a 0 → DZ.ItAt b2 h' (s1.heap.objs.size + 1) b 0 → (∀ c o, s1.heap.get? c = some o → h'.get? c = some o) →
      wpAny (model X.prog X.w) X.A (pyIter (.ref (s1.heap.objs.size + 4))) (PIE X pins σ (.Tuple elts kk tpos) R) X.xe { s1 with heap := h' } := fun h' z1 t1 t2 n1 n2 hk => wpAny_pyIter_zip z1
    ⟨s1.heap.objs.size + 4, [s1.heap.objs.size + 4, s1.heap.objs.size + 2, s1.heap.objs.size + 3, s1.heap.objs.size, s1.heap.objs.size + 1], _, _, H1, rfl, I1.kept (t' := s1.toks) hk, turn_zipX (PySem.W.ktu_apart s1.heap.objs.size a b la lb), ⟨z1, t1, ⟨_, _, t2⟩, n1, n2⟩, fresh, q⟩
  cases b1 with
  | true =>
    cases b2 with
    | true => exact RZ.call_zipT p1 p2 fun h' z1 t1 t2 n1 n2 _ hk => fin h' z1 t1 t2 n1 n2 hk
    | false => exact DZ.call_TL p1 p2 fun h' z1 t1 t2 n1 n2 hk => fin h' z1 t1 t2 n1 n2 hk
  | false =>
    cases b2 with
    | true => exact DZ.call_LT p1 p2 fun h' z1 t1 t2 n1 n2 hk => fin h' z1 t1 t2 n1 n2 hk
    | false => exact call_zip_2 p1 p2 fun h' z1 t1 t2 n1 n2 _ hk => fin h' z1 t1 t2 n1 n2 hk
/-! as data -/
def seqD : D → Option (List D)
  | .lst xs => some xs
  | .tup xs => some xs
  | _ => none
def iZX (f g : DE1) : DEnv → Option (List D) := fun ρ => ((f ρ).bind seqD).bind fun xs => ((g ρ).bind seqD).map fun ys => zipD xs ys
theorem seq_rep {K : PySem.W.Frag} {H : Hp} {v : V} {d : D} {ds : List D} (r : Rep K H v d) (h : seqD d = some ds) : ∃ b a vs, v = .ref a ∧ SqX b K H a vs ∧ Reps K H vs ds := by
  cases r with
  | tup s rs => cases h; exact ⟨true, _, _, rfl, s, rs⟩
  | lst s rs => cases h; exact ⟨false, _, _, rfl, SqL.of s, rs⟩
  | _ => cases h
theorem SqX.same {b : Bool} {K : PySem.W.Frag} {H H' : Hp} {a : Addr} {xs : List V} (e : Same H H') (h : SqX b K H a xs) : SqX b K H' a xs := by
  cases b with
  | true => exact DL.Same.sqT e h
  | false => exact L2.Same.seq e h
section
variable {X : Cx} {tg e e' : Expr} {f f' : DE1} {p pos tpos : Pos}
theorem di_zipX {elts : List Expr} {kk : Nat} (hg : Gl X "zip") (hm : X.mg "zip" = none) (h : DE X e f) (h' : DE X e' f') (hs : starEach [e, e'] X.env = (false, eval e X.env) :: starEach [e'] X.env := by rfl) (hpl : (backTo pos (starEach [e'] X.env)).any (·.1) = false := by rfl) (hs2 : starEach [e'] X.env = (false, eval e' X.env) :: starEach [] X.env := by rfl) :
    DI X (.Tuple elts kk tpos) (.Call (.Name "zip" p) [e, e'] [] pos) (iZX f f') :=
  PI.imp (pi_zipX hg hm (pa_cons h (pa_cons h' pa_nil hs2) hs) hs hpl) fun σ H R ⟨O0, ow, ρ, S, ds, q, k⟩ => by
  unfold iZX at q
  simp only [Option.bind_eq_some_iff, Option.map_eq_some_iff] at q
  obtain ⟨xs, ⟨d1, ef, e1⟩, ys, ⟨d2, ef', e2⟩, rfl⟩ := q
  refine ⟨O0, ow, ρ, S, _, ef, fun v H1 s r => ⟨O0, ow, ρ, S.same s, _, ef', fun v' H2 s2 r' => ?_⟩⟩
  obtain ⟨b1, a, vs, rfl, sq, rs⟩ := seq_rep (r.same (hide_same s2)) e1
  obtain ⟨b2, b, us, rfl, sq', rs'⟩ := seq_rep r' e2
  refine ⟨b1, b2, a, b, vs, us, rfl, SqX.same hide_le sq, SqX.same hide_le sq', k _ H2 (s.trans s2) ⟨fun H3 e2 => ⟨vs, us, SqX.same e2 sq, SqX.same e2 sq', ?_⟩, fun i d H3 e2 hd => ?_, fun i d H3 x H4 e2 hd y => ?_⟩⟩
  · have := rs.length; have := rs'.length
    rw [zipD_length]; omega
  · obtain ⟨p, q, hp, hq, rfl⟩ := zipD_get hd
    obtain ⟨v1, hv1, _⟩ := rs.get hp
    obtain ⟨v2, hv2, _⟩ := rs'.get hq
    exact ⟨vs, us, v1, v2, SqX.same e2 sq, SqX.same e2 sq', hv1, hv2⟩
  · obtain ⟨p, q, hp, hq, rfl⟩ := zipD_get hd
    obtain ⟨v1, hv1, r1⟩ := rs.get hp
    obtain ⟨v2, hv2, r2⟩ := rs'.get hq
    obtain ⟨T, x1, x2, rfl, nT, rfl, f1, f2⟩ := y
    have e1 := f1 _ (SqX.same e2 sq)
    have e3 := f2 _ (SqX.same e2 sq')
    rw [hv1] at e1; cases e1
    rw [hv2] at e3; cases e3
    exact ⟨same_upd nT, fun O' h1 h2 => pair_rep e2 nT h1 h2 r1 r2⟩
end
end DL

set_option maxHeartbeats 4000000
namespace DL
open PySem PySem.Spec PyProof.Rows L2
def gAddI : D → D → Option D := gI fun i j => some (.int (i + j))
def gSubI : D → D → Option D := gI fun i j => some (.int (i - j))
def gMulI : D → D → Option D := gI mMul
def gDivI : D → D → Option D := gI mDiv
def gModI : D → D → Option D := gI mMod
def gLt : D → D → Option D := gI fun i j => some (.bl (decide (i < j)))
def gLe : D → D → Option D := gI fun i j => some (.bl (decide (i ≤ j)))
def gGt : D → D → Option D := gI fun i j => some (.bl (decide (j < i)))
def gGe : D → D → Option D := gI fun i j => some (.bl (decide (j ≤ i)))
section
variable {X : Cx} {e : Expr} {f : DE1} {pos : Pos}
def gExp (f : DE1) : DS1 := fun ρ => match f ρ with
  | some _ => .nx ρ
  | none => .stuck
theorem ds_expr (he : DE X e f) (hs : swapsWith e none pos.line X.env = pure false := by rfl) : DS X (.Expr e pos) (gExp f) := PS.imp (ps_expr he hs) fun N σ H ⟨H0, O0, ρ, S, p⟩ => by
  obtain ⟨s, ow, S1, h⟩ := id S
  unfold gExp at p
  cases ef : f ρ with
  | none => rw [ef] at p; exact p.elim
  | some d =>
    rw [ef] at p
    exact ⟨O0, ow, ρ, S1, d, ef, fun v H' s' _ => p σ H' (S.same s')⟩
theorem ds_doc {x j pos pos'} : DS X (.Expr (.Constant (.str x) j pos) pos') gNx := PS.imp ps_doc fun N σ H ⟨H0, O0, ρ, S, p⟩ => p σ H S
theorem tDE_F {K : PySem.W.Frag} : ∀ σ H Q, tDE K f σ H Q → tDF K f σ H Q := fun σ H Q ⟨O0, ow, ρ, S, d, e, k⟩ => ⟨O0, ow, ρ, S, d, e, fun a H' s n t => k (.ref a) H' s (t.rep (hide_sub fun b z => .inl z) fun o q => hide_some.mpr ⟨fun z => (let ⟨u, w⟩ := S.trk a z; by rw [n] at w; cases w), q⟩)⟩
theorem ds_setLcE {tg iter elt : Expr} {it : DEnv → Option (List D)} {b : D → DEnv → Option DEnv} {t : DE1} {is : List Nat} (i : Nat) {y : Str} {py spos : Pos} {scope : Scope} (own : List (Str × Nat)) (hc : X.calm = true) (hN : X.N.Nodup) (hy : X.N[i]? = some y) (hyl : X.env.scope.names.lookup y = some .local) {ifs : List Expr}
    (hsw : swapsWith (.ListComp elt [⟨tg, iter, ifs, 0⟩] scope pos) (some (.Name y py)) spos.line X.env = pure true) (hi : DI X tg iter it) (ok : BlkOk X.N X.env.scope scope own)
    (hg : ∀ (s : Shared) (H : Hp) (C : Addr) (cl : List (Str × Addr)) (fp : List Addr), DG (X.blk s H scope (compEnvC scope cl C X.env) fp) tg is b) (ht : ∀ (s : Shared) (H : Hp) (C : Addr) (cl : List (Str × Addr)) (fp : List Addr), DTs (X.blk s H scope (compEnvC scope cl C X.env) fp) ifs t)
    (he : ∀ (s : Shared) (H : Hp) (C : Addr) (cl : List (Str × Addr)) (fp : List Addr), DE (X.blk s H scope (compEnvC scope cl C X.env) fp) elt f) (his : ∀ i ∈ is, i ∈ own.map (·.2) := by decide) (hs : ∀ x, foldedSetIterable iter X.env x = pure x := by intro _; rfl) :
    DS X (.Assign [.Name y py] (.ListComp elt [⟨tg, iter, ifs, 0⟩] scope pos) spos) (gSet i (eLc it (own.map (·.2)) b t f)) := PS.imp (ps_setLc (g := tDG X.K is b) (tt := tDT X.K t) (te := tDE X.K f) hc hN hy hyl hsw hi ok hg ht he hs) fun N σ H h => by
  have := set_post (K := X.K) (i := i) (f := eLc it (own.map (·.2)) b t f) N σ H h
  exact tLc_D his σ H _ (tDE_F σ H _ this)
end
/-- the fields that an __init__ gives, wherever its object lies -/
noncomputable def unif (C : Addr) (g : Addr → Addr → Fl) : Option (List (Str × D)) := open Classical in if h : ∃ gs, ∀ x dx, backI C x dx (g x dx) = some gs then some (Classical.choose h) else none
theorem unif_spec {C : Addr} {g : Addr → Addr → Fl} {gs : List (Str × D)} (h : unif C g = some gs) : ∀ x dx, backI C x dx (g x dx) = some gs := by
  unfold unif at h
  split at h
  · rename_i hh
    cases h
    exact Classical.choose_spec hh
  · cases h
theorem unif_eq {C : Addr} {g : Addr → Addr → Fl} {gs : List (Str × D)} (h : ∀ x dx, backI C x dx (g x dx) = some gs) : unif C g = some gs := by
  have hh : ∃ gs, ∀ x dx, backI C x dx (g x dx) = some gs := ⟨gs, h⟩
  unfold unif
  rw [dif_pos hh]
  exact (Classical.choose_spec hh 0 0).symm.trans (h 0 0)
theorem def_ok' {P : Program} {w : World} {K : PySem.W.Frag} {mg : Str → Option Value} {base : Heap} {x qual : Str} {f : Addr} {fd : FuncData} (st : Stmt) (N ps : List Str) (k m n : Nat) (g : DS1) (F : Fun K x qual st f fd) (S : FnScope N ps (defScope st)) (hm : N.length = m) (hn : ps.length = n)
    (h : ∀ (cdv : Value) (A : Around) (outer : List Env) (s : Shared) (H : Hp) (E : XK), Room k (A.deeper (envOfC qual (defScope st) s.heap.objs.size f cdv)) → DSs (cxOf CX0 P w K mg base N qual (defScope st) f cdv A outer s H E).nox (defBody st) g) :
    FnOk P w K mg base CX0 (k + 1) f fd ps (spD K n (mkF m g)) := by
  subst hm hn
  exact def_ok F S h
theorem init_ok' {P : Program} {w : World} {K : PySem.W.Frag} {mg : Str → Option Value} {base : Heap} {x qual : Str} {f C : Addr} {fd : FuncData} (st : Stmt) (N ps : List Str) (k m n : Nat) (g : DS1) (F' : List D → Option (List (Str × D))) (F : Fun K x qual st f fd) (S : FnScope N ps (defScope st)) (hp : ps.length = n + 1) (hN : N.length = m + 1)
    (hF : ∀ x dx ds gs, F' ds = some gs → backI C x dx (g (some (true, .new C x dx []) :: startD m ds)) = some gs)
    (h : ∀ (cdv : Value) (A : Around) (outer : List Env) (s : Shared) (H : Hp) (E : XK), Room k (A.deeper (envOfC qual (defScope st) s.heap.objs.size f cdv)) → DSs (cxOf CX0 P w K mg base N qual (defScope st) f cdv A outer s H E).nox (defBody st) g) :
    FnOk P w K mg base CX0 (k + 1) f fd ps (spI K C n F') := init_ok F S hp hN hF h
end DL

set_option maxHeartbeats 8000000
namespace K01
open PySem PySem.Spec PyProof.Rows L2 DL
noncomputable section
def g_is_integer (c_Job : Addr) : DS1 := (gRet (eAnd (eIsi "int" (eVB 0)) (eNot (eIsi "bool" (eVB 0)))))

def F_is_integer (c_Job : Addr) : List D → Option D := mkF 1 (g_is_integer c_Job)

def g_is_integer_within (c_Job : Addr) : DS1 := (gRet (eAnd (eCall 1 (F_is_integer c_Job) (aCons (eV 0) aNil)) (eCh gLe gLe (eVB 1) (eVB 0) (eVB 2))))

def F_is_integer_within (c_Job : Addr) : List D → Option D := mkF 3 (g_is_integer_within c_Job)

def g_is_fraction (c_Job : Addr) : DS1 := (gSeq (gIf (eOr (eNot (eIsi "tuple" (eVB 0))) (e2 (eqD true) (eCB gLen (aCons (eVB 0) aNil)) (eC (.int 2)))) (gRet (eC (.bl false))) gNx)
  (gSeq (gAsg (eV 0) (bT (bCons (bN 1) (bCons (bN 2) bNil))))
  (gSeq (gIf (eOr (eNot (eCall 1 (F_is_integer c_Job) (aCons (eV 1) aNil))) (eNot (eCall 1 (F_is_integer c_Job) (aCons (eV 2) aNil)))) (gRet (eC (.bl false))) gNx)
  (gRet (eAnd (e2 gGe (eVB 2) (eC (.int 1))) (e2 (eqD false) (eCB gGcd (aCons (eVB 1) (aCons (eVB 2) aNil))) (eC (.int 1))))))))

def F_is_fraction (c_Job : Addr) : List D → Option D := mkF 3 (g_is_fraction c_Job)

def g_is_amount (c_Job : Addr) : DS1 := (gRet (eAnd (eCall 1 (F_is_fraction c_Job) (aCons (eV 0) aNil)) (e2 gGe (e2 gIx (eVB 0) (eC (.int 0))) (eC (.int 0)))))

def F_is_amount (c_Job : Addr) : List D → Option D := mkF 1 (g_is_amount c_Job)

def g_ratio (c_Job : Addr) : DS1 := (gSeq (gSet 2 (eCB gGcd (aCons (eVB 0) (aCons (eVB 1) aNil))))
  (gRet (eTup (aCons (e2 gDivI (eVB 0) (eVB 2)) (aCons (e2 gDivI (eVB 1) (eVB 2)) aNil)))))

def F_ratio (c_Job : Addr) : List D → Option D := mkF 3 (g_ratio c_Job)

def g_plus (c_Job : Addr) : DS1 := (gRet (eCall 2 (F_ratio c_Job) (aCons (e2 gAddI (e2 gMulI (e2 gIx (eVB 0) (eC (.int 0))) (e2 gIx (eVB 1) (eC (.int 1)))) (e2 gMulI (e2 gIx (eVB 1) (eC (.int 0))) (e2 gIx (eVB 0) (eC (.int 1))))) (aCons (e2 gMulI (e2 gIx (eVB 0) (eC (.int 1))) (e2 gIx (eVB 1) (eC (.int 1)))) aNil))))

def F_plus (c_Job : Addr) : List D → Option D := mkF 2 (g_plus c_Job)

def g_negative (c_Job : Addr) : DS1 := (gRet (eTup (aCons (eNeg (e2 gIx (eVB 0) (eC (.int 0)))) (aCons (e2 gIx (eVB 0) (eC (.int 1))) aNil))))

def F_negative (c_Job : Addr) : List D → Option D := mkF 1 (g_negative c_Job)

def g_minus (c_Job : Addr) : DS1 := (gRet (eCall 2 (F_plus c_Job) (aCons (eV 0) (aCons (eCall 1 (F_negative c_Job) (aCons (eV 1) aNil)) aNil))))

def F_minus (c_Job : Addr) : List D → Option D := mkF 2 (g_minus c_Job)

def g_times (c_Job : Addr) : DS1 := (gRet (eCall 2 (F_ratio c_Job) (aCons (e2 gMulI (e2 gIx (eVB 0) (eC (.int 0))) (e2 gIx (eVB 1) (eC (.int 0)))) (aCons (e2 gMulI (e2 gIx (eVB 0) (eC (.int 1))) (e2 gIx (eVB 1) (eC (.int 1)))) aNil))))

def F_times (c_Job : Addr) : List D → Option D := mkF 2 (g_times c_Job)

def g_is_less (c_Job : Addr) : DS1 := (gRet (e2 gLt (e2 gMulI (e2 gIx (eVB 0) (eC (.int 0))) (e2 gIx (eVB 1) (eC (.int 1)))) (e2 gMulI (e2 gIx (eVB 1) (eC (.int 0))) (e2 gIx (eVB 0) (eC (.int 1))))))

def F_is_less (c_Job : Addr) : List D → Option D := mkF 2 (g_is_less c_Job)

def g_total (c_Job : Addr) : DS1 := (gSeq (gSet 1 (eC (.tup [(.int 0), (.int 1)])))
  (gSeq (gFor (iL (eV 0)) (bN 2)
  (gSet 1 (eCall 2 (F_plus c_Job) (aCons (eV 1) (aCons (eV 2) aNil)))))
  (gRet (eV 1))))

def F_total (c_Job : Addr) : List D → Option D := mkF 3 (g_total c_Job)

def g_weighted (c_Job : Addr) : DS1 := (gRet (eCall 1 (F_total c_Job) (aCons (eLc (iZX (eV 0) (eV 1)) ([(Str.ofString "weight", 2), (Str.ofString "amount", 3)].map (·.2)) (bT (bCons (bN 2) (bCons (bN 3) bNil))) (eC (.bl true)) (eCall 2 (F_times c_Job) (aCons (eV 2) (aCons (eV 3) aNil)))) aNil)))

def F_weighted (c_Job : Addr) : List D → Option D := mkF 4 (g_weighted c_Job)

def g_u_are_parts (c_Job : Addr) : DS1 := (gSeq (gIf (eOr (eNot (eIsi "tuple" (eVB 0))) (e2 (eqD true) (eCB gLen (aCons (eVB 0) aNil)) (eVB 1))) (gRet (eC (.bl false))) gNx)
  (gRet (eAnd (eCB gAll (aCons (eLc (iT (eV 0)) ([(Str.ofString "part", 2)].map (·.2)) (bN 2) (eC (.bl true)) (eCall 3 (F_is_integer_within c_Job) (aCons (eV 2) (aCons (eC (.int 0)) (aCons (eC (.int 6)) aNil))))) aNil)) (e2 gGt (eCB gSum (aCons (eVB 0) aNil)) (eC (.int 0))))))

def F_u_are_parts (c_Job : Addr) : List D → Option D := mkF 3 (g_u_are_parts c_Job)

def g_u_is_work (c_Job : Addr) : DS1 := (gSeq (gIf (eOr (eNot (eIsi "tuple" (eVB 0))) (e2 (eqD true) (eCB gLen (aCons (eVB 0) aNil)) (eC (.int 2)))) (gRet (eC (.bl false))) gNx)
  (gSeq (gAsg (eV 0) (bT (bCons (bN 2) (bCons (bN 3) bNil))))
  (gRet (eAnd (eCall 3 (F_is_integer_within c_Job) (aCons (eV 2) (aCons (eC (.int 0)) (aCons (eC (.int 9)) aNil)))) (eCall 2 (F_u_are_parts c_Job) (aCons (eV 3) (aCons (eV 1) aNil)))))))

def F_u_is_work (c_Job : Addr) : List D → Option D := mkF 4 (g_u_is_work c_Job)

def g_u_are_works (c_Job : Addr) : DS1 := (gSeq (gIf (eOr (eNot (eIsi "tuple" (eVB 0))) (eNot (eCh gLe gLe (eC (.int 2)) (eCB gLen (aCons (eVB 0) aNil)) (eC (.int 4))))) (gRet (eC (.bl false))) gNx)
  (gRet (eCB gAll (aCons (eLc (iT (eV 0)) ([(Str.ofString "work", 2)].map (·.2)) (bN 2) (eC (.bl true)) (eCall 2 (F_u_is_work c_Job) (aCons (eV 2) (aCons (eV 1) aNil)))) aNil))))

def F_u_are_works (c_Job : Addr) : List D → Option D := mkF 3 (g_u_are_works c_Job)

def g_u_are_worths (c_Job : Addr) : DS1 := (gSeq (gIf (eOr (eNot (eIsi "tuple" (eVB 0))) (eNot (eCh gLe gLe (eC (.int 2)) (eCB gLen (aCons (eVB 0) aNil)) (eC (.int 4))))) (gRet (eC (.bl false))) gNx)
  (gRet (eCB gAll (aCons (eLc (iT (eV 0)) ([(Str.ofString "worth", 1)].map (·.2)) (bN 1) (eC (.bl true)) (eCall 3 (F_is_integer_within c_Job) (aCons (eV 1) (aCons (eC (.int 0)) (aCons (eC (.int 20)) aNil))))) aNil))))

def F_u_are_worths (c_Job : Addr) : List D → Option D := mkF 2 (g_u_are_worths c_Job)

def g_JobD_initD (c_Job : Addr) : DS1 := (gSeq (gIf (eNot (eCall 1 (F_u_are_worths c_Job) (aCons (eV 1) aNil))) gStuck gNx)
  (gSeq (gIf (eNot (eCall 2 (F_u_are_works c_Job) (aCons (eV 2) (aCons (eCB gLen (aCons (eVB 1) aNil)) aNil)))) gStuck gNx)
  (gSeq (gFld 0 c_Job (Str.ofString "_worths") (eCB gTupOf (aCons (eVB 1) aNil)))
  (gFld 0 c_Job (Str.ofString "_works") (eCB gTupOf (aCons (eLc (iT (eV 2)) ([(Str.ofString "effort", 3), (Str.ofString "parts", 4)].map (·.2)) (bT (bCons (bN 3) (bCons (bN 4) bNil))) (eC (.bl true)) (eTup (aCons (eV 3) (aCons (eCB gTupOf (aCons (eVB 4) aNil)) aNil)))) aNil))))))

def F_JobD_initD (c_Job : Addr) : List D → Option (List (Str × D)) := fun ds => unif c_Job fun x dx => g_JobD_initD c_Job (some (true, .new c_Job x dx []) :: startD 4 ds)
theorem init_JobD_initD (c_Job : Addr) : ∀ x dx ds gs, F_JobD_initD c_Job ds = some gs → backI c_Job x dx (g_JobD_initD c_Job (some (true, .new c_Job x dx []) :: startD 4 ds)) = some gs := fun x dx ds gs h => unif_spec h x dx

def g_Job_worths (c_Job : Addr) : DS1 := (gRet (eFld c_Job (Str.ofString "_worths") (eV 0)))

def F_Job_worths (c_Job : Addr) : List D → Option D := mkF 1 (g_Job_worths c_Job)

def g_Job_works (c_Job : Addr) : DS1 := (gRet (eFld c_Job (Str.ofString "_works") (eV 0)))

def F_Job_works (c_Job : Addr) : List D → Option D := mkF 1 (g_Job_works c_Job)

def g_JobD_lenD (c_Job : Addr) : DS1 := (gRet (eCB gLen (aCons (eFld c_Job (Str.ofString "_works") (eV 0)) aNil)))

def F_JobD_lenD (c_Job : Addr) : List D → Option D := mkF 1 (g_JobD_lenD c_Job)

def g_check_job (c_Job : Addr) : DS1 := (gIf (eNot (eIsC c_Job (eV 0))) gStuck gNx)

def F_check_job (c_Job : Addr) : List D → Option D := mkF 1 (g_check_job c_Job)

def g_check_work (c_Job : Addr) : DS1 := (gIf (eNot (eCall 3 (F_is_integer_within c_Job) (aCons (eV 1) (aCons (eC (.int 0)) (aCons (e2 gSubI (eCB (fun x => (gLen x).or (gLenO c_Job (F_JobD_lenD c_Job) x)) (aCons (eVB 0) aNil)) (eC (.int 1))) aNil))))) gStuck gNx)

def F_check_work (c_Job : Addr) : List D → Option D := mkF 2 (g_check_work c_Job)

def g_is_pay (c_Job : Addr) : DS1 := (gSeq (gIf (eOr (eNot (eIsi "tuple" (eVB 1))) (e2 (eqD true) (eCB gLen (aCons (eVB 1) aNil)) (eCB gLen (aCons (eProp c_Job (F_Job_worths c_Job) (eV 0)) aNil)))) (gRet (eC (.bl false))) gNx)
  (gRet (eCB gAll (aCons (eLc (iT (eV 1)) ([(Str.ofString "amount", 2)].map (·.2)) (bN 2) (eC (.bl true)) (eCall 1 (F_is_amount c_Job) (aCons (eV 2) aNil))) aNil))))

def F_is_pay (c_Job : Addr) : List D → Option D := mkF 3 (g_is_pay c_Job)

def g_check_pay (c_Job : Addr) : DS1 := (gIf (eNot (eCall 2 (F_is_pay c_Job) (aCons (eV 0) (aCons (eV 1) aNil)))) gStuck gNx)

def F_check_pay (c_Job : Addr) : List D → Option D := mkF 2 (g_check_pay c_Job)

def g_work_efforts (c_Job : Addr) : DS1 := (gRet (eLc (iT (eProp c_Job (F_Job_works c_Job) (eV 0))) ([(Str.ofString "effort", 1), (Str.ofString "parts", 2)].map (·.2)) (bT (bCons (bN 1) (bCons (bN 2) bNil))) (eC (.bl true)) (eTup (aCons (eV 1) (aCons (eC (.int 1)) aNil)))))

def F_work_efforts (c_Job : Addr) : List D → Option D := mkF 3 (g_work_efforts c_Job)

def g_work_chances (c_Job : Addr) : DS1 := (gSeq (gSet 2 (e2 gIx (e2 gIx (eProp c_Job (F_Job_works c_Job) (eV 0)) (eVB 1)) (eC (.int 1))))
  (gRet (eLc (iT (eV 2)) ([(Str.ofString "part", 3)].map (·.2)) (bN 3) (eC (.bl true)) (eCall 2 (F_ratio c_Job) (aCons (eV 3) (aCons (eCB gSum (aCons (eVB 2) aNil)) aNil))))))

def F_work_chances (c_Job : Addr) : List D → Option D := mkF 4 (g_work_chances c_Job)

def g_average_pay (c_Job : Addr) : DS1 := (gRet (eCall 2 (F_weighted c_Job) (aCons (eCall 2 (F_work_chances c_Job) (aCons (eV 0) (aCons (eV 1) aNil))) (aCons (eV 2) aNil))))

def F_average_pay (c_Job : Addr) : List D → Option D := mkF 3 (g_average_pay c_Job)

def g_average_worth (c_Job : Addr) : DS1 := (gRet (eCall 2 (F_weighted c_Job) (aCons (eCall 2 (F_work_chances c_Job) (aCons (eV 0) (aCons (eV 1) aNil))) (aCons (eLc (iT (eProp c_Job (F_Job_worths c_Job) (eV 0))) ([(Str.ofString "worth", 2)].map (·.2)) (bN 2) (eC (.bl true)) (eTup (aCons (eV 2) (aCons (eC (.int 1)) aNil)))) aNil))))

def F_average_worth (c_Job : Addr) : List D → Option D := mkF 3 (g_average_worth c_Job)

def g_gain (c_Job : Addr) : DS1 := (gSeq (gExp (eCall 1 (F_check_job c_Job) (aCons (eV 0) aNil)))
  (gSeq (gExp (eCall 2 (F_check_work c_Job) (aCons (eV 0) (aCons (eV 1) aNil))))
  (gSeq (gExp (eCall 2 (F_check_pay c_Job) (aCons (eV 0) (aCons (eV 2) aNil))))
  (gRet (eCall 2 (F_minus c_Job) (aCons (eCall 3 (F_average_pay c_Job) (aCons (eV 0) (aCons (eV 1) (aCons (eV 2) aNil)))) (aCons (e2 gIx (eCall 1 (F_work_efforts c_Job) (aCons (eV 0) aNil)) (eVB 1)) aNil)))))))

def F_gain (c_Job : Addr) : List D → Option D := mkF 3 (g_gain c_Job)

def g_profit (c_Job : Addr) : DS1 := (gSeq (gExp (eCall 1 (F_check_job c_Job) (aCons (eV 0) aNil)))
  (gSeq (gExp (eCall 2 (F_check_work c_Job) (aCons (eV 0) (aCons (eV 1) aNil))))
  (gSeq (gExp (eCall 2 (F_check_pay c_Job) (aCons (eV 0) (aCons (eV 2) aNil))))
  (gRet (eCall 2 (F_minus c_Job) (aCons (eCall 2 (F_average_worth c_Job) (aCons (eV 0) (aCons (eV 1) aNil))) (aCons (eCall 3 (F_average_pay c_Job) (aCons (eV 0) (aCons (eV 1) (aCons (eV 2) aNil)))) aNil)))))))

def F_profit (c_Job : Addr) : List D → Option D := mkF 3 (g_profit c_Job)

def g_wanted (c_Job : Addr) : DS1 := (gSeq (gExp (eCall 1 (F_check_job c_Job) (aCons (eV 0) aNil)))
  (gSeq (gExp (eCall 2 (F_check_pay c_Job) (aCons (eV 0) (aCons (eV 1) aNil))))
  (gSeq (gSet 2 (eC (.tup [(.int 0), (.int 1)])))
  (gSeq (gSetF 3 (eLst (aCons (eC .non) aNil)))
  (gSeq (gFor (iR1 (eCB (fun x => (gLen x).or (gLenO c_Job (F_JobD_lenD c_Job) x)) (aCons (eVB 0) aNil))) (bN 4)
  (gSeq (gSet 5 (eCall 3 (F_gain c_Job) (aCons (eV 0) (aCons (eV 4) (aCons (eV 1) aNil)))))
  (gIf (eCall 2 (F_is_less c_Job) (aCons (eV 2) (aCons (eV 5) aNil))) (gSeq (gSet 2 (eV 5))
  (gSetF 3 (eLst (aCons (eV 4) aNil)))) (gIf (e2 (eqD false) (eVB 5) (eVB 2)) (gApp 3 (eV 4)) gNx))))
  (fun ρ => gRet (eV 3) (frz 3 ρ)))))))

def F_wanted (c_Job : Addr) : List D → Option D := mkF 6 (g_wanted c_Job)

def g_u_law_number (c_Job : Addr) : DS1 := (gSeq (gSet 2 (eIf (e2 (eqD true) (eVB 0) (eLst aNil)) (eSl (eVB 0) oNone (oSome (eC (.int 63)))) (eLst (aCons (eC (.int 5)) aNil))))
  (gSeq (gSet 3 (e2 gAddI (e2 gIx (eVB 2) (e2 gModI (eCB gInt (aCons (eVB 1) aNil)) (eCB gLen (aCons (eVB 2) aNil)))) (e2 gMulI (eC (.int 13)) (e2 gDivI (eVB 1) (eCB gLen (aCons (eVB 2) aNil))))))
  (gSeq (gPar 4 5 (aCons (e2 gModI (eCB gInt (aCons (eVB 3) aNil)) (eC (.int 1000003))) (aCons (e2 gModI (eCB gInt (aCons (e2 gDivI (eVB 3) (eC (.int 1000003))) aNil)) (eC (.int 999983))) aNil)))
  (gSeq (gSet 6 (e2 gModI (eCB gInt (aCons (e2 gAddI (e2 gAddI (e2 gMulI (e2 gAddI (eVB 4) (e2 gMulI (eC (.int 977)) (eVB 1))) (eC (.int 48271))) (e2 gMulI (eC (.int 31)) (eVB 5))) (e2 gModI (eCB gInt (aCons (eCB gSum (aCons (eVB 2) aNil)) aNil)) (eC (.int 65521)))) aNil)) (eC (.int 2147483647))))
  (gRet (e2 gAddI (e2 gMulI (e2 gModI (eCB gInt (aCons (e2 gMulI (eVB 6) (e2 gAddI (e2 gAddI (eVB 6) (e2 gMulI (eC (.int 31)) (eVB 1))) (eC (.int 7)))) aNil)) (eC (.int 2147483629))) (eC (.int 65537))) (eVB 5)))))))

def F_u_law_number (c_Job : Addr) : List D → Option D := mkF 7 (g_u_law_number c_Job)

def g_u_law_lowest (c_Job : Addr) : DS1 := (gSeq (gPar 2 3 (aCons (eCB gAbs (aCons (eVB 0) aNil)) (aCons (eCB gAbs (aCons (eVB 1) aNil)) aNil)))
  (gSeq (gWh (fun ρ => match ρ[3]? with | some (some (_, D.int b)) => b.natAbs + 1 | _ => 0) (e2 (eqD true) (eVB 3) (eC (.int 0))) (gPar 2 3 (aCons (eV 3) (aCons (e2 gModI (eCB gInt (aCons (eVB 2) aNil)) (eVB 3)) aNil))))
  (gRet (eIf (e2 gGt (eVB 1) (eC (.int 0))) (eTup (aCons (e2 gDivI (eVB 0) (eVB 2)) (aCons (e2 gDivI (eVB 1) (eVB 2)) aNil))) (eTup (aCons (e2 gDivI (eNeg (eVB 0)) (eVB 2)) (aCons (e2 gDivI (eNeg (eVB 1)) (eVB 2)) aNil)))))))

def F_u_law_lowest (c_Job : Addr) : List D → Option D := mkF 4 (g_u_law_lowest c_Job)

def g_u_law_sum (c_Job : Addr) : DS1 := (gRet (eCall 2 (F_u_law_lowest c_Job) (aCons (e2 gAddI (e2 gMulI (e2 gIx (eVB 0) (eC (.int 0))) (e2 gIx (eVB 1) (eC (.int 1)))) (e2 gMulI (e2 gIx (eVB 1) (eC (.int 0))) (e2 gIx (eVB 0) (eC (.int 1))))) (aCons (e2 gMulI (e2 gIx (eVB 0) (eC (.int 1))) (e2 gIx (eVB 1) (eC (.int 1)))) aNil))))

def F_u_law_sum (c_Job : Addr) : List D → Option D := mkF 2 (g_u_law_sum c_Job)

def g_u_law_less (c_Job : Addr) : DS1 := (gRet (eCall 2 (F_u_law_lowest c_Job) (aCons (e2 gSubI (e2 gMulI (e2 gIx (eVB 0) (eC (.int 0))) (e2 gIx (eVB 1) (eC (.int 1)))) (e2 gMulI (e2 gIx (eVB 1) (eC (.int 0))) (e2 gIx (eVB 0) (eC (.int 1))))) (aCons (e2 gMulI (e2 gIx (eVB 0) (eC (.int 1))) (e2 gIx (eVB 1) (eC (.int 1)))) aNil))))

def F_u_law_less (c_Job : Addr) : List D → Option D := mkF 2 (g_u_law_less c_Job)

def g_u_law_product (c_Job : Addr) : DS1 := (gRet (eCall 2 (F_u_law_lowest c_Job) (aCons (e2 gMulI (e2 gIx (eVB 0) (eC (.int 0))) (e2 gIx (eVB 1) (eC (.int 0)))) (aCons (e2 gMulI (e2 gIx (eVB 0) (eC (.int 1))) (e2 gIx (eVB 1) (eC (.int 1)))) aNil))))

def F_u_law_product (c_Job : Addr) : List D → Option D := mkF 2 (g_u_law_product c_Job)

def g_u_law_below (c_Job : Addr) : DS1 := (gRet (e2 gLt (e2 gMulI (e2 gIx (eVB 0) (eC (.int 0))) (e2 gIx (eVB 1) (eC (.int 1)))) (e2 gMulI (e2 gIx (eVB 1) (eC (.int 0))) (e2 gIx (eVB 0) (eC (.int 1))))))

def F_u_law_below (c_Job : Addr) : List D → Option D := mkF 2 (g_u_law_below c_Job)

def g_u_law_dot (c_Job : Addr) : DS1 := (gSeq (gSet 2 (eTup (aCons (eC (.int 0)) (aCons (eC (.int 1)) aNil))))
  (gSeq (gFor (iZX (eV 0) (eV 1)) (bT (bCons (bN 3) (bCons (bN 4) bNil)))
  (gSet 2 (eCall 2 (F_u_law_sum c_Job) (aCons (eV 2) (aCons (eCall 2 (F_u_law_product c_Job) (aCons (eV 3) (aCons (eV 4) aNil))) aNil)))))
  (gRet (eV 2))))

def F_u_law_dot (c_Job : Addr) : List D → Option D := mkF 5 (g_u_law_dot c_Job)

def g_u_law_job (c_Job : Addr) : DS1 := (gSeq (gPar 2 3 (aCons (e2 gAddI (eC (.int 2)) (e2 gModI (eCB gInt (aCons (eCall 2 (F_u_law_number c_Job) (aCons (eV 0) (aCons (eV 1) aNil))) aNil)) (eC (.int 3)))) (aCons (e2 gAddI (eC (.int 2)) (e2 gModI (eCB gInt (aCons (eCall 2 (F_u_law_number c_Job) (aCons (eV 0) (aCons (e2 gAddI (eVB 1) (eC (.int 1))) aNil))) aNil)) (eC (.int 3)))) aNil)))
  (gSeq (gParF 4 5 (eLst aNil) (eLst aNil))
  (gSeq (gFor (iR1 (eV 2)) (bN 6)
  (gApp 4 (e2 gModI (eCB gInt (aCons (eCall 2 (F_u_law_number c_Job) (aCons (eV 0) (aCons (e2 gAddI (e2 gAddI (eVB 1) (eC (.int 2))) (eVB 6)) aNil))) aNil)) (eC (.int 21)))))
  (gSeq (gFor (iR1 (eV 3)) (bN 7)
  (gSeq (gSet 8 (e2 gIx (eTup (aCons (eC (.int 3)) (aCons (eC (.int 7)) aNil))) (e2 gModI (eCB gInt (aCons (eCall 2 (F_u_law_number c_Job) (aCons (eV 0) (aCons (e2 gAddI (eVB 1) (eC (.int 8))) aNil))) aNil)) (eC (.int 2)))))
  (gSeq (gSet 9 (eLc (iR1 (eV 2)) ([(Str.ofString "at", 6)].map (·.2)) (bN 6) (eC (.bl true)) (e2 gModI (eCB gInt (aCons (eCall 2 (F_u_law_number c_Job) (aCons (eV 0) (aCons (e2 gAddI (e2 gAddI (e2 gAddI (eVB 1) (eC (.int 10))) (e2 gMulI (eC (.int 5)) (eVB 7))) (eVB 6)) aNil))) aNil)) (eVB 8))))
  (gSeq (gSet 9 (eIf (e2 gGt (eCB gSum (aCons (eVB 9) aNil)) (eC (.int 0))) (eV 9) (e2 gRep (eLst (aCons (eC (.int 1)) aNil)) (eVB 2))))
  (gApp 5 (eTup (aCons (e2 gModI (eCB gInt (aCons (eCall 2 (F_u_law_number c_Job) (aCons (eV 0) (aCons (e2 gAddI (e2 gAddI (eVB 1) (eC (.int 30))) (eVB 7)) aNil))) aNil)) (eC (.int 10))) (aCons (eCB gTupOf (aCons (eVB 9) aNil)) aNil))))))))
  (gRet (eTup (aCons (eCB gTupOf (aCons (eVB 4) aNil)) (aCons (eCB gTupOf (aCons (eVB 5) aNil)) aNil))))))))

def F_u_law_job (c_Job : Addr) : List D → Option D := mkF 10 (g_u_law_job c_Job)

def g_u_law_chances (c_Job : Addr) : DS1 := (gSeq (gSet 2 (e2 gIx (e2 gIx (e2 gIx (eVB 0) (eC (.int 1))) (eVB 1)) (eC (.int 1))))
  (gRet (eLc (iT (eV 2)) ([(Str.ofString "part", 3)].map (·.2)) (bN 3) (eC (.bl true)) (eCall 2 (F_u_law_lowest c_Job) (aCons (eV 3) (aCons (eCB gSum (aCons (eVB 2) aNil)) aNil))))))

def F_u_law_chances (c_Job : Addr) : List D → Option D := mkF 4 (g_u_law_chances c_Job)

def g_u_law_gain (c_Job : Addr) : DS1 := (gSeq (gIf (e2 (gIsN false) (eVB 1) (eC .non)) (gRet (eTup (aCons (eC (.int 0)) (aCons (eC (.int 1)) aNil)))) gNx)
  (gRet (eCall 2 (F_u_law_less c_Job) (aCons (eCall 2 (F_u_law_dot c_Job) (aCons (eCall 2 (F_u_law_chances c_Job) (aCons (eV 0) (aCons (eV 1) aNil))) (aCons (eV 2) aNil))) (aCons (eTup (aCons (e2 gIx (e2 gIx (e2 gIx (eVB 0) (eC (.int 1))) (eVB 1)) (eC (.int 0))) (aCons (eC (.int 1)) aNil))) aNil)))))

def F_u_law_gain (c_Job : Addr) : List D → Option D := mkF 3 (g_u_law_gain c_Job)

def g_u_law_worth (c_Job : Addr) : DS1 := (gSeq (gIf (e2 (gIsN false) (eVB 1) (eC .non)) (gRet (eTup (aCons (eC (.int 0)) (aCons (eC (.int 1)) aNil)))) gNx)
  (gRet (eCall 2 (F_u_law_dot c_Job) (aCons (eCall 2 (F_u_law_chances c_Job) (aCons (eV 0) (aCons (eV 1) aNil))) (aCons (eLc (iT (e2 gIx (eVB 0) (eC (.int 0)))) ([(Str.ofString "worth", 2)].map (·.2)) (bN 2) (eC (.bl true)) (eTup (aCons (eV 2) (aCons (eC (.int 1)) aNil)))) aNil)))))

def F_u_law_worth (c_Job : Addr) : List D → Option D := mkF 3 (g_u_law_worth c_Job)

def g_u_law_pay (c_Job : Addr) : DS1 := (gSeq (gSetF 3 (eLst aNil))
  (gSeq (gFor (iR1 (eV 2)) (bN 4)
  (gSeq (gSet 5 (eCall 2 (F_u_law_number c_Job) (aCons (eV 0) (aCons (e2 gAddI (eVB 1) (eVB 4)) aNil))))
  (gSeq (gPar 6 7 (aCons (e2 gIx (eTup (aCons (eC (.int 1)) (aCons (eC (.int 4)) (aCons (eC (.int 30)) (aCons (eC (.int 900)) aNil))))) (e2 gModI (eCB gInt (aCons (e2 gDivI (eVB 5) (eC (.int 7))) aNil)) (eC (.int 4)))) (aCons (e2 gIx (eTup (aCons (eC (.int 1)) (aCons (eC (.int 5)) (aCons (eC (.int 40)) aNil)))) (e2 gModI (eCB gInt (aCons (e2 gDivI (eVB 5) (eC (.int 90))) aNil)) (eC (.int 3)))) aNil)))
  (gApp 3 (eCall 2 (F_u_law_lowest c_Job) (aCons (e2 gModI (eCB gInt (aCons (eVB 5) aNil)) (eVB 6)) (aCons (e2 gAddI (eC (.int 1)) (e2 gModI (eCB gInt (aCons (e2 gDivI (eVB 5) (eC (.int 50))) aNil)) (eVB 7))) aNil)))))))
  (gRet (eCB gTupOf (aCons (eVB 3) aNil)))))

def F_u_law_pay (c_Job : Addr) : List D → Option D := mkF 8 (g_u_law_pay c_Job)

def g_u_law_pay_right (c_Job : Addr) : DS1 := (gSeq (gPar 2 3 (aCons (eMake c_Job 2 (F_JobD_initD c_Job) (aCons (e2 gIx (eVB 0) (eC (.int 0))) (aCons (e2 gIx (eVB 0) (eC (.int 1))) aNil))) (aCons (e2 gCat (eLst (aCons (eC .non) aNil)) (eLr (eCB gLen (aCons (e2 gIx (eVB 0) (eC (.int 1))) aNil)))) aNil)))
  (gSeq (gSet 4 (eLc (iL (eV 3)) ([(Str.ofString "work", 5)].map (·.2)) (bN 5) (eC (.bl true)) (eCall 3 (F_u_law_gain c_Job) (aCons (eV 0) (aCons (eV 5) (aCons (eV 1) aNil))))))
  (gSeq (gFor (iL (eSl (eVB 3) (oSome (eC (.int 1))) oNone)) (bN 5)
  (gSeq (gIf (e2 (eqD true) (eCall 3 (F_gain c_Job) (aCons (eV 2) (aCons (eV 5) (aCons (eV 1) aNil)))) (e2 gIx (eVB 4) (e2 gAddI (eVB 5) (eC (.int 1))))) (gRet (eC (.bl false))) gNx)
  (gSeq (gSet 6 (eCall 2 (F_u_law_sum c_Job) (aCons (e2 gIx (eVB 4) (e2 gAddI (eVB 5) (eC (.int 1)))) (aCons (eTup (aCons (e2 gIx (e2 gIx (e2 gIx (eVB 0) (eC (.int 1))) (eVB 5)) (eC (.int 0))) (aCons (eC (.int 1)) aNil))) aNil))))
  (gIf (e2 (eqD true) (eCall 3 (F_profit c_Job) (aCons (eV 2) (aCons (eV 5) (aCons (eV 1) aNil)))) (eCall 2 (F_u_law_less c_Job) (aCons (eCall 2 (F_u_law_worth c_Job) (aCons (eV 0) (aCons (eV 5) aNil))) (aCons (eV 6) aNil)))) (gRet (eC (.bl false))) gNx))))
  (gSeq (gSet 7 (eLc (iZX (eV 3) (eV 4)) ([(Str.ofString "work", 5), (Str.ofString "one", 8)].map (·.2)) (bT (bCons (bN 5) (bCons (bN 8) bNil))) (eNot (eCB gAny (aCons (eLc (iL (eV 4)) ([(Str.ofString "other", 9)].map (·.2)) (bN 9) (eC (.bl true)) (eCall 2 (F_u_law_below c_Job) (aCons (eV 8) (aCons (eV 9) aNil)))) aNil))) (eV 5)))
  (gRet (e2 (eqD false) (eCall 2 (F_wanted c_Job) (aCons (eV 2) (aCons (eV 1) aNil))) (eVB 7)))))))

def F_u_law_pay_right (c_Job : Addr) : List D → Option D := mkF 10 (g_u_law_pay_right c_Job)

def g_u_law_all_right (c_Job : Addr) : DS1 := (gSeq (gFor (iR1 (eC (.int 3))) (bN 1)
  (gSeq (gSet 2 (eCall 2 (F_u_law_job c_Job) (aCons (eV 0) (aCons (e2 gAddI (eC (.int 10)) (e2 gMulI (eC (.int 50)) (eVB 1))) aNil))))
  (gSeq (gSet 3 (eMake c_Job 2 (F_JobD_initD c_Job) (aCons (e2 gIx (eVB 2) (eC (.int 0))) (aCons (e2 gIx (eVB 2) (eC (.int 1))) aNil))))
  (gSeq (gIf (eOr (e2 (eqD true) (eProp c_Job (F_Job_worths c_Job) (eV 3)) (e2 gIx (eVB 2) (eC (.int 0)))) (eOr (e2 (eqD true) (eProp c_Job (F_Job_works c_Job) (eV 3)) (e2 gIx (eVB 2) (eC (.int 1)))) (e2 (eqD true) (eCB (fun x => (gLen x).or (gLenO c_Job (F_JobD_lenD c_Job) x)) (aCons (eVB 3) aNil)) (eCB gLen (aCons (e2 gIx (eVB 2) (eC (.int 1))) aNil))))) (gRet (eC (.bl false))) gNx)
  (gSeq (gFor (iR1 (eC (.int 3))) (bN 4)
  (gSeq (gSet 5 (eCall 3 (F_u_law_pay c_Job) (aCons (eV 0) (aCons (e2 gAddI (e2 gAddI (eC (.int 200)) (e2 gMulI (eC (.int 20)) (eVB 1))) (e2 gMulI (eC (.int 5)) (eVB 4))) (aCons (eCB gLen (aCons (e2 gIx (eVB 2) (eC (.int 0))) aNil)) aNil)))))
  (gIf (eNot (eCall 2 (F_u_law_pay_right c_Job) (aCons (eV 2) (aCons (eV 5) aNil)))) (gRet (eC (.bl false))) gNx)))
  (gSeq (gSet 6 (e2 gRepT (eTup (aCons (eTup (aCons (e2 gIx (e2 gIx (e2 gIx (eVB 2) (eC (.int 1))) (eC (.int 0))) (eC (.int 0))) (aCons (eC (.int 1)) aNil))) aNil)) (eCB gLen (aCons (e2 gIx (eVB 2) (eC (.int 0))) aNil))))
  (gIf (eOr (eNot (eCall 2 (F_u_law_pay_right c_Job) (aCons (eV 2) (aCons (eV 6) aNil)))) (eNot (eCall 2 (F_u_law_pay_right c_Job) (aCons (eV 2) (aCons (e2 gRepT (eTup (aCons (eTup (aCons (eC (.int 0)) (aCons (eC (.int 1)) aNil))) aNil)) (eCB gLen (aCons (e2 gIx (eVB 2) (eC (.int 0))) aNil))) aNil))))) (gRet (eC (.bl false))) gNx)))))))
  (gRet (eC (.bl true))))

def F_u_law_all_right (c_Job : Addr) : List D → Option D := mkF 7 (g_u_law_all_right c_Job)

end
end K01

set_option maxHeartbeats 8000000
namespace K01
open PySem PySem.Spec PyProof.Rows L2 DL
def topS (i : Nat) : Stmt := PySem.Challenge.pw_outcomepay_k01_whole_jobs.main.body.getD i (.Pass ⟨0, 0, 0, 0⟩)
set_option genSizeOfSpec false in
set_option genInjectivity false in
structure Txt (K : PySem.W.Frag) (mg : Str → Option Value) where
  c_Job : Addr
  cl_Job : Cls K c_Job
  mc_Job : mg "Job" = some (.ref c_Job)
  na_Job_worths : NoAttr K c_Job "_worths"
  na_Job_works : NoAttr K c_Job "_works"
  k1_Job : PySem.W.findIn K (.ref c_Job) "__class__" = some (some (.builtin "object.__class__"))
  k4_Job : PySem.W.mroIn K c_Job (.type "object") = some true
  k5_Job : PySem.W.kitOne K (.ref c_Job) (.ref c_Job) = some true
  f_is_integer : Addr
  d_is_integer : FuncData
  fun_is_integer : Fun K "is_integer" "is_integer" (topS 8) f_is_integer d_is_integer
  b_is_integer : Binds K d_is_integer [Str.ofString "thing"] []
  m_is_integer : mg "is_integer" = some (.ref f_is_integer)
  f_is_integer_within : Addr
  d_is_integer_within : FuncData
  fun_is_integer_within : Fun K "is_integer_within" "is_integer_within" (topS 9) f_is_integer_within d_is_integer_within
  b_is_integer_within : Binds K d_is_integer_within [Str.ofString "thing", Str.ofString "least", Str.ofString "most"] []
  m_is_integer_within : mg "is_integer_within" = some (.ref f_is_integer_within)
  f_is_fraction : Addr
  d_is_fraction : FuncData
  fun_is_fraction : Fun K "is_fraction" "is_fraction" (topS 10) f_is_fraction d_is_fraction
  b_is_fraction : Binds K d_is_fraction [Str.ofString "thing"] []
  m_is_fraction : mg "is_fraction" = some (.ref f_is_fraction)
  f_is_amount : Addr
  d_is_amount : FuncData
  fun_is_amount : Fun K "is_amount" "is_amount" (topS 11) f_is_amount d_is_amount
  b_is_amount : Binds K d_is_amount [Str.ofString "thing"] []
  m_is_amount : mg "is_amount" = some (.ref f_is_amount)
  f_ratio : Addr
  d_ratio : FuncData
  fun_ratio : Fun K "ratio" "ratio" (topS 12) f_ratio d_ratio
  b_ratio : Binds K d_ratio [Str.ofString "top", Str.ofString "bottom"] []
  m_ratio : mg "ratio" = some (.ref f_ratio)
  f_plus : Addr
  d_plus : FuncData
  fun_plus : Fun K "plus" "plus" (topS 13) f_plus d_plus
  b_plus : Binds K d_plus [Str.ofString "one", Str.ofString "other"] []
  m_plus : mg "plus" = some (.ref f_plus)
  f_negative : Addr
  d_negative : FuncData
  fun_negative : Fun K "negative" "negative" (topS 14) f_negative d_negative
  b_negative : Binds K d_negative [Str.ofString "one"] []
  m_negative : mg "negative" = some (.ref f_negative)
  f_minus : Addr
  d_minus : FuncData
  fun_minus : Fun K "minus" "minus" (topS 15) f_minus d_minus
  b_minus : Binds K d_minus [Str.ofString "one", Str.ofString "other"] []
  m_minus : mg "minus" = some (.ref f_minus)
  f_times : Addr
  d_times : FuncData
  fun_times : Fun K "times" "times" (topS 16) f_times d_times
  b_times : Binds K d_times [Str.ofString "one", Str.ofString "other"] []
  m_times : mg "times" = some (.ref f_times)
  f_is_less : Addr
  d_is_less : FuncData
  fun_is_less : Fun K "is_less" "is_less" (topS 17) f_is_less d_is_less
  b_is_less : Binds K d_is_less [Str.ofString "one", Str.ofString "other"] []
  m_is_less : mg "is_less" = some (.ref f_is_less)
  f_total : Addr
  d_total : FuncData
  fun_total : Fun K "total" "total" (topS 18) f_total d_total
  b_total : Binds K d_total [Str.ofString "amounts"] []
  m_total : mg "total" = some (.ref f_total)
  f_weighted : Addr
  d_weighted : FuncData
  fun_weighted : Fun K "weighted" "weighted" (topS 19) f_weighted d_weighted
  b_weighted : Binds K d_weighted [Str.ofString "weights", Str.ofString "amounts"] []
  m_weighted : mg "weighted" = some (.ref f_weighted)
  f_u_are_parts : Addr
  d_u_are_parts : FuncData
  fun_u_are_parts : Fun K "_are_parts" "_are_parts" (topS 30) f_u_are_parts d_u_are_parts
  b_u_are_parts : Binds K d_u_are_parts [Str.ofString "parts", Str.ofString "outcomes"] []
  m_u_are_parts : mg "_are_parts" = some (.ref f_u_are_parts)
  f_u_is_work : Addr
  d_u_is_work : FuncData
  fun_u_is_work : Fun K "is_work" "is_work" (topS 29) f_u_is_work d_u_is_work
  b_u_is_work : Binds K d_u_is_work [Str.ofString "work", Str.ofString "outcomes"] []
  m_u_is_work : mg "is_work" = some (.ref f_u_is_work)
  f_u_are_works : Addr
  d_u_are_works : FuncData
  fun_u_are_works : Fun K "_are_works" "_are_works" (topS 28) f_u_are_works d_u_are_works
  b_u_are_works : Binds K d_u_are_works [Str.ofString "works", Str.ofString "outcomes"] []
  m_u_are_works : mg "_are_works" = some (.ref f_u_are_works)
  f_u_are_worths : Addr
  d_u_are_worths : FuncData
  fun_u_are_worths : Fun K "are_worths" "are_worths" (topS 27) f_u_are_worths d_u_are_worths
  b_u_are_worths : Binds K d_u_are_worths [Str.ofString "worths"] []
  m_u_are_worths : mg "are_worths" = some (.ref f_u_are_worths)
  f_JobD_initD : Addr
  d_JobD_initD : FuncData
  fun_JobD_initD : Fun K "__init__" "Job.__init__" (inClass (topS 26) 0) f_JobD_initD d_JobD_initD
  b_JobD_initD : Binds K d_JobD_initD [Str.ofString "self", Str.ofString "worths", Str.ofString "works"] []
  f_Job_worths : Addr
  d_Job_worths : FuncData
  fun_Job_worths : Fun K "worths" "Job.worths" (inClass (topS 26) 1) f_Job_worths d_Job_worths
  b_Job_worths : Binds K d_Job_worths [Str.ofString "self"] []
  p_Job_worths : Addr
  pr_Job_worths : PropOf K c_Job "worths" p_Job_worths f_Job_worths
  f_Job_works : Addr
  d_Job_works : FuncData
  fun_Job_works : Fun K "works" "Job.works" (inClass (topS 26) 2) f_Job_works d_Job_works
  b_Job_works : Binds K d_Job_works [Str.ofString "self"] []
  p_Job_works : Addr
  pr_Job_works : PropOf K c_Job "works" p_Job_works f_Job_works
  f_JobD_lenD : Addr
  d_JobD_lenD : FuncData
  fun_JobD_lenD : Fun K "__len__" "Job.__len__" (inClass (topS 26) 3) f_JobD_lenD d_JobD_lenD
  b_JobD_lenD : Binds K d_JobD_lenD [Str.ofString "self"] []
  me_JobD_lenD : Meth K c_Job "__len__" f_JobD_lenD
  f_check_job : Addr
  d_check_job : FuncData
  fun_check_job : Fun K "check_job" "check_job" (topS 31) f_check_job d_check_job
  b_check_job : Binds K d_check_job [Str.ofString "job"] []
  m_check_job : mg "check_job" = some (.ref f_check_job)
  f_check_work : Addr
  d_check_work : FuncData
  fun_check_work : Fun K "check_work" "check_work" (topS 32) f_check_work d_check_work
  b_check_work : Binds K d_check_work [Str.ofString "job", Str.ofString "work"] []
  m_check_work : mg "check_work" = some (.ref f_check_work)
  f_is_pay : Addr
  d_is_pay : FuncData
  fun_is_pay : Fun K "is_pay" "is_pay" (topS 33) f_is_pay d_is_pay
  b_is_pay : Binds K d_is_pay [Str.ofString "job", Str.ofString "pay"] []
  m_is_pay : mg "is_pay" = some (.ref f_is_pay)
  f_check_pay : Addr
  d_check_pay : FuncData
  fun_check_pay : Fun K "check_pay" "check_pay" (topS 34) f_check_pay d_check_pay
  b_check_pay : Binds K d_check_pay [Str.ofString "job", Str.ofString "pay"] []
  m_check_pay : mg "check_pay" = some (.ref f_check_pay)
  f_work_efforts : Addr
  d_work_efforts : FuncData
  fun_work_efforts : Fun K "work_efforts" "work_efforts" (topS 35) f_work_efforts d_work_efforts
  b_work_efforts : Binds K d_work_efforts [Str.ofString "job"] []
  m_work_efforts : mg "work_efforts" = some (.ref f_work_efforts)
  f_work_chances : Addr
  d_work_chances : FuncData
  fun_work_chances : Fun K "work_chances" "work_chances" (topS 36) f_work_chances d_work_chances
  b_work_chances : Binds K d_work_chances [Str.ofString "job", Str.ofString "work"] []
  m_work_chances : mg "work_chances" = some (.ref f_work_chances)
  f_average_pay : Addr
  d_average_pay : FuncData
  fun_average_pay : Fun K "average_pay" "average_pay" (topS 37) f_average_pay d_average_pay
  b_average_pay : Binds K d_average_pay [Str.ofString "job", Str.ofString "work", Str.ofString "pay"] []
  m_average_pay : mg "average_pay" = some (.ref f_average_pay)
  f_average_worth : Addr
  d_average_worth : FuncData
  fun_average_worth : Fun K "average_worth" "average_worth" (topS 38) f_average_worth d_average_worth
  b_average_worth : Binds K d_average_worth [Str.ofString "job", Str.ofString "work"] []
  m_average_worth : mg "average_worth" = some (.ref f_average_worth)
  f_gain : Addr
  d_gain : FuncData
  fun_gain : Fun K "gain" "gain" (topS 39) f_gain d_gain
  b_gain : Binds K d_gain [Str.ofString "job", Str.ofString "work", Str.ofString "pay"] []
  m_gain : mg "gain" = some (.ref f_gain)
  f_profit : Addr
  d_profit : FuncData
  fun_profit : Fun K "profit" "profit" (topS 40) f_profit d_profit
  b_profit : Binds K d_profit [Str.ofString "job", Str.ofString "work", Str.ofString "pay"] []
  m_profit : mg "profit" = some (.ref f_profit)
  f_wanted : Addr
  d_wanted : FuncData
  fun_wanted : Fun K "wanted" "wanted" (topS 41) f_wanted d_wanted
  b_wanted : Binds K d_wanted [Str.ofString "job", Str.ofString "pay"] []
  m_wanted : mg "wanted" = some (.ref f_wanted)
  f_u_law_number : Addr
  d_u_law_number : FuncData
  fun_u_law_number : Fun K "_law_number" "_law_number" (topS 43) f_u_law_number d_u_law_number
  b_u_law_number : Binds K d_u_law_number [Str.ofString "script", Str.ofString "index"] []
  m_u_law_number : mg "_law_number" = some (.ref f_u_law_number)
  f_u_law_lowest : Addr
  d_u_law_lowest : FuncData
  fun_u_law_lowest : Fun K "_law_lowest" "_law_lowest" (topS 44) f_u_law_lowest d_u_law_lowest
  b_u_law_lowest : Binds K d_u_law_lowest [Str.ofString "top", Str.ofString "bottom"] []
  m_u_law_lowest : mg "_law_lowest" = some (.ref f_u_law_lowest)
  f_u_law_sum : Addr
  d_u_law_sum : FuncData
  fun_u_law_sum : Fun K "_law_sum" "_law_sum" (topS 45) f_u_law_sum d_u_law_sum
  b_u_law_sum : Binds K d_u_law_sum [Str.ofString "one", Str.ofString "other"] []
  m_u_law_sum : mg "_law_sum" = some (.ref f_u_law_sum)
  f_u_law_less : Addr
  d_u_law_less : FuncData
  fun_u_law_less : Fun K "_law_less" "_law_less" (topS 46) f_u_law_less d_u_law_less
  b_u_law_less : Binds K d_u_law_less [Str.ofString "one", Str.ofString "other"] []
  m_u_law_less : mg "_law_less" = some (.ref f_u_law_less)
  f_u_law_product : Addr
  d_u_law_product : FuncData
  fun_u_law_product : Fun K "_law_product" "_law_product" (topS 47) f_u_law_product d_u_law_product
  b_u_law_product : Binds K d_u_law_product [Str.ofString "one", Str.ofString "other"] []
  m_u_law_product : mg "_law_product" = some (.ref f_u_law_product)
  f_u_law_below : Addr
  d_u_law_below : FuncData
  fun_u_law_below : Fun K "_law_below" "_law_below" (topS 48) f_u_law_below d_u_law_below
  b_u_law_below : Binds K d_u_law_below [Str.ofString "one", Str.ofString "other"] []
  m_u_law_below : mg "_law_below" = some (.ref f_u_law_below)
  f_u_law_dot : Addr
  d_u_law_dot : FuncData
  fun_u_law_dot : Fun K "_law_dot" "_law_dot" (topS 49) f_u_law_dot d_u_law_dot
  b_u_law_dot : Binds K d_u_law_dot [Str.ofString "row", Str.ofString "other"] []
  m_u_law_dot : mg "_law_dot" = some (.ref f_u_law_dot)
  f_u_law_job : Addr
  d_u_law_job : FuncData
  fun_u_law_job : Fun K "_law_job" "_law_job" (topS 50) f_u_law_job d_u_law_job
  b_u_law_job : Binds K d_u_law_job [Str.ofString "script", Str.ofString "index"] []
  m_u_law_job : mg "_law_job" = some (.ref f_u_law_job)
  f_u_law_chances : Addr
  d_u_law_chances : FuncData
  fun_u_law_chances : Fun K "_law_chances" "_law_chances" (topS 51) f_u_law_chances d_u_law_chances
  b_u_law_chances : Binds K d_u_law_chances [Str.ofString "pack", Str.ofString "work"] []
  m_u_law_chances : mg "_law_chances" = some (.ref f_u_law_chances)
  f_u_law_gain : Addr
  d_u_law_gain : FuncData
  fun_u_law_gain : Fun K "_law_gain" "_law_gain" (topS 52) f_u_law_gain d_u_law_gain
  b_u_law_gain : Binds K d_u_law_gain [Str.ofString "pack", Str.ofString "work", Str.ofString "pay"] []
  m_u_law_gain : mg "_law_gain" = some (.ref f_u_law_gain)
  f_u_law_worth : Addr
  d_u_law_worth : FuncData
  fun_u_law_worth : Fun K "_law_worth" "_law_worth" (topS 53) f_u_law_worth d_u_law_worth
  b_u_law_worth : Binds K d_u_law_worth [Str.ofString "pack", Str.ofString "work"] []
  m_u_law_worth : mg "_law_worth" = some (.ref f_u_law_worth)
  f_u_law_pay : Addr
  d_u_law_pay : FuncData
  fun_u_law_pay : Fun K "_law_pay" "_law_pay" (topS 54) f_u_law_pay d_u_law_pay
  b_u_law_pay : Binds K d_u_law_pay [Str.ofString "script", Str.ofString "index", Str.ofString "many"] []
  m_u_law_pay : mg "_law_pay" = some (.ref f_u_law_pay)
  f_u_law_pay_right : Addr
  d_u_law_pay_right : FuncData
  fun_u_law_pay_right : Fun K "_law_pay_right" "_law_pay_right" (topS 55) f_u_law_pay_right d_u_law_pay_right
  b_u_law_pay_right : Binds K d_u_law_pay_right [Str.ofString "pack", Str.ofString "pay"] []
  m_u_law_pay_right : mg "_law_pay_right" = some (.ref f_u_law_pay_right)
  f_u_law_all_right : Addr
  d_u_law_all_right : FuncData
  fun_u_law_all_right : Fun K "_law_all_right" "_law_all_right" (topS 56) f_u_law_all_right d_u_law_all_right
  b_u_law_all_right : Binds K d_u_law_all_right [Str.ofString "script"] []
  m_u_law_all_right : mg "_law_all_right" = some (.ref f_u_law_all_right)
  mk_Job : Mk K c_Job f_JobD_initD
  n_abs : mg "abs" = none
  n_all : mg "all" = none
  n_any : mg "any" = none
  n_bool : mg "bool" = none
  n_int : mg "int" = none
  n_isinstance : mg "isinstance" = none
  n_len : mg "len" = none
  n_list : mg "list" = none
  n_range : mg "range" = none
  n_sum : mg "sum" = none
  n_tuple : mg "tuple" = none
  n_zip : mg "zip" = none
  t_FEWEST : Tok
  m_FEWEST : mg "FEWEST" = some (.int 2 t_FEWEST)
  t_MOST : Tok
  m_MOST : mg "MOST" = some (.int 4 t_MOST)
  t_MOST_EFFORT : Tok
  m_MOST_EFFORT : mg "MOST_EFFORT" = some (.int 9 t_MOST_EFFORT)
  t_MOST_PART : Tok
  m_MOST_PART : mg "MOST_PART" = some (.int 6 t_MOST_PART)
  t_MOST_WORTH : Tok
  m_MOST_WORTH : mg "MOST_WORTH" = some (.int 20 t_MOST_WORTH)
  a_ZERO : Addr
  m_ZERO : mg "ZERO" = some (.ref a_ZERO)
  r_ZERO : ∀ H, Rep K H (.ref a_ZERO) (.tup [(.int 0), (.int 1)])
  m_gcd : mg "gcd" = some (.builtin "math.gcd")
  k2 : PySem.W.specialIn K (.builtin "object.__class__") "__get__" = some (some (.builtin "getset_descriptor.__get__"))
  k3 : PySem.W.takesIn K (.builtin "object.__class__") = some true
end K01

set_option maxHeartbeats 8000000
namespace K01
open PySem PySem.Spec PyProof.Rows L2 DL
section
variable {P : Program} {w : World} {K : PySem.W.Frag} {mg : Str → Option Value} {base : Heap}
abbrev s_is_integer : Stmt := topS 8
theorem sc_is_integer : FnScope [Str.ofString "thing"] [Str.ofString "thing"] (defScope s_is_integer) := ⟨rfl, rfl, rfl, by decide +kernel, rfl, by decide +kernel, by decide +kernel⟩

theorem ok_is_integer (T : Txt K mg) : FnOk P w K mg base CX0 1 T.f_is_integer T.d_is_integer [Str.ofString "thing"] (spD K 1 (F_is_integer T.c_Job)) := by
  unfold F_is_integer
  refine def_ok' s_is_integer [Str.ofString "thing"] [Str.ofString "thing"] 0 1 1 (g_is_integer T.c_Job) T.fun_is_integer sc_is_integer rfl rfl fun cdv A outer s H E hr => ?_
  have hu := hr.units
  exact (dss_one (ds_ret (de_and (de_isi (by rfl) T.n_isinstance (by decide +kernel) (db_var 0 (pv 0)) (pe_bltn (by rfl) T.n_int (by decide +kernel) rfl)) (de_and1 (de_not (de_isi (by rfl) T.n_isinstance (by decide +kernel) (db_var 0 (pv 0)) (pe_bltn (by rfl) T.n_bool (by decide +kernel) rfl)))))))

abbrev s_is_integer_within : Stmt := topS 9
theorem sc_is_integer_within : FnScope [Str.ofString "thing", Str.ofString "least", Str.ofString "most"] [Str.ofString "thing", Str.ofString "least", Str.ofString "most"] (defScope s_is_integer_within) := ⟨rfl, rfl, rfl, by decide +kernel, rfl, by decide +kernel, by decide +kernel⟩

theorem ok_is_integer_within (T : Txt K mg) : FnOk P w K mg base CX0 2 T.f_is_integer_within T.d_is_integer_within [Str.ofString "thing", Str.ofString "least", Str.ofString "most"] (spD K 3 (F_is_integer_within T.c_Job)) := by
  unfold F_is_integer_within
  refine def_ok' s_is_integer_within [Str.ofString "thing", Str.ofString "least", Str.ofString "most"] [Str.ofString "thing", Str.ofString "least", Str.ofString "most"] 1 3 3 (g_is_integer_within T.c_Job) T.fun_is_integer_within sc_is_integer_within rfl rfl fun cdv A outer s H E hr => ?_
  have hu := hr.units
  exact (dss_one (ds_ret (de_and (de_call (ok_is_integer T) (hr.mono (by decide)) (by rfl) T.m_is_integer T.fun_is_integer.kp T.b_is_integer (da_cons (de_var 0 (pv 0)) da_nil)) (de_and1 (de_chain od_le od_le (db_var 1 (pv 1)) (db_var 0 (pv 0)) (db_var 2 (pv 2)))))))

abbrev s_is_fraction : Stmt := topS 10
theorem sc_is_fraction : FnScope [Str.ofString "thing", Str.ofString "top", Str.ofString "bottom"] [Str.ofString "thing"] (defScope s_is_fraction) := ⟨rfl, rfl, rfl, by decide +kernel, rfl, by decide +kernel, by decide +kernel⟩

theorem ok_is_fraction (T : Txt K mg) : FnOk P w K mg base CX0 2 T.f_is_fraction T.d_is_fraction [Str.ofString "thing"] (spD K 1 (F_is_fraction T.c_Job)) := by
  unfold F_is_fraction
  refine def_ok' s_is_fraction [Str.ofString "thing", Str.ofString "top", Str.ofString "bottom"] [Str.ofString "thing"] 1 3 1 (g_is_fraction T.c_Job) T.fun_is_fraction sc_is_fraction rfl rfl fun cdv A outer s H E hr => ?_
  have hu := hr.units
  exact (dss_cons (ds_if (dt_w (dw_or (dt_not (dt_val (de_isi (by rfl) T.n_isinstance (by decide +kernel) (db_var 0 (pv 0)) (pe_bltn (by rfl) T.n_tuple (by decide +kernel) rfl)))) (dw_or1 (dt_cmp (od_ne hu) (db_of (de_callB cd_len (by rfl) T.n_len (by decide +kernel) (dab_cons (db_var 0 (pv 0)) dab_nil))) (db_of de_int) (nomark _))))) (dss_one (ds_ret de_bl)) dss_nil)
      (dss_cons (ds_asg (de_var 0 (pv 0)) (dg_tup 2 rfl (dgs_cons (dg_name 1 sc_is_fraction.nd) (dgs_cons (dg_name 2 sc_is_fraction.nd) dgs_nil)) (bCons_len (bCons_len bNil_len))))
      (dss_cons (ds_if (dt_w (dw_or (dt_not (dt_val (de_call (ok_is_integer T) (hr.mono (by decide)) (by rfl) T.m_is_integer T.fun_is_integer.kp T.b_is_integer (da_cons (de_var 1 (pv 1)) da_nil)))) (dw_or1 (dt_not (dt_val (de_call (ok_is_integer T) (hr.mono (by decide)) (by rfl) T.m_is_integer T.fun_is_integer.kp T.b_is_integer (da_cons (de_var 2 (pv 2)) da_nil))))))) (dss_one (ds_ret de_bl)) dss_nil)
      (dss_one (ds_ret (de_and (de_cmp od_ge (db_var 2 (pv 2)) (db_of de_int) (nomark _)) (de_and1 (de_cmp (od_eq hu) (db_of (de_callFun cd_gcd (by rfl) T.m_gcd (dab_cons (db_var 1 (pv 1)) (dab_cons (db_var 2 (pv 2)) dab_nil)) fun c h => pe_callBfun c (by rfl) T.m_gcd h)) (db_of de_int) (nomark _)))))))))

abbrev s_is_amount : Stmt := topS 11
theorem sc_is_amount : FnScope [Str.ofString "thing"] [Str.ofString "thing"] (defScope s_is_amount) := ⟨rfl, rfl, rfl, by decide +kernel, rfl, by decide +kernel, by decide +kernel⟩

theorem ok_is_amount (T : Txt K mg) : FnOk P w K mg base CX0 3 T.f_is_amount T.d_is_amount [Str.ofString "thing"] (spD K 1 (F_is_amount T.c_Job)) := by
  unfold F_is_amount
  refine def_ok' s_is_amount [Str.ofString "thing"] [Str.ofString "thing"] 2 1 1 (g_is_amount T.c_Job) T.fun_is_amount sc_is_amount rfl rfl fun cdv A outer s H E hr => ?_
  have hu := hr.units
  exact (dss_one (ds_ret (de_and (de_call (ok_is_fraction T) (hr.mono (by decide)) (by rfl) T.m_is_fraction T.fun_is_fraction.kp T.b_is_fraction (da_cons (de_var 0 (pv 0)) da_nil)) (de_and1 (de_cmp od_ge (db_of (de_ix (db_var 0 (pv 0)) (db_of de_int))) (db_of de_int) (nomark _))))))

abbrev s_ratio : Stmt := topS 12
theorem sc_ratio : FnScope [Str.ofString "top", Str.ofString "bottom", Str.ofString "shared"] [Str.ofString "top", Str.ofString "bottom"] (defScope s_ratio) := ⟨rfl, rfl, rfl, by decide +kernel, rfl, by decide +kernel, by decide +kernel⟩

theorem ok_ratio (T : Txt K mg) : FnOk P w K mg base CX0 1 T.f_ratio T.d_ratio [Str.ofString "top", Str.ofString "bottom"] (spD K 2 (F_ratio T.c_Job)) := by
  unfold F_ratio
  refine def_ok' s_ratio [Str.ofString "top", Str.ofString "bottom", Str.ofString "shared"] [Str.ofString "top", Str.ofString "bottom"] 0 3 2 (g_ratio T.c_Job) T.fun_ratio sc_ratio rfl rfl fun cdv A outer s H E hr => ?_
  have hu := hr.units
  exact (dss_cons (ds_set 2 sc_ratio.nd (de_callFun cd_gcd (by rfl) T.m_gcd (dab_cons (db_var 0 (pv 0)) (dab_cons (db_var 1 (pv 1)) dab_nil)) fun c h => pe_callBfun c (by rfl) T.m_gcd h))
      (dss_one (ds_ret (de_tup (da_cons (de_op od_div (db_var 0 (pv 0)) (db_var 2 (pv 2))) (da_cons (de_op od_div (db_var 1 (pv 1)) (db_var 2 (pv 2))) da_nil))))))

abbrev s_plus : Stmt := topS 13
theorem sc_plus : FnScope [Str.ofString "one", Str.ofString "other"] [Str.ofString "one", Str.ofString "other"] (defScope s_plus) := ⟨rfl, rfl, rfl, by decide +kernel, rfl, by decide +kernel, by decide +kernel⟩

theorem ok_plus (T : Txt K mg) : FnOk P w K mg base CX0 2 T.f_plus T.d_plus [Str.ofString "one", Str.ofString "other"] (spD K 2 (F_plus T.c_Job)) := by
  unfold F_plus
  refine def_ok' s_plus [Str.ofString "one", Str.ofString "other"] [Str.ofString "one", Str.ofString "other"] 1 2 2 (g_plus T.c_Job) T.fun_plus sc_plus rfl rfl fun cdv A outer s H E hr => ?_
  have hu := hr.units
  exact (dss_one (ds_ret (de_call (ok_ratio T) (hr.mono (by decide)) (by rfl) T.m_ratio T.fun_ratio.kp T.b_ratio (da_cons (de_op od_addI (db_of (de_op od_mulI (db_of (de_ix (db_var 0 (pv 0)) (db_of de_int))) (db_of (de_ix (db_var 1 (pv 1)) (db_of de_int))))) (db_of (de_op od_mulI (db_of (de_ix (db_var 1 (pv 1)) (db_of de_int))) (db_of (de_ix (db_var 0 (pv 0)) (db_of de_int)))))) (da_cons (de_op od_mulI (db_of (de_ix (db_var 0 (pv 0)) (db_of de_int))) (db_of (de_ix (db_var 1 (pv 1)) (db_of de_int)))) da_nil)))))

abbrev s_negative : Stmt := topS 14
theorem sc_negative : FnScope [Str.ofString "one"] [Str.ofString "one"] (defScope s_negative) := ⟨rfl, rfl, rfl, by decide +kernel, rfl, by decide +kernel, by decide +kernel⟩

theorem ok_negative (T : Txt K mg) : FnOk P w K mg base CX0 1 T.f_negative T.d_negative [Str.ofString "one"] (spD K 1 (F_negative T.c_Job)) := by
  unfold F_negative
  refine def_ok' s_negative [Str.ofString "one"] [Str.ofString "one"] 0 1 1 (g_negative T.c_Job) T.fun_negative sc_negative rfl rfl fun cdv A outer s H E hr => ?_
  have hu := hr.units
  exact (dss_one (ds_ret (de_tup (da_cons (de_neg (db_of (de_ix (db_var 0 (pv 0)) (db_of de_int)))) (da_cons (de_ix (db_var 0 (pv 0)) (db_of de_int)) da_nil)))))

abbrev s_minus : Stmt := topS 15
theorem sc_minus : FnScope [Str.ofString "one", Str.ofString "other"] [Str.ofString "one", Str.ofString "other"] (defScope s_minus) := ⟨rfl, rfl, rfl, by decide +kernel, rfl, by decide +kernel, by decide +kernel⟩

theorem ok_minus (T : Txt K mg) : FnOk P w K mg base CX0 3 T.f_minus T.d_minus [Str.ofString "one", Str.ofString "other"] (spD K 2 (F_minus T.c_Job)) := by
  unfold F_minus
  refine def_ok' s_minus [Str.ofString "one", Str.ofString "other"] [Str.ofString "one", Str.ofString "other"] 2 2 2 (g_minus T.c_Job) T.fun_minus sc_minus rfl rfl fun cdv A outer s H E hr => ?_
  have hu := hr.units
  exact (dss_one (ds_ret (de_call (ok_plus T) (hr.mono (by decide)) (by rfl) T.m_plus T.fun_plus.kp T.b_plus (da_cons (de_var 0 (pv 0)) (da_cons (de_call (ok_negative T) (hr.mono (by decide)) (by rfl) T.m_negative T.fun_negative.kp T.b_negative (da_cons (de_var 1 (pv 1)) da_nil)) da_nil)))))

abbrev s_times : Stmt := topS 16
theorem sc_times : FnScope [Str.ofString "one", Str.ofString "other"] [Str.ofString "one", Str.ofString "other"] (defScope s_times) := ⟨rfl, rfl, rfl, by decide +kernel, rfl, by decide +kernel, by decide +kernel⟩

theorem ok_times (T : Txt K mg) : FnOk P w K mg base CX0 2 T.f_times T.d_times [Str.ofString "one", Str.ofString "other"] (spD K 2 (F_times T.c_Job)) := by
  unfold F_times
  refine def_ok' s_times [Str.ofString "one", Str.ofString "other"] [Str.ofString "one", Str.ofString "other"] 1 2 2 (g_times T.c_Job) T.fun_times sc_times rfl rfl fun cdv A outer s H E hr => ?_
  have hu := hr.units
  exact (dss_one (ds_ret (de_call (ok_ratio T) (hr.mono (by decide)) (by rfl) T.m_ratio T.fun_ratio.kp T.b_ratio (da_cons (de_op od_mulI (db_of (de_ix (db_var 0 (pv 0)) (db_of de_int))) (db_of (de_ix (db_var 1 (pv 1)) (db_of de_int)))) (da_cons (de_op od_mulI (db_of (de_ix (db_var 0 (pv 0)) (db_of de_int))) (db_of (de_ix (db_var 1 (pv 1)) (db_of de_int)))) da_nil)))))

abbrev s_is_less : Stmt := topS 17
theorem sc_is_less : FnScope [Str.ofString "one", Str.ofString "other"] [Str.ofString "one", Str.ofString "other"] (defScope s_is_less) := ⟨rfl, rfl, rfl, by decide +kernel, rfl, by decide +kernel, by decide +kernel⟩

theorem ok_is_less (T : Txt K mg) : FnOk P w K mg base CX0 1 T.f_is_less T.d_is_less [Str.ofString "one", Str.ofString "other"] (spD K 2 (F_is_less T.c_Job)) := by
  unfold F_is_less
  refine def_ok' s_is_less [Str.ofString "one", Str.ofString "other"] [Str.ofString "one", Str.ofString "other"] 0 2 2 (g_is_less T.c_Job) T.fun_is_less sc_is_less rfl rfl fun cdv A outer s H E hr => ?_
  have hu := hr.units
  exact (dss_one (ds_ret (de_cmp od_lt (db_of (de_op od_mulI (db_of (de_ix (db_var 0 (pv 0)) (db_of de_int))) (db_of (de_ix (db_var 1 (pv 1)) (db_of de_int))))) (db_of (de_op od_mulI (db_of (de_ix (db_var 1 (pv 1)) (db_of de_int))) (db_of (de_ix (db_var 0 (pv 0)) (db_of de_int))))) (nomark _))))

abbrev s_total : Stmt := topS 18
theorem sc_total : FnScope [Str.ofString "amounts", Str.ofString "found", Str.ofString "amount"] [Str.ofString "amounts"] (defScope s_total) := ⟨rfl, rfl, rfl, by decide +kernel, rfl, by decide +kernel, by decide +kernel⟩

theorem ok_total (T : Txt K mg) : FnOk P w K mg base CX0 3 T.f_total T.d_total [Str.ofString "amounts"] (spD K 1 (F_total T.c_Job)) := by
  unfold F_total
  refine def_ok' s_total [Str.ofString "amounts", Str.ofString "found", Str.ofString "amount"] [Str.ofString "amounts"] 2 3 1 (g_total T.c_Job) T.fun_total sc_total rfl rfl fun cdv A outer s H E hr => ?_
  have hu := hr.units
  exact (dss_cons (ds_set 1 sc_total.nd (de_glob (pe_glob (v := L2.V.ref T.a_ZERO) rfl T.m_ZERO rfl) (fun _ => T.r_ZERO _)))
      (dss_cons (ds_for PassesOwn.never rfl (di_list (de_var 0 (pv 0))) (dg_name 2 sc_total.nd)
      (dss_one (ds_set 1 sc_total.nd (de_call (ok_plus T) (hr.mono (by decide)) (by rfl) T.m_plus T.fun_plus.kp T.b_plus (da_cons (de_var 1 (pv 1)) (da_cons (de_var 2 (pv 2)) da_nil))))))
      (dss_one (ds_ret (de_var 1 (pv 1))))))

abbrev s_weighted : Stmt := topS 19
theorem sc_weighted : FnScope [Str.ofString "weights", Str.ofString "amounts", Str.ofString "weight", Str.ofString "amount"] [Str.ofString "weights", Str.ofString "amounts"] (defScope s_weighted) := ⟨rfl, rfl, rfl, by decide +kernel, rfl, by decide +kernel, by decide +kernel⟩

theorem ok_weighted (T : Txt K mg) : FnOk P w K mg base CX0 4 T.f_weighted T.d_weighted [Str.ofString "weights", Str.ofString "amounts"] (spD K 2 (F_weighted T.c_Job)) := by
  unfold F_weighted
  refine def_ok' s_weighted [Str.ofString "weights", Str.ofString "amounts", Str.ofString "weight", Str.ofString "amount"] [Str.ofString "weights", Str.ofString "amounts"] 3 4 2 (g_weighted T.c_Job) T.fun_weighted sc_weighted rfl rfl fun cdv A outer s H E hr => ?_
  have hu := hr.units
  exact (dss_one (ds_ret (de_call (ok_total T) (hr.mono (by decide)) (by rfl) T.m_total T.fun_total.kp T.b_total (da_cons (de_of (df_lc [(Str.ofString "weight", 2), (Str.ofString "amount", 3)] rfl sc_weighted.nd (di_zipX (by rfl) T.n_zip (de_var 0 (pv 0)) (de_var 1 (pv 1))) (blkOk_by (by kernel_rfl)) (fun _ _ _ _ _ => (dg_tup 2 rfl (dgs_cons (dg_name 2 sc_weighted.nd) (dgs_cons (dg_name 3 sc_weighted.nd) dgs_nil)) (bCons_len (bCons_len bNil_len)))) (fun _ _ _ _ _ => dts_nil) (fun _ _ _ _ _ => (de_call (ok_times T) (hr.mono (by decide)) (by rfl) T.m_times T.fun_times.kp T.b_times (da_cons (de_var 2 (pv 2)) (da_cons (de_var 3 (pv 3)) da_nil)))))) da_nil))))

abbrev s_u_are_parts : Stmt := topS 30
theorem sc_u_are_parts : FnScope [Str.ofString "parts", Str.ofString "outcomes", Str.ofString "part"] [Str.ofString "parts", Str.ofString "outcomes"] (defScope s_u_are_parts) := ⟨rfl, rfl, rfl, by decide +kernel, rfl, by decide +kernel, by decide +kernel⟩

theorem ok_u_are_parts (T : Txt K mg) : FnOk P w K mg base CX0 3 T.f_u_are_parts T.d_u_are_parts [Str.ofString "parts", Str.ofString "outcomes"] (spD K 2 (F_u_are_parts T.c_Job)) := by
  unfold F_u_are_parts
  refine def_ok' s_u_are_parts [Str.ofString "parts", Str.ofString "outcomes", Str.ofString "part"] [Str.ofString "parts", Str.ofString "outcomes"] 2 3 2 (g_u_are_parts T.c_Job) T.fun_u_are_parts sc_u_are_parts rfl rfl fun cdv A outer s H E hr => ?_
  have hu := hr.units
  exact (dss_cons (ds_if (dt_w (dw_or (dt_not (dt_val (de_isi (by rfl) T.n_isinstance (by decide +kernel) (db_var 0 (pv 0)) (pe_bltn (by rfl) T.n_tuple (by decide +kernel) rfl)))) (dw_or1 (dt_cmp (od_ne hu) (db_of (de_callB cd_len (by rfl) T.n_len (by decide +kernel) (dab_cons (db_var 0 (pv 0)) dab_nil))) (db_var 1 (pv 1)) (nomark _))))) (dss_one (ds_ret de_bl)) dss_nil)
      (dss_one (ds_ret (de_and (de_callB (cd_all rfl) (by rfl) T.n_all (by decide +kernel) (dab_cons (db_of (de_of (df_lc [(Str.ofString "part", 2)] rfl sc_u_are_parts.nd (di_tup (de_var 0 (pv 0))) (blkOk_by (by kernel_rfl)) (fun _ _ _ _ _ => (dg_name 2 sc_u_are_parts.nd)) (fun _ _ _ _ _ => dts_nil) (fun _ _ _ _ _ => (de_call (ok_is_integer_within T) (hr.mono (by decide)) (by rfl) T.m_is_integer_within T.fun_is_integer_within.kp T.b_is_integer_within (da_cons (de_var 2 (pv 2)) (da_cons de_int (da_cons (de_glob (pe_glob (v := L2.V.int 6) rfl T.m_MOST_PART ⟨_, rfl⟩) (fun _ => .int _)) da_nil)))))))) dab_nil)) (de_and1 (de_cmp od_gt (db_of (de_callB (cd_sum rfl) (by rfl) T.n_sum (by decide +kernel) (dab_cons (db_var 0 (pv 0)) dab_nil))) (db_of de_int) (nomark _)))))))

abbrev s_u_is_work : Stmt := topS 29
theorem sc_u_is_work : FnScope [Str.ofString "work", Str.ofString "outcomes", Str.ofString "effort", Str.ofString "parts"] [Str.ofString "work", Str.ofString "outcomes"] (defScope s_u_is_work) := ⟨rfl, rfl, rfl, by decide +kernel, rfl, by decide +kernel, by decide +kernel⟩

theorem ok_u_is_work (T : Txt K mg) : FnOk P w K mg base CX0 4 T.f_u_is_work T.d_u_is_work [Str.ofString "work", Str.ofString "outcomes"] (spD K 2 (F_u_is_work T.c_Job)) := by
  unfold F_u_is_work
  refine def_ok' s_u_is_work [Str.ofString "work", Str.ofString "outcomes", Str.ofString "effort", Str.ofString "parts"] [Str.ofString "work", Str.ofString "outcomes"] 3 4 2 (g_u_is_work T.c_Job) T.fun_u_is_work sc_u_is_work rfl rfl fun cdv A outer s H E hr => ?_
  have hu := hr.units
  exact (dss_cons (ds_if (dt_w (dw_or (dt_not (dt_val (de_isi (by rfl) T.n_isinstance (by decide +kernel) (db_var 0 (pv 0)) (pe_bltn (by rfl) T.n_tuple (by decide +kernel) rfl)))) (dw_or1 (dt_cmp (od_ne hu) (db_of (de_callB cd_len (by rfl) T.n_len (by decide +kernel) (dab_cons (db_var 0 (pv 0)) dab_nil))) (db_of de_int) (nomark _))))) (dss_one (ds_ret de_bl)) dss_nil)
      (dss_cons (ds_asg (de_var 0 (pv 0)) (dg_tup 2 rfl (dgs_cons (dg_name 2 sc_u_is_work.nd) (dgs_cons (dg_name 3 sc_u_is_work.nd) dgs_nil)) (bCons_len (bCons_len bNil_len))))
      (dss_one (ds_ret (de_and (de_call (ok_is_integer_within T) (hr.mono (by decide)) (by rfl) T.m_is_integer_within T.fun_is_integer_within.kp T.b_is_integer_within (da_cons (de_var 2 (pv 2)) (da_cons de_int (da_cons (de_glob (pe_glob (v := L2.V.int 9) rfl T.m_MOST_EFFORT ⟨_, rfl⟩) (fun _ => .int _)) da_nil)))) (de_and1 (de_call (ok_u_are_parts T) (hr.mono (by decide)) (by rfl) T.m_u_are_parts T.fun_u_are_parts.kp T.b_u_are_parts (da_cons (de_var 3 (pv 3)) (da_cons (de_var 1 (pv 1)) da_nil)))))))))

abbrev s_u_are_works : Stmt := topS 28
theorem sc_u_are_works : FnScope [Str.ofString "works", Str.ofString "outcomes", Str.ofString "work"] [Str.ofString "works", Str.ofString "outcomes"] (defScope s_u_are_works) := ⟨rfl, rfl, rfl, by decide +kernel, rfl, by decide +kernel, by decide +kernel⟩

theorem ok_u_are_works (T : Txt K mg) : FnOk P w K mg base CX0 5 T.f_u_are_works T.d_u_are_works [Str.ofString "works", Str.ofString "outcomes"] (spD K 2 (F_u_are_works T.c_Job)) := by
  unfold F_u_are_works
  refine def_ok' s_u_are_works [Str.ofString "works", Str.ofString "outcomes", Str.ofString "work"] [Str.ofString "works", Str.ofString "outcomes"] 4 3 2 (g_u_are_works T.c_Job) T.fun_u_are_works sc_u_are_works rfl rfl fun cdv A outer s H E hr => ?_
  have hu := hr.units
  exact (dss_cons (ds_if (dt_w (dw_or (dt_not (dt_val (de_isi (by rfl) T.n_isinstance (by decide +kernel) (db_var 0 (pv 0)) (pe_bltn (by rfl) T.n_tuple (by decide +kernel) rfl)))) (dw_or1 (dt_not (dt_chain od_le od_le (db_of (de_glob (pe_glob (v := L2.V.int 2) rfl T.m_FEWEST ⟨_, rfl⟩) (fun _ => .int _))) (db_of (de_callB cd_len (by rfl) T.n_len (by decide +kernel) (dab_cons (db_var 0 (pv 0)) dab_nil))) (db_of (de_glob (pe_glob (v := L2.V.int 4) rfl T.m_MOST ⟨_, rfl⟩) (fun _ => .int _)))))))) (dss_one (ds_ret de_bl)) dss_nil)
      (dss_one (ds_ret (de_callB (cd_all rfl) (by rfl) T.n_all (by decide +kernel) (dab_cons (db_of (de_of (df_lc [(Str.ofString "work", 2)] rfl sc_u_are_works.nd (di_tup (de_var 0 (pv 0))) (blkOk_by (by kernel_rfl)) (fun _ _ _ _ _ => (dg_name 2 sc_u_are_works.nd)) (fun _ _ _ _ _ => dts_nil) (fun _ _ _ _ _ => (de_call (ok_u_is_work T) (hr.mono (by decide)) (by rfl) T.m_u_is_work T.fun_u_is_work.kp T.b_u_is_work (da_cons (de_var 2 (pv 2)) (da_cons (de_var 1 (pv 1)) da_nil))))))) dab_nil)))))

abbrev s_u_are_worths : Stmt := topS 27
theorem sc_u_are_worths : FnScope [Str.ofString "worths", Str.ofString "worth"] [Str.ofString "worths"] (defScope s_u_are_worths) := ⟨rfl, rfl, rfl, by decide +kernel, rfl, by decide +kernel, by decide +kernel⟩

theorem ok_u_are_worths (T : Txt K mg) : FnOk P w K mg base CX0 3 T.f_u_are_worths T.d_u_are_worths [Str.ofString "worths"] (spD K 1 (F_u_are_worths T.c_Job)) := by
  unfold F_u_are_worths
  refine def_ok' s_u_are_worths [Str.ofString "worths", Str.ofString "worth"] [Str.ofString "worths"] 2 2 1 (g_u_are_worths T.c_Job) T.fun_u_are_worths sc_u_are_worths rfl rfl fun cdv A outer s H E hr => ?_
  have hu := hr.units
  exact (dss_cons (ds_if (dt_w (dw_or (dt_not (dt_val (de_isi (by rfl) T.n_isinstance (by decide +kernel) (db_var 0 (pv 0)) (pe_bltn (by rfl) T.n_tuple (by decide +kernel) rfl)))) (dw_or1 (dt_not (dt_chain od_le od_le (db_of (de_glob (pe_glob (v := L2.V.int 2) rfl T.m_FEWEST ⟨_, rfl⟩) (fun _ => .int _))) (db_of (de_callB cd_len (by rfl) T.n_len (by decide +kernel) (dab_cons (db_var 0 (pv 0)) dab_nil))) (db_of (de_glob (pe_glob (v := L2.V.int 4) rfl T.m_MOST ⟨_, rfl⟩) (fun _ => .int _)))))))) (dss_one (ds_ret de_bl)) dss_nil)
      (dss_one (ds_ret (de_callB (cd_all rfl) (by rfl) T.n_all (by decide +kernel) (dab_cons (db_of (de_of (df_lc [(Str.ofString "worth", 1)] rfl sc_u_are_worths.nd (di_tup (de_var 0 (pv 0))) (blkOk_by (by kernel_rfl)) (fun _ _ _ _ _ => (dg_name 1 sc_u_are_worths.nd)) (fun _ _ _ _ _ => dts_nil) (fun _ _ _ _ _ => (de_call (ok_is_integer_within T) (hr.mono (by decide)) (by rfl) T.m_is_integer_within T.fun_is_integer_within.kp T.b_is_integer_within (da_cons (de_var 1 (pv 1)) (da_cons de_int (da_cons (de_glob (pe_glob (v := L2.V.int 20) rfl T.m_MOST_WORTH ⟨_, rfl⟩) (fun _ => .int _)) da_nil)))))))) dab_nil)))))

abbrev s_JobD_initD : Stmt := inClass (topS 26) 0
theorem sc_JobD_initD : FnScope [Str.ofString "self", Str.ofString "worths", Str.ofString "works", Str.ofString "effort", Str.ofString "parts"] [Str.ofString "self", Str.ofString "worths", Str.ofString "works"] (defScope s_JobD_initD) := ⟨rfl, rfl, rfl, by decide +kernel, rfl, by decide +kernel, by decide +kernel⟩

theorem ok_JobD_initD (T : Txt K mg) : FnOk P w K mg base CX0 6 T.f_JobD_initD T.d_JobD_initD [Str.ofString "self", Str.ofString "worths", Str.ofString "works"] (spI K T.c_Job 2 (F_JobD_initD T.c_Job)) := by
  refine init_ok' s_JobD_initD [Str.ofString "self", Str.ofString "worths", Str.ofString "works", Str.ofString "effort", Str.ofString "parts"] [Str.ofString "self", Str.ofString "worths", Str.ofString "works"] 5 4 2 (g_JobD_initD T.c_Job) (F_JobD_initD T.c_Job) T.fun_JobD_initD sc_JobD_initD rfl rfl (init_JobD_initD T.c_Job) fun cdv A outer s H E hr => ?_
  have hu := hr.units
  exact (dss_cons (ds_if (dt_not (dt_val (de_call (ok_u_are_worths T) (hr.mono (by decide)) (by rfl) T.m_u_are_worths T.fun_u_are_worths.kp T.b_u_are_worths (da_cons (de_var 1 (pv 1)) da_nil)))) (dss_one ds_stuck) dss_nil)
      (dss_cons (ds_if (dt_not (dt_val (de_call (ok_u_are_works T) (hr.mono (by decide)) (by rfl) T.m_u_are_works T.fun_u_are_works.kp T.b_u_are_works (da_cons (de_var 2 (pv 2)) (da_cons (de_callB cd_len (by rfl) T.n_len (by decide +kernel) (dab_cons (db_var 1 (pv 1)) dab_nil)) da_nil))))) (dss_one ds_stuck) dss_nil)
      (dss_cons (ds_fld 0 T.c_Job T.cl_Job T.na_Job_worths (pv 0) (de_callTy cd_tuple (by rfl) T.n_tuple (by decide +kernel) (dab_cons (db_var 1 (pv 1)) dab_nil)))
      (dss_one (ds_fld 0 T.c_Job T.cl_Job T.na_Job_works (pv 0) (de_callTy cd_tuple (by rfl) T.n_tuple (by decide +kernel) (dab_cons (db_of (de_of (df_lc [(Str.ofString "effort", 3), (Str.ofString "parts", 4)] rfl sc_JobD_initD.nd (di_tup (de_var 2 (pv 2))) (blkOk_by (by kernel_rfl)) (fun _ _ _ _ _ => (dg_tup 2 rfl (dgs_cons (dg_name 3 sc_JobD_initD.nd) (dgs_cons (dg_name 4 sc_JobD_initD.nd) dgs_nil)) (bCons_len (bCons_len bNil_len)))) (fun _ _ _ _ _ => dts_nil) (fun _ _ _ _ _ => (de_tup (da_cons (de_var 3 (pv 3)) (da_cons (de_callTy cd_tuple (by rfl) T.n_tuple (by decide +kernel) (dab_cons (db_var 4 (pv 4)) dab_nil)) da_nil))))))) dab_nil)))))))

abbrev s_Job_worths : Stmt := inClass (topS 26) 1
theorem sc_Job_worths : FnScope [Str.ofString "self"] [Str.ofString "self"] (defScope s_Job_worths) := ⟨rfl, rfl, rfl, by decide +kernel, rfl, by decide +kernel, by decide +kernel⟩

theorem ok_Job_worths (T : Txt K mg) : FnOk P w K mg base CX0 1 T.f_Job_worths T.d_Job_worths [Str.ofString "self"] (spD K 1 (F_Job_worths T.c_Job)) := by
  unfold F_Job_worths
  refine def_ok' s_Job_worths [Str.ofString "self"] [Str.ofString "self"] 0 1 1 (g_Job_worths T.c_Job) T.fun_Job_worths sc_Job_worths rfl rfl fun cdv A outer s H E hr => ?_
  have hu := hr.units
  exact (dss_one (ds_ret (de_fld T.c_Job T.cl_Job T.na_Job_worths (de_var 0 (pv 0)))))

abbrev s_Job_works : Stmt := inClass (topS 26) 2
theorem sc_Job_works : FnScope [Str.ofString "self"] [Str.ofString "self"] (defScope s_Job_works) := ⟨rfl, rfl, rfl, by decide +kernel, rfl, by decide +kernel, by decide +kernel⟩

theorem ok_Job_works (T : Txt K mg) : FnOk P w K mg base CX0 1 T.f_Job_works T.d_Job_works [Str.ofString "self"] (spD K 1 (F_Job_works T.c_Job)) := by
  unfold F_Job_works
  refine def_ok' s_Job_works [Str.ofString "self"] [Str.ofString "self"] 0 1 1 (g_Job_works T.c_Job) T.fun_Job_works sc_Job_works rfl rfl fun cdv A outer s H E hr => ?_
  have hu := hr.units
  exact (dss_one (ds_ret (de_fld T.c_Job T.cl_Job T.na_Job_works (de_var 0 (pv 0)))))

abbrev s_JobD_lenD : Stmt := inClass (topS 26) 3
theorem sc_JobD_lenD : FnScope [Str.ofString "self"] [Str.ofString "self"] (defScope s_JobD_lenD) := ⟨rfl, rfl, rfl, by decide +kernel, rfl, by decide +kernel, by decide +kernel⟩

theorem ok_JobD_lenD (T : Txt K mg) : FnOk P w K mg base CX0 1 T.f_JobD_lenD T.d_JobD_lenD [Str.ofString "self"] (spD K 1 (F_JobD_lenD T.c_Job)) := by
  unfold F_JobD_lenD
  refine def_ok' s_JobD_lenD [Str.ofString "self"] [Str.ofString "self"] 0 1 1 (g_JobD_lenD T.c_Job) T.fun_JobD_lenD sc_JobD_lenD rfl rfl fun cdv A outer s H E hr => ?_
  have hu := hr.units
  exact (dss_one (ds_ret (de_callB cd_len (by rfl) T.n_len (by decide +kernel) (dab_cons (db_of (de_fld T.c_Job T.cl_Job T.na_Job_works (de_var 0 (pv 0)))) dab_nil))))

abbrev s_check_job : Stmt := topS 31
theorem sc_check_job : FnScope [Str.ofString "job"] [Str.ofString "job"] (defScope s_check_job) := ⟨rfl, rfl, rfl, by decide +kernel, rfl, by decide +kernel, by decide +kernel⟩

theorem ok_check_job (T : Txt K mg) : FnOk P w K mg base CX0 1 T.f_check_job T.d_check_job [Str.ofString "job"] (spD K 1 (F_check_job T.c_Job)) := by
  unfold F_check_job
  refine def_ok' s_check_job [Str.ofString "job"] [Str.ofString "job"] 0 1 1 (g_check_job T.c_Job) T.fun_check_job sc_check_job rfl rfl fun cdv A outer s H E hr => ?_
  have hu := hr.units
  exact (dss_one (ds_if (dt_not (dt_val (de_isC T.cl_Job T.k1_Job T.k2 T.k3 T.k4_Job T.k5_Job (by rfl) T.n_isinstance (by decide +kernel) (de_var 0 (pv 0)) (pe_glob (by rfl) T.mc_Job rfl)))) (dss_one ds_stuck) dss_nil))

abbrev s_check_work : Stmt := topS 32
theorem sc_check_work : FnScope [Str.ofString "job", Str.ofString "work"] [Str.ofString "job", Str.ofString "work"] (defScope s_check_work) := ⟨rfl, rfl, rfl, by decide +kernel, rfl, by decide +kernel, by decide +kernel⟩

theorem ok_check_work (T : Txt K mg) : FnOk P w K mg base CX0 3 T.f_check_work T.d_check_work [Str.ofString "job", Str.ofString "work"] (spD K 2 (F_check_work T.c_Job)) := by
  unfold F_check_work
  refine def_ok' s_check_work [Str.ofString "job", Str.ofString "work"] [Str.ofString "job", Str.ofString "work"] 2 2 2 (g_check_work T.c_Job) T.fun_check_work sc_check_work rfl rfl fun cdv A outer s H E hr => ?_
  have hu := hr.units
  exact (dss_one (ds_if (dt_not (dt_val (de_call (ok_is_integer_within T) (hr.mono (by decide)) (by rfl) T.m_is_integer_within T.fun_is_integer_within.kp T.b_is_integer_within (da_cons (de_var 1 (pv 1)) (da_cons de_int (da_cons (de_op od_sub (db_of (de_lenO T.cl_Job T.me_JobD_lenD (ok_JobD_lenD T) (hr.mono (by decide)) T.b_JobD_lenD (by rfl) T.n_len PySem.boot_len (dab_cons (db_var 0 (pv 0)) dab_nil))) (db_of de_int)) da_nil)))))) (dss_one ds_stuck) dss_nil))

abbrev s_is_pay : Stmt := topS 33
theorem sc_is_pay : FnScope [Str.ofString "job", Str.ofString "pay", Str.ofString "amount"] [Str.ofString "job", Str.ofString "pay"] (defScope s_is_pay) := ⟨rfl, rfl, rfl, by decide +kernel, rfl, by decide +kernel, by decide +kernel⟩

theorem ok_is_pay (T : Txt K mg) : FnOk P w K mg base CX0 4 T.f_is_pay T.d_is_pay [Str.ofString "job", Str.ofString "pay"] (spD K 2 (F_is_pay T.c_Job)) := by
  unfold F_is_pay
  refine def_ok' s_is_pay [Str.ofString "job", Str.ofString "pay", Str.ofString "amount"] [Str.ofString "job", Str.ofString "pay"] 3 3 2 (g_is_pay T.c_Job) T.fun_is_pay sc_is_pay rfl rfl fun cdv A outer s H E hr => ?_
  have hu := hr.units
  exact (dss_cons (ds_if (dt_w (dw_or (dt_not (dt_val (de_isi (by rfl) T.n_isinstance (by decide +kernel) (db_var 1 (pv 1)) (pe_bltn (by rfl) T.n_tuple (by decide +kernel) rfl)))) (dw_or1 (dt_cmp (od_ne hu) (db_of (de_callB cd_len (by rfl) T.n_len (by decide +kernel) (dab_cons (db_var 1 (pv 1)) dab_nil))) (db_of (de_callB cd_len (by rfl) T.n_len (by decide +kernel) (dab_cons (db_of (de_prop T.cl_Job T.pr_Job_worths (ok_Job_worths T) (hr.mono (by decide)) T.b_Job_worths (de_var 0 (pv 0)))) dab_nil))) (nomark _))))) (dss_one (ds_ret de_bl)) dss_nil)
      (dss_one (ds_ret (de_callB (cd_all rfl) (by rfl) T.n_all (by decide +kernel) (dab_cons (db_of (de_of (df_lc [(Str.ofString "amount", 2)] rfl sc_is_pay.nd (di_tup (de_var 1 (pv 1))) (blkOk_by (by kernel_rfl)) (fun _ _ _ _ _ => (dg_name 2 sc_is_pay.nd)) (fun _ _ _ _ _ => dts_nil) (fun _ _ _ _ _ => (de_call (ok_is_amount T) (hr.mono (by decide)) (by rfl) T.m_is_amount T.fun_is_amount.kp T.b_is_amount (da_cons (de_var 2 (pv 2)) da_nil)))))) dab_nil)))))

abbrev s_check_pay : Stmt := topS 34
theorem sc_check_pay : FnScope [Str.ofString "job", Str.ofString "pay"] [Str.ofString "job", Str.ofString "pay"] (defScope s_check_pay) := ⟨rfl, rfl, rfl, by decide +kernel, rfl, by decide +kernel, by decide +kernel⟩

theorem ok_check_pay (T : Txt K mg) : FnOk P w K mg base CX0 5 T.f_check_pay T.d_check_pay [Str.ofString "job", Str.ofString "pay"] (spD K 2 (F_check_pay T.c_Job)) := by
  unfold F_check_pay
  refine def_ok' s_check_pay [Str.ofString "job", Str.ofString "pay"] [Str.ofString "job", Str.ofString "pay"] 4 2 2 (g_check_pay T.c_Job) T.fun_check_pay sc_check_pay rfl rfl fun cdv A outer s H E hr => ?_
  have hu := hr.units
  exact (dss_one (ds_if (dt_not (dt_val (de_call (ok_is_pay T) (hr.mono (by decide)) (by rfl) T.m_is_pay T.fun_is_pay.kp T.b_is_pay (da_cons (de_var 0 (pv 0)) (da_cons (de_var 1 (pv 1)) da_nil))))) (dss_one ds_stuck) dss_nil))

abbrev s_work_efforts : Stmt := topS 35
theorem sc_work_efforts : FnScope [Str.ofString "job", Str.ofString "effort", Str.ofString "parts"] [Str.ofString "job"] (defScope s_work_efforts) := ⟨rfl, rfl, rfl, by decide +kernel, rfl, by decide +kernel, by decide +kernel⟩

theorem ok_work_efforts (T : Txt K mg) : FnOk P w K mg base CX0 3 T.f_work_efforts T.d_work_efforts [Str.ofString "job"] (spD K 1 (F_work_efforts T.c_Job)) := by
  unfold F_work_efforts
  refine def_ok' s_work_efforts [Str.ofString "job", Str.ofString "effort", Str.ofString "parts"] [Str.ofString "job"] 2 3 1 (g_work_efforts T.c_Job) T.fun_work_efforts sc_work_efforts rfl rfl fun cdv A outer s H E hr => ?_
  have hu := hr.units
  exact (dss_one (ds_ret (de_of (df_lc [(Str.ofString "effort", 1), (Str.ofString "parts", 2)] rfl sc_work_efforts.nd (di_tup (de_prop T.cl_Job T.pr_Job_works (ok_Job_works T) (hr.mono (by decide)) T.b_Job_works (de_var 0 (pv 0)))) (blkOk_by (by kernel_rfl)) (fun _ _ _ _ _ => (dg_tup 2 rfl (dgs_cons (dg_name 1 sc_work_efforts.nd) (dgs_cons (dg_name 2 sc_work_efforts.nd) dgs_nil)) (bCons_len (bCons_len bNil_len)))) (fun _ _ _ _ _ => dts_nil) (fun _ _ _ _ _ => (de_tup (da_cons (de_var 1 (pv 1)) (da_cons de_int da_nil))))))))

abbrev s_work_chances : Stmt := topS 36
theorem sc_work_chances : FnScope [Str.ofString "job", Str.ofString "work", Str.ofString "parts", Str.ofString "part"] [Str.ofString "job", Str.ofString "work"] (defScope s_work_chances) := ⟨rfl, rfl, rfl, by decide +kernel, rfl, by decide +kernel, by decide +kernel⟩

theorem ok_work_chances (T : Txt K mg) : FnOk P w K mg base CX0 3 T.f_work_chances T.d_work_chances [Str.ofString "job", Str.ofString "work"] (spD K 2 (F_work_chances T.c_Job)) := by
  unfold F_work_chances
  refine def_ok' s_work_chances [Str.ofString "job", Str.ofString "work", Str.ofString "parts", Str.ofString "part"] [Str.ofString "job", Str.ofString "work"] 2 4 2 (g_work_chances T.c_Job) T.fun_work_chances sc_work_chances rfl rfl fun cdv A outer s H E hr => ?_
  have hu := hr.units
  exact (dss_cons (ds_set 2 sc_work_chances.nd (de_ix (db_of (de_ix (db_of (de_prop T.cl_Job T.pr_Job_works (ok_Job_works T) (hr.mono (by decide)) T.b_Job_works (de_var 0 (pv 0)))) (db_var 1 (pv 1)))) (db_of de_int)))
      (dss_one (ds_ret (de_of (df_lc [(Str.ofString "part", 3)] rfl sc_work_chances.nd (di_tup (de_var 2 (pv 2))) (blkOk_by (by kernel_rfl)) (fun _ _ _ _ _ => (dg_name 3 sc_work_chances.nd)) (fun _ _ _ _ _ => dts_nil) (fun _ _ _ _ _ => (de_call (ok_ratio T) (hr.mono (by decide)) (by rfl) T.m_ratio T.fun_ratio.kp T.b_ratio (da_cons (de_var 3 (pv 3)) (da_cons (de_callB (cd_sum rfl) (by rfl) T.n_sum (by decide +kernel) (dab_cons (db_var 2 (pv 2)) dab_nil)) da_nil)))))))))

abbrev s_average_pay : Stmt := topS 37
theorem sc_average_pay : FnScope [Str.ofString "job", Str.ofString "work", Str.ofString "pay"] [Str.ofString "job", Str.ofString "work", Str.ofString "pay"] (defScope s_average_pay) := ⟨rfl, rfl, rfl, by decide +kernel, rfl, by decide +kernel, by decide +kernel⟩

theorem ok_average_pay (T : Txt K mg) : FnOk P w K mg base CX0 5 T.f_average_pay T.d_average_pay [Str.ofString "job", Str.ofString "work", Str.ofString "pay"] (spD K 3 (F_average_pay T.c_Job)) := by
  unfold F_average_pay
  refine def_ok' s_average_pay [Str.ofString "job", Str.ofString "work", Str.ofString "pay"] [Str.ofString "job", Str.ofString "work", Str.ofString "pay"] 4 3 3 (g_average_pay T.c_Job) T.fun_average_pay sc_average_pay rfl rfl fun cdv A outer s H E hr => ?_
  have hu := hr.units
  exact (dss_one (ds_ret (de_call (ok_weighted T) (hr.mono (by decide)) (by rfl) T.m_weighted T.fun_weighted.kp T.b_weighted (da_cons (de_call (ok_work_chances T) (hr.mono (by decide)) (by rfl) T.m_work_chances T.fun_work_chances.kp T.b_work_chances (da_cons (de_var 0 (pv 0)) (da_cons (de_var 1 (pv 1)) da_nil))) (da_cons (de_var 2 (pv 2)) da_nil)))))

abbrev s_average_worth : Stmt := topS 38
theorem sc_average_worth : FnScope [Str.ofString "job", Str.ofString "work", Str.ofString "worth"] [Str.ofString "job", Str.ofString "work"] (defScope s_average_worth) := ⟨rfl, rfl, rfl, by decide +kernel, rfl, by decide +kernel, by decide +kernel⟩

theorem ok_average_worth (T : Txt K mg) : FnOk P w K mg base CX0 5 T.f_average_worth T.d_average_worth [Str.ofString "job", Str.ofString "work"] (spD K 2 (F_average_worth T.c_Job)) := by
  unfold F_average_worth
  refine def_ok' s_average_worth [Str.ofString "job", Str.ofString "work", Str.ofString "worth"] [Str.ofString "job", Str.ofString "work"] 4 3 2 (g_average_worth T.c_Job) T.fun_average_worth sc_average_worth rfl rfl fun cdv A outer s H E hr => ?_
  have hu := hr.units
  exact (dss_one (ds_ret (de_call (ok_weighted T) (hr.mono (by decide)) (by rfl) T.m_weighted T.fun_weighted.kp T.b_weighted (da_cons (de_call (ok_work_chances T) (hr.mono (by decide)) (by rfl) T.m_work_chances T.fun_work_chances.kp T.b_work_chances (da_cons (de_var 0 (pv 0)) (da_cons (de_var 1 (pv 1)) da_nil))) (da_cons (de_of (df_lc [(Str.ofString "worth", 2)] rfl sc_average_worth.nd (di_tup (de_prop T.cl_Job T.pr_Job_worths (ok_Job_worths T) (hr.mono (by decide)) T.b_Job_worths (de_var 0 (pv 0)))) (blkOk_by (by kernel_rfl)) (fun _ _ _ _ _ => (dg_name 2 sc_average_worth.nd)) (fun _ _ _ _ _ => dts_nil) (fun _ _ _ _ _ => (de_tup (da_cons (de_var 2 (pv 2)) (da_cons de_int da_nil)))))) da_nil)))))

abbrev s_gain : Stmt := topS 39
theorem sc_gain : FnScope [Str.ofString "job", Str.ofString "work", Str.ofString "pay"] [Str.ofString "job", Str.ofString "work", Str.ofString "pay"] (defScope s_gain) := ⟨rfl, rfl, rfl, by decide +kernel, rfl, by decide +kernel, by decide +kernel⟩

theorem ok_gain (T : Txt K mg) : FnOk P w K mg base CX0 6 T.f_gain T.d_gain [Str.ofString "job", Str.ofString "work", Str.ofString "pay"] (spD K 3 (F_gain T.c_Job)) := by
  unfold F_gain
  refine def_ok' s_gain [Str.ofString "job", Str.ofString "work", Str.ofString "pay"] [Str.ofString "job", Str.ofString "work", Str.ofString "pay"] 5 3 3 (g_gain T.c_Job) T.fun_gain sc_gain rfl rfl fun cdv A outer s H E hr => ?_
  have hu := hr.units
  exact (dss_cons (ds_expr (de_call (ok_check_job T) (hr.mono (by decide)) (by rfl) T.m_check_job T.fun_check_job.kp T.b_check_job (da_cons (de_var 0 (pv 0)) da_nil)))
      (dss_cons (ds_expr (de_call (ok_check_work T) (hr.mono (by decide)) (by rfl) T.m_check_work T.fun_check_work.kp T.b_check_work (da_cons (de_var 0 (pv 0)) (da_cons (de_var 1 (pv 1)) da_nil))))
      (dss_cons (ds_expr (de_call (ok_check_pay T) (hr.mono (by decide)) (by rfl) T.m_check_pay T.fun_check_pay.kp T.b_check_pay (da_cons (de_var 0 (pv 0)) (da_cons (de_var 2 (pv 2)) da_nil))))
      (dss_one (ds_ret (de_call (ok_minus T) (hr.mono (by decide)) (by rfl) T.m_minus T.fun_minus.kp T.b_minus (da_cons (de_call (ok_average_pay T) (hr.mono (by decide)) (by rfl) T.m_average_pay T.fun_average_pay.kp T.b_average_pay (da_cons (de_var 0 (pv 0)) (da_cons (de_var 1 (pv 1)) (da_cons (de_var 2 (pv 2)) da_nil)))) (da_cons (de_ix (db_of (de_call (ok_work_efforts T) (hr.mono (by decide)) (by rfl) T.m_work_efforts T.fun_work_efforts.kp T.b_work_efforts (da_cons (de_var 0 (pv 0)) da_nil))) (db_var 1 (pv 1))) da_nil))))))))

abbrev s_profit : Stmt := topS 40
theorem sc_profit : FnScope [Str.ofString "job", Str.ofString "work", Str.ofString "pay"] [Str.ofString "job", Str.ofString "work", Str.ofString "pay"] (defScope s_profit) := ⟨rfl, rfl, rfl, by decide +kernel, rfl, by decide +kernel, by decide +kernel⟩

theorem ok_profit (T : Txt K mg) : FnOk P w K mg base CX0 6 T.f_profit T.d_profit [Str.ofString "job", Str.ofString "work", Str.ofString "pay"] (spD K 3 (F_profit T.c_Job)) := by
  unfold F_profit
  refine def_ok' s_profit [Str.ofString "job", Str.ofString "work", Str.ofString "pay"] [Str.ofString "job", Str.ofString "work", Str.ofString "pay"] 5 3 3 (g_profit T.c_Job) T.fun_profit sc_profit rfl rfl fun cdv A outer s H E hr => ?_
  have hu := hr.units
  exact (dss_cons (ds_expr (de_call (ok_check_job T) (hr.mono (by decide)) (by rfl) T.m_check_job T.fun_check_job.kp T.b_check_job (da_cons (de_var 0 (pv 0)) da_nil)))
      (dss_cons (ds_expr (de_call (ok_check_work T) (hr.mono (by decide)) (by rfl) T.m_check_work T.fun_check_work.kp T.b_check_work (da_cons (de_var 0 (pv 0)) (da_cons (de_var 1 (pv 1)) da_nil))))
      (dss_cons (ds_expr (de_call (ok_check_pay T) (hr.mono (by decide)) (by rfl) T.m_check_pay T.fun_check_pay.kp T.b_check_pay (da_cons (de_var 0 (pv 0)) (da_cons (de_var 2 (pv 2)) da_nil))))
      (dss_one (ds_ret (de_call (ok_minus T) (hr.mono (by decide)) (by rfl) T.m_minus T.fun_minus.kp T.b_minus (da_cons (de_call (ok_average_worth T) (hr.mono (by decide)) (by rfl) T.m_average_worth T.fun_average_worth.kp T.b_average_worth (da_cons (de_var 0 (pv 0)) (da_cons (de_var 1 (pv 1)) da_nil))) (da_cons (de_call (ok_average_pay T) (hr.mono (by decide)) (by rfl) T.m_average_pay T.fun_average_pay.kp T.b_average_pay (da_cons (de_var 0 (pv 0)) (da_cons (de_var 1 (pv 1)) (da_cons (de_var 2 (pv 2)) da_nil)))) da_nil))))))))

abbrev s_wanted : Stmt := topS 41
theorem sc_wanted : FnScope [Str.ofString "job", Str.ofString "pay", Str.ofString "best", Str.ofString "found", Str.ofString "work", Str.ofString "gained"] [Str.ofString "job", Str.ofString "pay"] (defScope s_wanted) := ⟨rfl, rfl, rfl, by decide +kernel, rfl, by decide +kernel, by decide +kernel⟩

theorem ok_wanted (T : Txt K mg) : FnOk P w K mg base CX0 7 T.f_wanted T.d_wanted [Str.ofString "job", Str.ofString "pay"] (spD K 2 (F_wanted T.c_Job)) := by
  unfold F_wanted
  refine def_ok' s_wanted [Str.ofString "job", Str.ofString "pay", Str.ofString "best", Str.ofString "found", Str.ofString "work", Str.ofString "gained"] [Str.ofString "job", Str.ofString "pay"] 6 6 2 (g_wanted T.c_Job) T.fun_wanted sc_wanted rfl rfl fun cdv A outer s H E hr => ?_
  have hu := hr.units
  exact (dss_cons (ds_expr (de_call (ok_check_job T) (hr.mono (by decide)) (by rfl) T.m_check_job T.fun_check_job.kp T.b_check_job (da_cons (de_var 0 (pv 0)) da_nil)))
      (dss_cons (ds_expr (de_call (ok_check_pay T) (hr.mono (by decide)) (by rfl) T.m_check_pay T.fun_check_pay.kp T.b_check_pay (da_cons (de_var 0 (pv 0)) (da_cons (de_var 1 (pv 1)) da_nil))))
      (dss_cons (ds_set 2 sc_wanted.nd (de_glob (pe_glob (v := L2.V.ref T.a_ZERO) rfl T.m_ZERO rfl) (fun _ => T.r_ZERO _)))
      (dss_cons (ds_setF 3 sc_wanted.nd (df_lst (da_cons de_non da_nil)))
      (dss_cons (ds_for PassesOwn.never rfl (di_range1 (by rfl) T.n_range (de_lenO T.cl_Job T.me_JobD_lenD (ok_JobD_lenD T) (hr.mono (by decide)) T.b_JobD_lenD (by rfl) T.n_len PySem.boot_len (dab_cons (db_var 0 (pv 0)) dab_nil))) (dg_name 4 sc_wanted.nd)
      (dss_cons (ds_set 5 sc_wanted.nd (de_call (ok_gain T) (hr.mono (by decide)) (by rfl) T.m_gain T.fun_gain.kp T.b_gain (da_cons (de_var 0 (pv 0)) (da_cons (de_var 4 (pv 4)) (da_cons (de_var 1 (pv 1)) da_nil)))))
      (dss_one (ds_if (dt_val (de_call (ok_is_less T) (hr.mono (by decide)) (by rfl) T.m_is_less T.fun_is_less.kp T.b_is_less (da_cons (de_var 2 (pv 2)) (da_cons (de_var 5 (pv 5)) da_nil)))) (dss_cons (ds_set 2 sc_wanted.nd (de_var 5 (pv 5)))
      (dss_one (ds_setF 3 sc_wanted.nd (df_lst (da_cons (de_var 4 (pv 4)) da_nil))))) (dss_one (ds_if (dt_cmp (od_eq hu) (db_var 5 (pv 5)) (db_var 2 (pv 2)) (nomark _)) (dss_one (ds_app 3 (pv 3) (de_var 4 (pv 4)) fun a b => ps_expr (pe_bm PySem.F.plainAttrs_list PySem.F.slot_list_append PySem.F.type_list_append mt_append a (pa_cons b pa_nil)))) dss_nil))))))
      (dss_one (ds_frz 3 (ds_ret (de_var 3 (pv 3))))))))))

abbrev s_u_law_number : Stmt := topS 43
theorem sc_u_law_number : FnScope [Str.ofString "script", Str.ofString "index", Str.ofString "cells", Str.ofString "cell", Str.ofString "low", Str.ofString "high", Str.ofString "mixed"] [Str.ofString "script", Str.ofString "index"] (defScope s_u_law_number) := ⟨rfl, rfl, rfl, by decide +kernel, rfl, by decide +kernel, by decide +kernel⟩

theorem ok_u_law_number (T : Txt K mg) : FnOk P w K mg base CX0 1 T.f_u_law_number T.d_u_law_number [Str.ofString "script", Str.ofString "index"] (spD K 2 (F_u_law_number T.c_Job)) := by
  unfold F_u_law_number
  refine def_ok' s_u_law_number [Str.ofString "script", Str.ofString "index", Str.ofString "cells", Str.ofString "cell", Str.ofString "low", Str.ofString "high", Str.ofString "mixed"] [Str.ofString "script", Str.ofString "index"] 0 7 2 (g_u_law_number T.c_Job) T.fun_u_law_number sc_u_law_number rfl rfl fun cdv A outer s H E hr => ?_
  have hu := hr.units
  exact (dss_cons (ds_set 2 sc_u_law_number.nd (de_if (dt_cmp (od_ne hu) (db_var 0 (pv 0)) (db_of (de_of (df_lst da_nil))) (nomark _)) (de_of (df_sl (db_var 0 (pv 0)) do_none (do_some de_int))) (de_of (df_lst (da_cons de_int da_nil)))))
      (dss_cons (ds_set 3 sc_u_law_number.nd (de_op od_addI (db_of (de_ix (db_var 2 (pv 2)) (db_of (de_op od_mod (db_of (de_callTy cd_int (by rfl) T.n_int (by decide +kernel) (dab_cons (db_var 1 (pv 1)) dab_nil))) (db_of (de_callB cd_len (by rfl) T.n_len (by decide +kernel) (dab_cons (db_var 2 (pv 2)) dab_nil))))))) (db_of (de_op od_mulI (db_of de_int) (db_of (de_op od_div (db_var 1 (pv 1)) (db_of (de_callB cd_len (by rfl) T.n_len (by decide +kernel) (dab_cons (db_var 2 (pv 2)) dab_nil)))))))))
      (dss_cons (ds_par 4 5 rfl sc_u_law_number.nd (da_cons (de_op od_mod (db_of (de_callTy cd_int (by rfl) T.n_int (by decide +kernel) (dab_cons (db_var 3 (pv 3)) dab_nil))) (db_of de_int)) (da_cons (de_op od_mod (db_of (de_callTy cd_int (by rfl) T.n_int (by decide +kernel) (dab_cons (db_of (de_op od_div (db_var 3 (pv 3)) (db_of de_int))) dab_nil))) (db_of de_int)) da_nil)))
      (dss_cons (ds_set 6 sc_u_law_number.nd (de_op od_mod (db_of (de_callTy cd_int (by rfl) T.n_int (by decide +kernel) (dab_cons (db_of (de_op od_addI (db_of (de_op od_addI (db_of (de_op od_mulI (db_of (de_op od_addI (db_var 4 (pv 4)) (db_of (de_op od_mulI (db_of de_int) (db_var 1 (pv 1)))))) (db_of de_int))) (db_of (de_op od_mulI (db_of de_int) (db_var 5 (pv 5)))))) (db_of (de_op od_mod (db_of (de_callTy cd_int (by rfl) T.n_int (by decide +kernel) (dab_cons (db_of (de_callB (cd_sum rfl) (by rfl) T.n_sum (by decide +kernel) (dab_cons (db_var 2 (pv 2)) dab_nil))) dab_nil))) (db_of de_int))))) dab_nil))) (db_of de_int)))
      (dss_one (ds_ret (de_op od_addI (db_of (de_op od_mulI (db_of (de_op od_mod (db_of (de_callTy cd_int (by rfl) T.n_int (by decide +kernel) (dab_cons (db_of (de_op od_mulI (db_var 6 (pv 6)) (db_of (de_op od_addI (db_of (de_op od_addI (db_var 6 (pv 6)) (db_of (de_op od_mulI (db_of de_int) (db_var 1 (pv 1)))))) (db_of de_int))))) dab_nil))) (db_of de_int))) (db_of de_int))) (db_var 5 (pv 5)))))))))

abbrev s_u_law_lowest : Stmt := topS 44
theorem sc_u_law_lowest : FnScope [Str.ofString "top", Str.ofString "bottom", Str.ofString "one", Str.ofString "other"] [Str.ofString "top", Str.ofString "bottom"] (defScope s_u_law_lowest) := ⟨rfl, rfl, rfl, by decide +kernel, rfl, by decide +kernel, by decide +kernel⟩

theorem ok_u_law_lowest (T : Txt K mg) : FnOk P w K mg base CX0 1 T.f_u_law_lowest T.d_u_law_lowest [Str.ofString "top", Str.ofString "bottom"] (spD K 2 (F_u_law_lowest T.c_Job)) := by
  unfold F_u_law_lowest
  refine def_ok' s_u_law_lowest [Str.ofString "top", Str.ofString "bottom", Str.ofString "one", Str.ofString "other"] [Str.ofString "top", Str.ofString "bottom"] 0 4 2 (g_u_law_lowest T.c_Job) T.fun_u_law_lowest sc_u_law_lowest rfl rfl fun cdv A outer s H E hr => ?_
  have hu := hr.units
  exact (dss_cons (ds_par 2 3 rfl sc_u_law_lowest.nd (da_cons (de_callB cd_abs (by rfl) T.n_abs (by decide +kernel) (dab_cons (db_var 0 (pv 0)) dab_nil)) (da_cons (de_callB cd_abs (by rfl) T.n_abs (by decide +kernel) (dab_cons (db_var 1 (pv 1)) dab_nil)) da_nil)))
      (dss_cons (ds_while (fun ρ => match ρ[3]? with | some (some (_, D.int b)) => b.natAbs + 1 | _ => 0) PassesOwn.never (dt_cmp (od_ne hu) (db_var 3 (pv 3)) (db_of de_int) (nomark _)) (dss_one (ds_par 2 3 rfl sc_u_law_lowest.nd (da_cons (de_var 3 (pv 3)) (da_cons (de_op od_mod (db_of (de_callTy cd_int (by rfl) T.n_int (by decide +kernel) (dab_cons (db_var 2 (pv 2)) dab_nil))) (db_var 3 (pv 3))) da_nil)))))
      (dss_one (ds_ret (de_if (dt_cmp od_gt (db_var 1 (pv 1)) (db_of de_int) (nomark _)) (de_tup (da_cons (de_op od_div (db_var 0 (pv 0)) (db_var 2 (pv 2))) (da_cons (de_op od_div (db_var 1 (pv 1)) (db_var 2 (pv 2))) da_nil))) (de_tup (da_cons (de_op od_div (db_of (de_neg (db_var 0 (pv 0)))) (db_var 2 (pv 2))) (da_cons (de_op od_div (db_of (de_neg (db_var 1 (pv 1)))) (db_var 2 (pv 2))) da_nil))))))))

abbrev s_u_law_sum : Stmt := topS 45
theorem sc_u_law_sum : FnScope [Str.ofString "one", Str.ofString "other"] [Str.ofString "one", Str.ofString "other"] (defScope s_u_law_sum) := ⟨rfl, rfl, rfl, by decide +kernel, rfl, by decide +kernel, by decide +kernel⟩

theorem ok_u_law_sum (T : Txt K mg) : FnOk P w K mg base CX0 2 T.f_u_law_sum T.d_u_law_sum [Str.ofString "one", Str.ofString "other"] (spD K 2 (F_u_law_sum T.c_Job)) := by
  unfold F_u_law_sum
  refine def_ok' s_u_law_sum [Str.ofString "one", Str.ofString "other"] [Str.ofString "one", Str.ofString "other"] 1 2 2 (g_u_law_sum T.c_Job) T.fun_u_law_sum sc_u_law_sum rfl rfl fun cdv A outer s H E hr => ?_
  have hu := hr.units
  exact (dss_one (ds_ret (de_call (ok_u_law_lowest T) (hr.mono (by decide)) (by rfl) T.m_u_law_lowest T.fun_u_law_lowest.kp T.b_u_law_lowest (da_cons (de_op od_addI (db_of (de_op od_mulI (db_of (de_ix (db_var 0 (pv 0)) (db_of de_int))) (db_of (de_ix (db_var 1 (pv 1)) (db_of de_int))))) (db_of (de_op od_mulI (db_of (de_ix (db_var 1 (pv 1)) (db_of de_int))) (db_of (de_ix (db_var 0 (pv 0)) (db_of de_int)))))) (da_cons (de_op od_mulI (db_of (de_ix (db_var 0 (pv 0)) (db_of de_int))) (db_of (de_ix (db_var 1 (pv 1)) (db_of de_int)))) da_nil)))))

abbrev s_u_law_less : Stmt := topS 46
theorem sc_u_law_less : FnScope [Str.ofString "one", Str.ofString "other"] [Str.ofString "one", Str.ofString "other"] (defScope s_u_law_less) := ⟨rfl, rfl, rfl, by decide +kernel, rfl, by decide +kernel, by decide +kernel⟩

theorem ok_u_law_less (T : Txt K mg) : FnOk P w K mg base CX0 2 T.f_u_law_less T.d_u_law_less [Str.ofString "one", Str.ofString "other"] (spD K 2 (F_u_law_less T.c_Job)) := by
  unfold F_u_law_less
  refine def_ok' s_u_law_less [Str.ofString "one", Str.ofString "other"] [Str.ofString "one", Str.ofString "other"] 1 2 2 (g_u_law_less T.c_Job) T.fun_u_law_less sc_u_law_less rfl rfl fun cdv A outer s H E hr => ?_
  have hu := hr.units
  exact (dss_one (ds_ret (de_call (ok_u_law_lowest T) (hr.mono (by decide)) (by rfl) T.m_u_law_lowest T.fun_u_law_lowest.kp T.b_u_law_lowest (da_cons (de_op od_sub (db_of (de_op od_mulI (db_of (de_ix (db_var 0 (pv 0)) (db_of de_int))) (db_of (de_ix (db_var 1 (pv 1)) (db_of de_int))))) (db_of (de_op od_mulI (db_of (de_ix (db_var 1 (pv 1)) (db_of de_int))) (db_of (de_ix (db_var 0 (pv 0)) (db_of de_int)))))) (da_cons (de_op od_mulI (db_of (de_ix (db_var 0 (pv 0)) (db_of de_int))) (db_of (de_ix (db_var 1 (pv 1)) (db_of de_int)))) da_nil)))))

abbrev s_u_law_product : Stmt := topS 47
theorem sc_u_law_product : FnScope [Str.ofString "one", Str.ofString "other"] [Str.ofString "one", Str.ofString "other"] (defScope s_u_law_product) := ⟨rfl, rfl, rfl, by decide +kernel, rfl, by decide +kernel, by decide +kernel⟩

theorem ok_u_law_product (T : Txt K mg) : FnOk P w K mg base CX0 2 T.f_u_law_product T.d_u_law_product [Str.ofString "one", Str.ofString "other"] (spD K 2 (F_u_law_product T.c_Job)) := by
  unfold F_u_law_product
  refine def_ok' s_u_law_product [Str.ofString "one", Str.ofString "other"] [Str.ofString "one", Str.ofString "other"] 1 2 2 (g_u_law_product T.c_Job) T.fun_u_law_product sc_u_law_product rfl rfl fun cdv A outer s H E hr => ?_
  have hu := hr.units
  exact (dss_one (ds_ret (de_call (ok_u_law_lowest T) (hr.mono (by decide)) (by rfl) T.m_u_law_lowest T.fun_u_law_lowest.kp T.b_u_law_lowest (da_cons (de_op od_mulI (db_of (de_ix (db_var 0 (pv 0)) (db_of de_int))) (db_of (de_ix (db_var 1 (pv 1)) (db_of de_int)))) (da_cons (de_op od_mulI (db_of (de_ix (db_var 0 (pv 0)) (db_of de_int))) (db_of (de_ix (db_var 1 (pv 1)) (db_of de_int)))) da_nil)))))

abbrev s_u_law_below : Stmt := topS 48
theorem sc_u_law_below : FnScope [Str.ofString "one", Str.ofString "other"] [Str.ofString "one", Str.ofString "other"] (defScope s_u_law_below) := ⟨rfl, rfl, rfl, by decide +kernel, rfl, by decide +kernel, by decide +kernel⟩

theorem ok_u_law_below (T : Txt K mg) : FnOk P w K mg base CX0 1 T.f_u_law_below T.d_u_law_below [Str.ofString "one", Str.ofString "other"] (spD K 2 (F_u_law_below T.c_Job)) := by
  unfold F_u_law_below
  refine def_ok' s_u_law_below [Str.ofString "one", Str.ofString "other"] [Str.ofString "one", Str.ofString "other"] 0 2 2 (g_u_law_below T.c_Job) T.fun_u_law_below sc_u_law_below rfl rfl fun cdv A outer s H E hr => ?_
  have hu := hr.units
  exact (dss_one (ds_ret (de_cmp od_lt (db_of (de_op od_mulI (db_of (de_ix (db_var 0 (pv 0)) (db_of de_int))) (db_of (de_ix (db_var 1 (pv 1)) (db_of de_int))))) (db_of (de_op od_mulI (db_of (de_ix (db_var 1 (pv 1)) (db_of de_int))) (db_of (de_ix (db_var 0 (pv 0)) (db_of de_int))))) (nomark _))))

abbrev s_u_law_dot : Stmt := topS 49
theorem sc_u_law_dot : FnScope [Str.ofString "row", Str.ofString "other", Str.ofString "found", Str.ofString "one", Str.ofString "two"] [Str.ofString "row", Str.ofString "other"] (defScope s_u_law_dot) := ⟨rfl, rfl, rfl, by decide +kernel, rfl, by decide +kernel, by decide +kernel⟩

theorem ok_u_law_dot (T : Txt K mg) : FnOk P w K mg base CX0 3 T.f_u_law_dot T.d_u_law_dot [Str.ofString "row", Str.ofString "other"] (spD K 2 (F_u_law_dot T.c_Job)) := by
  unfold F_u_law_dot
  refine def_ok' s_u_law_dot [Str.ofString "row", Str.ofString "other", Str.ofString "found", Str.ofString "one", Str.ofString "two"] [Str.ofString "row", Str.ofString "other"] 2 5 2 (g_u_law_dot T.c_Job) T.fun_u_law_dot sc_u_law_dot rfl rfl fun cdv A outer s H E hr => ?_
  have hu := hr.units
  exact (dss_cons (ds_set 2 sc_u_law_dot.nd (de_tup (da_cons de_int (da_cons de_int da_nil))))
      (dss_cons (ds_for PassesOwn.never rfl (di_zipX (by rfl) T.n_zip (de_var 0 (pv 0)) (de_var 1 (pv 1))) (dg_tup 2 rfl (dgs_cons (dg_name 3 sc_u_law_dot.nd) (dgs_cons (dg_name 4 sc_u_law_dot.nd) dgs_nil)) (bCons_len (bCons_len bNil_len)))
      (dss_one (ds_set 2 sc_u_law_dot.nd (de_call (ok_u_law_sum T) (hr.mono (by decide)) (by rfl) T.m_u_law_sum T.fun_u_law_sum.kp T.b_u_law_sum (da_cons (de_var 2 (pv 2)) (da_cons (de_call (ok_u_law_product T) (hr.mono (by decide)) (by rfl) T.m_u_law_product T.fun_u_law_product.kp T.b_u_law_product (da_cons (de_var 3 (pv 3)) (da_cons (de_var 4 (pv 4)) da_nil))) da_nil))))))
      (dss_one (ds_ret (de_var 2 (pv 2))))))

abbrev s_u_law_job : Stmt := topS 50
theorem sc_u_law_job : FnScope [Str.ofString "script", Str.ofString "index", Str.ofString "many", Str.ofString "count", Str.ofString "worths", Str.ofString "works", Str.ofString "at", Str.ofString "work", Str.ofString "most", Str.ofString "parts"] [Str.ofString "script", Str.ofString "index"] (defScope s_u_law_job) := ⟨rfl, rfl, rfl, by decide +kernel, rfl, by decide +kernel, by decide +kernel⟩

theorem ok_u_law_job (T : Txt K mg) : FnOk P w K mg base CX0 2 T.f_u_law_job T.d_u_law_job [Str.ofString "script", Str.ofString "index"] (spD K 2 (F_u_law_job T.c_Job)) := by
  unfold F_u_law_job
  refine def_ok' s_u_law_job [Str.ofString "script", Str.ofString "index", Str.ofString "many", Str.ofString "count", Str.ofString "worths", Str.ofString "works", Str.ofString "at", Str.ofString "work", Str.ofString "most", Str.ofString "parts"] [Str.ofString "script", Str.ofString "index"] 1 10 2 (g_u_law_job T.c_Job) T.fun_u_law_job sc_u_law_job rfl rfl fun cdv A outer s H E hr => ?_
  have hu := hr.units
  exact (dss_cons (ds_par 2 3 rfl sc_u_law_job.nd (da_cons (de_op od_addI (db_of de_int) (db_of (de_op od_mod (db_of (de_callTy cd_int (by rfl) T.n_int (by decide +kernel) (dab_cons (db_of (de_call (ok_u_law_number T) (hr.mono (by decide)) (by rfl) T.m_u_law_number T.fun_u_law_number.kp T.b_u_law_number (da_cons (de_var 0 (pv 0)) (da_cons (de_var 1 (pv 1)) da_nil)))) dab_nil))) (db_of de_int)))) (da_cons (de_op od_addI (db_of de_int) (db_of (de_op od_mod (db_of (de_callTy cd_int (by rfl) T.n_int (by decide +kernel) (dab_cons (db_of (de_call (ok_u_law_number T) (hr.mono (by decide)) (by rfl) T.m_u_law_number T.fun_u_law_number.kp T.b_u_law_number (da_cons (de_var 0 (pv 0)) (da_cons (de_op od_addI (db_var 1 (pv 1)) (db_of de_int)) da_nil)))) dab_nil))) (db_of de_int)))) da_nil)))
      (dss_cons (ds_parF 4 5 rfl sc_u_law_job.nd (df_lst da_nil) (df_lst da_nil))
      (dss_cons (ds_for PassesOwn.never rfl (di_range1 (by rfl) T.n_range (de_var 2 (pv 2))) (dg_name 6 sc_u_law_job.nd)
      (dss_one (ds_app 4 (pv 4) (de_op od_mod (db_of (de_callTy cd_int (by rfl) T.n_int (by decide +kernel) (dab_cons (db_of (de_call (ok_u_law_number T) (hr.mono (by decide)) (by rfl) T.m_u_law_number T.fun_u_law_number.kp T.b_u_law_number (da_cons (de_var 0 (pv 0)) (da_cons (de_op od_addI (db_of (de_op od_addI (db_var 1 (pv 1)) (db_of de_int))) (db_var 6 (pv 6))) da_nil)))) dab_nil))) (db_of de_int)) fun a b => ps_expr (pe_bm PySem.F.plainAttrs_list PySem.F.slot_list_append PySem.F.type_list_append mt_append a (pa_cons b pa_nil)))))
      (dss_cons (ds_for PassesOwn.never rfl (di_range1 (by rfl) T.n_range (de_var 3 (pv 3))) (dg_name 7 sc_u_law_job.nd)
      (dss_cons (ds_set 8 sc_u_law_job.nd (de_ix (db_of (de_tup (da_cons de_int (da_cons de_int da_nil)))) (db_of (de_op od_mod (db_of (de_callTy cd_int (by rfl) T.n_int (by decide +kernel) (dab_cons (db_of (de_call (ok_u_law_number T) (hr.mono (by decide)) (by rfl) T.m_u_law_number T.fun_u_law_number.kp T.b_u_law_number (da_cons (de_var 0 (pv 0)) (da_cons (de_op od_addI (db_var 1 (pv 1)) (db_of de_int)) da_nil)))) dab_nil))) (db_of de_int)))))
      (dss_cons (ds_setLcE 9 [(Str.ofString "at", 6)] rfl sc_u_law_job.nd rfl rfl (sw_true rfl rfl rfl (by decide +kernel)) (di_range1 (by rfl) T.n_range (de_var 2 (pv 2))) (blkOk_by (by kernel_rfl)) (fun _ _ _ _ _ => (dg_name 6 sc_u_law_job.nd)) (fun _ _ _ _ _ => dts_nil) (fun _ _ _ _ _ => (de_op od_mod (db_of (de_callTy cd_int (by rfl) T.n_int (by decide +kernel) (dab_cons (db_of (de_call (ok_u_law_number T) (hr.mono (by decide)) (by rfl) T.m_u_law_number T.fun_u_law_number.kp T.b_u_law_number (da_cons (de_var 0 (pv 0)) (da_cons (de_op od_addI (db_of (de_op od_addI (db_of (de_op od_addI (db_var 1 (pv 1)) (db_of de_int))) (db_of (de_op od_mulI (db_of de_int) (db_var 7 (pv 7)))))) (db_var 6 (pv 6))) da_nil)))) dab_nil))) (db_var 8 (pv 8)))))
      (dss_cons (ds_set 9 sc_u_law_job.nd (de_if (dt_cmp od_gt (db_of (de_callB (cd_sum rfl) (by rfl) T.n_sum (by decide +kernel) (dab_cons (db_var 9 (pv 9)) dab_nil))) (db_of de_int) (nomark _)) (de_var 9 (pv 9)) (de_of (df_op of_rep (db_of (de_of (df_lst (da_cons de_int da_nil)))) (db_var 2 (pv 2))))))
      (dss_one (ds_app 5 (pv 5) (de_tup (da_cons (de_op od_mod (db_of (de_callTy cd_int (by rfl) T.n_int (by decide +kernel) (dab_cons (db_of (de_call (ok_u_law_number T) (hr.mono (by decide)) (by rfl) T.m_u_law_number T.fun_u_law_number.kp T.b_u_law_number (da_cons (de_var 0 (pv 0)) (da_cons (de_op od_addI (db_of (de_op od_addI (db_var 1 (pv 1)) (db_of de_int))) (db_var 7 (pv 7))) da_nil)))) dab_nil))) (db_of de_int)) (da_cons (de_callTy cd_tuple (by rfl) T.n_tuple (by decide +kernel) (dab_cons (db_var 9 (pv 9)) dab_nil)) da_nil))) fun a b => ps_expr (pe_bm PySem.F.plainAttrs_list PySem.F.slot_list_append PySem.F.type_list_append mt_append a (pa_cons b pa_nil))))))))
      (dss_one (ds_ret (de_tup (da_cons (de_callTy cd_tuple (by rfl) T.n_tuple (by decide +kernel) (dab_cons (db_var 4 (pv 4)) dab_nil)) (da_cons (de_callTy cd_tuple (by rfl) T.n_tuple (by decide +kernel) (dab_cons (db_var 5 (pv 5)) dab_nil)) da_nil)))))))))

abbrev s_u_law_chances : Stmt := topS 51
theorem sc_u_law_chances : FnScope [Str.ofString "pack", Str.ofString "work", Str.ofString "parts", Str.ofString "part"] [Str.ofString "pack", Str.ofString "work"] (defScope s_u_law_chances) := ⟨rfl, rfl, rfl, by decide +kernel, rfl, by decide +kernel, by decide +kernel⟩

theorem ok_u_law_chances (T : Txt K mg) : FnOk P w K mg base CX0 2 T.f_u_law_chances T.d_u_law_chances [Str.ofString "pack", Str.ofString "work"] (spD K 2 (F_u_law_chances T.c_Job)) := by
  unfold F_u_law_chances
  refine def_ok' s_u_law_chances [Str.ofString "pack", Str.ofString "work", Str.ofString "parts", Str.ofString "part"] [Str.ofString "pack", Str.ofString "work"] 1 4 2 (g_u_law_chances T.c_Job) T.fun_u_law_chances sc_u_law_chances rfl rfl fun cdv A outer s H E hr => ?_
  have hu := hr.units
  exact (dss_cons (ds_set 2 sc_u_law_chances.nd (de_ix (db_of (de_ix (db_of (de_ix (db_var 0 (pv 0)) (db_of de_int))) (db_var 1 (pv 1)))) (db_of de_int)))
      (dss_one (ds_ret (de_of (df_lc [(Str.ofString "part", 3)] rfl sc_u_law_chances.nd (di_tup (de_var 2 (pv 2))) (blkOk_by (by kernel_rfl)) (fun _ _ _ _ _ => (dg_name 3 sc_u_law_chances.nd)) (fun _ _ _ _ _ => dts_nil) (fun _ _ _ _ _ => (de_call (ok_u_law_lowest T) (hr.mono (by decide)) (by rfl) T.m_u_law_lowest T.fun_u_law_lowest.kp T.b_u_law_lowest (da_cons (de_var 3 (pv 3)) (da_cons (de_callB (cd_sum rfl) (by rfl) T.n_sum (by decide +kernel) (dab_cons (db_var 2 (pv 2)) dab_nil)) da_nil)))))))))

abbrev s_u_law_gain : Stmt := topS 52
theorem sc_u_law_gain : FnScope [Str.ofString "pack", Str.ofString "work", Str.ofString "pay"] [Str.ofString "pack", Str.ofString "work", Str.ofString "pay"] (defScope s_u_law_gain) := ⟨rfl, rfl, rfl, by decide +kernel, rfl, by decide +kernel, by decide +kernel⟩

theorem ok_u_law_gain (T : Txt K mg) : FnOk P w K mg base CX0 4 T.f_u_law_gain T.d_u_law_gain [Str.ofString "pack", Str.ofString "work", Str.ofString "pay"] (spD K 3 (F_u_law_gain T.c_Job)) := by
  unfold F_u_law_gain
  refine def_ok' s_u_law_gain [Str.ofString "pack", Str.ofString "work", Str.ofString "pay"] [Str.ofString "pack", Str.ofString "work", Str.ofString "pay"] 3 3 3 (g_u_law_gain T.c_Job) T.fun_u_law_gain sc_u_law_gain rfl rfl fun cdv A outer s H E hr => ?_
  have hu := hr.units
  exact (dss_cons (ds_if (dt_cmp od_isN (db_var 1 (pv 1)) (db_of de_non) (nomark _)) (dss_one (ds_ret (de_tup (da_cons de_int (da_cons de_int da_nil))))) dss_nil)
      (dss_one (ds_ret (de_call (ok_u_law_less T) (hr.mono (by decide)) (by rfl) T.m_u_law_less T.fun_u_law_less.kp T.b_u_law_less (da_cons (de_call (ok_u_law_dot T) (hr.mono (by decide)) (by rfl) T.m_u_law_dot T.fun_u_law_dot.kp T.b_u_law_dot (da_cons (de_call (ok_u_law_chances T) (hr.mono (by decide)) (by rfl) T.m_u_law_chances T.fun_u_law_chances.kp T.b_u_law_chances (da_cons (de_var 0 (pv 0)) (da_cons (de_var 1 (pv 1)) da_nil))) (da_cons (de_var 2 (pv 2)) da_nil))) (da_cons (de_tup (da_cons (de_ix (db_of (de_ix (db_of (de_ix (db_var 0 (pv 0)) (db_of de_int))) (db_var 1 (pv 1)))) (db_of de_int)) (da_cons de_int da_nil))) da_nil))))))

abbrev s_u_law_worth : Stmt := topS 53
theorem sc_u_law_worth : FnScope [Str.ofString "pack", Str.ofString "work", Str.ofString "worth"] [Str.ofString "pack", Str.ofString "work"] (defScope s_u_law_worth) := ⟨rfl, rfl, rfl, by decide +kernel, rfl, by decide +kernel, by decide +kernel⟩

theorem ok_u_law_worth (T : Txt K mg) : FnOk P w K mg base CX0 4 T.f_u_law_worth T.d_u_law_worth [Str.ofString "pack", Str.ofString "work"] (spD K 2 (F_u_law_worth T.c_Job)) := by
  unfold F_u_law_worth
  refine def_ok' s_u_law_worth [Str.ofString "pack", Str.ofString "work", Str.ofString "worth"] [Str.ofString "pack", Str.ofString "work"] 3 3 2 (g_u_law_worth T.c_Job) T.fun_u_law_worth sc_u_law_worth rfl rfl fun cdv A outer s H E hr => ?_
  have hu := hr.units
  exact (dss_cons (ds_if (dt_cmp od_isN (db_var 1 (pv 1)) (db_of de_non) (nomark _)) (dss_one (ds_ret (de_tup (da_cons de_int (da_cons de_int da_nil))))) dss_nil)
      (dss_one (ds_ret (de_call (ok_u_law_dot T) (hr.mono (by decide)) (by rfl) T.m_u_law_dot T.fun_u_law_dot.kp T.b_u_law_dot (da_cons (de_call (ok_u_law_chances T) (hr.mono (by decide)) (by rfl) T.m_u_law_chances T.fun_u_law_chances.kp T.b_u_law_chances (da_cons (de_var 0 (pv 0)) (da_cons (de_var 1 (pv 1)) da_nil))) (da_cons (de_of (df_lc [(Str.ofString "worth", 2)] rfl sc_u_law_worth.nd (di_tup (de_ix (db_var 0 (pv 0)) (db_of de_int))) (blkOk_by (by kernel_rfl)) (fun _ _ _ _ _ => (dg_name 2 sc_u_law_worth.nd)) (fun _ _ _ _ _ => dts_nil) (fun _ _ _ _ _ => (de_tup (da_cons (de_var 2 (pv 2)) (da_cons de_int da_nil)))))) da_nil))))))

abbrev s_u_law_pay : Stmt := topS 54
theorem sc_u_law_pay : FnScope [Str.ofString "script", Str.ofString "index", Str.ofString "many", Str.ofString "found", Str.ofString "at", Str.ofString "seed", Str.ofString "top", Str.ofString "bottom"] [Str.ofString "script", Str.ofString "index", Str.ofString "many"] (defScope s_u_law_pay) := ⟨rfl, rfl, rfl, by decide +kernel, rfl, by decide +kernel, by decide +kernel⟩

theorem ok_u_law_pay (T : Txt K mg) : FnOk P w K mg base CX0 2 T.f_u_law_pay T.d_u_law_pay [Str.ofString "script", Str.ofString "index", Str.ofString "many"] (spD K 3 (F_u_law_pay T.c_Job)) := by
  unfold F_u_law_pay
  refine def_ok' s_u_law_pay [Str.ofString "script", Str.ofString "index", Str.ofString "many", Str.ofString "found", Str.ofString "at", Str.ofString "seed", Str.ofString "top", Str.ofString "bottom"] [Str.ofString "script", Str.ofString "index", Str.ofString "many"] 1 8 3 (g_u_law_pay T.c_Job) T.fun_u_law_pay sc_u_law_pay rfl rfl fun cdv A outer s H E hr => ?_
  have hu := hr.units
  exact (dss_cons (ds_setF 3 sc_u_law_pay.nd (df_lst da_nil))
      (dss_cons (ds_for PassesOwn.never rfl (di_range1 (by rfl) T.n_range (de_var 2 (pv 2))) (dg_name 4 sc_u_law_pay.nd)
      (dss_cons (ds_set 5 sc_u_law_pay.nd (de_call (ok_u_law_number T) (hr.mono (by decide)) (by rfl) T.m_u_law_number T.fun_u_law_number.kp T.b_u_law_number (da_cons (de_var 0 (pv 0)) (da_cons (de_op od_addI (db_var 1 (pv 1)) (db_var 4 (pv 4))) da_nil))))
      (dss_cons (ds_par 6 7 rfl sc_u_law_pay.nd (da_cons (de_ix (db_of (de_tup (da_cons de_int (da_cons de_int (da_cons de_int (da_cons de_int da_nil)))))) (db_of (de_op od_mod (db_of (de_callTy cd_int (by rfl) T.n_int (by decide +kernel) (dab_cons (db_of (de_op od_div (db_var 5 (pv 5)) (db_of de_int))) dab_nil))) (db_of de_int)))) (da_cons (de_ix (db_of (de_tup (da_cons de_int (da_cons de_int (da_cons de_int da_nil))))) (db_of (de_op od_mod (db_of (de_callTy cd_int (by rfl) T.n_int (by decide +kernel) (dab_cons (db_of (de_op od_div (db_var 5 (pv 5)) (db_of de_int))) dab_nil))) (db_of de_int)))) da_nil)))
      (dss_one (ds_app 3 (pv 3) (de_call (ok_u_law_lowest T) (hr.mono (by decide)) (by rfl) T.m_u_law_lowest T.fun_u_law_lowest.kp T.b_u_law_lowest (da_cons (de_op od_mod (db_of (de_callTy cd_int (by rfl) T.n_int (by decide +kernel) (dab_cons (db_var 5 (pv 5)) dab_nil))) (db_var 6 (pv 6))) (da_cons (de_op od_addI (db_of de_int) (db_of (de_op od_mod (db_of (de_callTy cd_int (by rfl) T.n_int (by decide +kernel) (dab_cons (db_of (de_op od_div (db_var 5 (pv 5)) (db_of de_int))) dab_nil))) (db_var 7 (pv 7))))) da_nil))) fun a b => ps_expr (pe_bm PySem.F.plainAttrs_list PySem.F.slot_list_append PySem.F.type_list_append mt_append a (pa_cons b pa_nil)))))))
      (dss_one (ds_ret (de_callTy cd_tuple (by rfl) T.n_tuple (by decide +kernel) (dab_cons (db_var 3 (pv 3)) dab_nil))))))

abbrev s_u_law_pay_right : Stmt := topS 55
theorem sc_u_law_pay_right : FnScope [Str.ofString "pack", Str.ofString "pay", Str.ofString "job", Str.ofString "every", Str.ofString "gains", Str.ofString "work", Str.ofString "paid", Str.ofString "due", Str.ofString "one", Str.ofString "other"] [Str.ofString "pack", Str.ofString "pay"] (defScope s_u_law_pay_right) := ⟨rfl, rfl, rfl, by decide +kernel, rfl, by decide +kernel, by decide +kernel⟩

theorem ok_u_law_pay_right (T : Txt K mg) : FnOk P w K mg base CX0 8 T.f_u_law_pay_right T.d_u_law_pay_right [Str.ofString "pack", Str.ofString "pay"] (spD K 2 (F_u_law_pay_right T.c_Job)) := by
  unfold F_u_law_pay_right
  refine def_ok' s_u_law_pay_right [Str.ofString "pack", Str.ofString "pay", Str.ofString "job", Str.ofString "every", Str.ofString "gains", Str.ofString "work", Str.ofString "paid", Str.ofString "due", Str.ofString "one", Str.ofString "other"] [Str.ofString "pack", Str.ofString "pay"] 7 10 2 (g_u_law_pay_right T.c_Job) T.fun_u_law_pay_right sc_u_law_pay_right rfl rfl fun cdv A outer s H E hr => ?_
  have hu := hr.units
  exact (dss_cons (ds_par 2 3 rfl sc_u_law_pay_right.nd (da_cons (de_make T.mk_Job (ok_JobD_initD T) (hr.mono (by decide)) (by rfl) T.mc_Job T.b_JobD_initD (da_cons (de_ix (db_var 0 (pv 0)) (db_of de_int)) (da_cons (de_ix (db_var 0 (pv 0)) (db_of de_int)) da_nil))) (da_cons (de_of (df_op of_cat (db_of (de_of (df_lst (da_cons de_non da_nil)))) (db_of (de_of (df_listRg rfl (by rfl) T.n_list (by rfl) T.n_range (de_callB cd_len (by rfl) T.n_len (by decide +kernel) (dab_cons (db_of (de_ix (db_var 0 (pv 0)) (db_of de_int))) dab_nil))))))) da_nil)))
      (dss_cons (ds_set 4 sc_u_law_pay_right.nd (de_of (df_lc [(Str.ofString "work", 5)] rfl sc_u_law_pay_right.nd (di_list (de_var 3 (pv 3))) (blkOk_by (by kernel_rfl)) (fun _ _ _ _ _ => (dg_name 5 sc_u_law_pay_right.nd)) (fun _ _ _ _ _ => dts_nil) (fun _ _ _ _ _ => (de_call (ok_u_law_gain T) (hr.mono (by decide)) (by rfl) T.m_u_law_gain T.fun_u_law_gain.kp T.b_u_law_gain (da_cons (de_var 0 (pv 0)) (da_cons (de_var 5 (pv 5)) (da_cons (de_var 1 (pv 1)) da_nil))))))))
      (dss_cons (ds_for PassesOwn.never rfl (di_list (de_of (df_sl (db_var 3 (pv 3)) (do_some de_int) do_none))) (dg_name 5 sc_u_law_pay_right.nd)
      (dss_cons (ds_if (dt_cmp (od_ne hu) (db_of (de_call (ok_gain T) (hr.mono (by decide)) (by rfl) T.m_gain T.fun_gain.kp T.b_gain (da_cons (de_var 2 (pv 2)) (da_cons (de_var 5 (pv 5)) (da_cons (de_var 1 (pv 1)) da_nil))))) (db_of (de_ix (db_var 4 (pv 4)) (db_of (de_op od_addI (db_var 5 (pv 5)) (db_of de_int))))) (nomark _)) (dss_one (ds_ret de_bl)) dss_nil)
      (dss_cons (ds_set 6 sc_u_law_pay_right.nd (de_call (ok_u_law_sum T) (hr.mono (by decide)) (by rfl) T.m_u_law_sum T.fun_u_law_sum.kp T.b_u_law_sum (da_cons (de_ix (db_var 4 (pv 4)) (db_of (de_op od_addI (db_var 5 (pv 5)) (db_of de_int)))) (da_cons (de_tup (da_cons (de_ix (db_of (de_ix (db_of (de_ix (db_var 0 (pv 0)) (db_of de_int))) (db_var 5 (pv 5)))) (db_of de_int)) (da_cons de_int da_nil))) da_nil))))
      (dss_one (ds_if (dt_cmp (od_ne hu) (db_of (de_call (ok_profit T) (hr.mono (by decide)) (by rfl) T.m_profit T.fun_profit.kp T.b_profit (da_cons (de_var 2 (pv 2)) (da_cons (de_var 5 (pv 5)) (da_cons (de_var 1 (pv 1)) da_nil))))) (db_of (de_call (ok_u_law_less T) (hr.mono (by decide)) (by rfl) T.m_u_law_less T.fun_u_law_less.kp T.b_u_law_less (da_cons (de_call (ok_u_law_worth T) (hr.mono (by decide)) (by rfl) T.m_u_law_worth T.fun_u_law_worth.kp T.b_u_law_worth (da_cons (de_var 0 (pv 0)) (da_cons (de_var 5 (pv 5)) da_nil))) (da_cons (de_var 6 (pv 6)) da_nil)))) (nomark _)) (dss_one (ds_ret de_bl)) dss_nil)))))
      (dss_cons (ds_setLcE 7 [(Str.ofString "work", 5), (Str.ofString "one", 8)] rfl sc_u_law_pay_right.nd rfl rfl (sw_true rfl rfl rfl (by decide +kernel)) (di_zipX (by rfl) T.n_zip (de_var 3 (pv 3)) (de_var 4 (pv 4))) (blkOk_by (by kernel_rfl)) (fun _ _ _ _ _ => (dg_tup 2 rfl (dgs_cons (dg_name 5 sc_u_law_pay_right.nd) (dgs_cons (dg_name 8 sc_u_law_pay_right.nd) dgs_nil)) (bCons_len (bCons_len bNil_len)))) (fun _ _ _ _ _ => (dts_one (dt_not (dt_val (de_callB (cd_any rfl) (by rfl) T.n_any (by decide +kernel) (dab_cons (db_of (de_of (df_lc [(Str.ofString "other", 9)] rfl sc_u_law_pay_right.nd (di_list (de_var 4 (pv 4))) (blkOk_by (by kernel_rfl)) (fun _ _ _ _ _ => (dg_name 9 sc_u_law_pay_right.nd)) (fun _ _ _ _ _ => dts_nil) (fun _ _ _ _ _ => (de_call (ok_u_law_below T) (hr.mono (by decide)) (by rfl) T.m_u_law_below T.fun_u_law_below.kp T.b_u_law_below (da_cons (de_var 8 (pv 8)) (da_cons (de_var 9 (pv 9)) da_nil))))))) dab_nil)))))) (fun _ _ _ _ _ => (de_var 5 (pv 5))))
      (dss_one (ds_ret (de_cmp (od_eq hu) (db_of (de_call (ok_wanted T) (hr.mono (by decide)) (by rfl) T.m_wanted T.fun_wanted.kp T.b_wanted (da_cons (de_var 2 (pv 2)) (da_cons (de_var 1 (pv 1)) da_nil)))) (db_var 7 (pv 7)) (nomark _))))))))

abbrev s_u_law_all_right : Stmt := topS 56
theorem sc_u_law_all_right : FnScope [Str.ofString "script", Str.ofString "number", Str.ofString "pack", Str.ofString "job", Str.ofString "turn", Str.ofString "pay", Str.ofString "flat"] [Str.ofString "script"] (defScope s_u_law_all_right) := ⟨rfl, rfl, rfl, by decide +kernel, rfl, by decide +kernel, by decide +kernel⟩

theorem ok_u_law_all_right (T : Txt K mg) : FnOk P w K mg base CX0 9 T.f_u_law_all_right T.d_u_law_all_right [Str.ofString "script"] (spD K 1 (F_u_law_all_right T.c_Job)) := by
  unfold F_u_law_all_right
  refine def_ok' s_u_law_all_right [Str.ofString "script", Str.ofString "number", Str.ofString "pack", Str.ofString "job", Str.ofString "turn", Str.ofString "pay", Str.ofString "flat"] [Str.ofString "script"] 8 7 1 (g_u_law_all_right T.c_Job) T.fun_u_law_all_right sc_u_law_all_right rfl rfl fun cdv A outer s H E hr => ?_
  have hu := hr.units
  exact (dss_cons (ds_for PassesOwn.never rfl (di_range1 (by rfl) T.n_range de_int) (dg_name 1 sc_u_law_all_right.nd)
      (dss_cons (ds_set 2 sc_u_law_all_right.nd (de_call (ok_u_law_job T) (hr.mono (by decide)) (by rfl) T.m_u_law_job T.fun_u_law_job.kp T.b_u_law_job (da_cons (de_var 0 (pv 0)) (da_cons (de_op od_addI (db_of de_int) (db_of (de_op od_mulI (db_of de_int) (db_var 1 (pv 1))))) da_nil))))
      (dss_cons (ds_set 3 sc_u_law_all_right.nd (de_make T.mk_Job (ok_JobD_initD T) (hr.mono (by decide)) (by rfl) T.mc_Job T.b_JobD_initD (da_cons (de_ix (db_var 2 (pv 2)) (db_of de_int)) (da_cons (de_ix (db_var 2 (pv 2)) (db_of de_int)) da_nil))))
      (dss_cons (ds_if (dt_w (dw_or (dt_cmp (od_ne hu) (db_of (de_prop T.cl_Job T.pr_Job_worths (ok_Job_worths T) (hr.mono (by decide)) T.b_Job_worths (de_var 3 (pv 3)))) (db_of (de_ix (db_var 2 (pv 2)) (db_of de_int))) (nomark _)) (dw_or (dt_cmp (od_ne hu) (db_of (de_prop T.cl_Job T.pr_Job_works (ok_Job_works T) (hr.mono (by decide)) T.b_Job_works (de_var 3 (pv 3)))) (db_of (de_ix (db_var 2 (pv 2)) (db_of de_int))) (nomark _)) (dw_or1 (dt_cmp (od_ne hu) (db_of (de_lenO T.cl_Job T.me_JobD_lenD (ok_JobD_lenD T) (hr.mono (by decide)) T.b_JobD_lenD (by rfl) T.n_len PySem.boot_len (dab_cons (db_var 3 (pv 3)) dab_nil))) (db_of (de_callB cd_len (by rfl) T.n_len (by decide +kernel) (dab_cons (db_of (de_ix (db_var 2 (pv 2)) (db_of de_int))) dab_nil))) (nomark _)))))) (dss_one (ds_ret de_bl)) dss_nil)
      (dss_cons (ds_for PassesOwn.never rfl (di_range1 (by rfl) T.n_range de_int) (dg_name 4 sc_u_law_all_right.nd)
      (dss_cons (ds_set 5 sc_u_law_all_right.nd (de_call (ok_u_law_pay T) (hr.mono (by decide)) (by rfl) T.m_u_law_pay T.fun_u_law_pay.kp T.b_u_law_pay (da_cons (de_var 0 (pv 0)) (da_cons (de_op od_addI (db_of (de_op od_addI (db_of de_int) (db_of (de_op od_mulI (db_of de_int) (db_var 1 (pv 1)))))) (db_of (de_op od_mulI (db_of de_int) (db_var 4 (pv 4))))) (da_cons (de_callB cd_len (by rfl) T.n_len (by decide +kernel) (dab_cons (db_of (de_ix (db_var 2 (pv 2)) (db_of de_int))) dab_nil)) da_nil)))))
      (dss_one (ds_if (dt_not (dt_val (de_call (ok_u_law_pay_right T) (hr.mono (by decide)) (by rfl) T.m_u_law_pay_right T.fun_u_law_pay_right.kp T.b_u_law_pay_right (da_cons (de_var 2 (pv 2)) (da_cons (de_var 5 (pv 5)) da_nil))))) (dss_one (ds_ret de_bl)) dss_nil))))
      (dss_cons (ds_set 6 sc_u_law_all_right.nd (de_op od_repT (db_of (de_tup (da_cons (de_tup (da_cons (de_ix (db_of (de_ix (db_of (de_ix (db_var 2 (pv 2)) (db_of de_int))) (db_of de_int))) (db_of de_int)) (da_cons de_int da_nil))) da_nil))) (db_of (de_callB cd_len (by rfl) T.n_len (by decide +kernel) (dab_cons (db_of (de_ix (db_var 2 (pv 2)) (db_of de_int))) dab_nil)))))
      (dss_one (ds_if (dt_w (dw_or (dt_not (dt_val (de_call (ok_u_law_pay_right T) (hr.mono (by decide)) (by rfl) T.m_u_law_pay_right T.fun_u_law_pay_right.kp T.b_u_law_pay_right (da_cons (de_var 2 (pv 2)) (da_cons (de_var 6 (pv 6)) da_nil))))) (dw_or1 (dt_not (dt_val (de_call (ok_u_law_pay_right T) (hr.mono (by decide)) (by rfl) T.m_u_law_pay_right T.fun_u_law_pay_right.kp T.b_u_law_pay_right (da_cons (de_var 2 (pv 2)) (da_cons (de_op od_repT (db_of (de_tup (da_cons (de_tup (da_cons de_int (da_cons de_int da_nil))) da_nil))) (db_of (de_callB cd_len (by rfl) T.n_len (by decide +kernel) (dab_cons (db_of (de_ix (db_var 2 (pv 2)) (db_of de_int))) dab_nil)))) da_nil)))))))) (dss_one (ds_ret de_bl)) dss_nil))))))))
      (dss_one (ds_ret de_bl)))
end
end K01

set_option maxHeartbeats 1000000
namespace K01
open PySem PySem.Spec PyProof.Rows L2 DL
/-! ### fractions -/
abbrev Qp := Int × Int
def fr (a b : Int) : D := .tup [.int a, .int b]
def qd (p : Qp) : D := fr p.1 p.2
def low (t b : Int) : Qp := (t / (Nat.gcd t.natAbs b.natAbs : Nat), b / (Nat.gcd t.natAbs b.natAbs : Nat))
def qadd (p q : Qp) : Qp := low (p.1 * q.2 + q.1 * p.2) (p.2 * q.2)
def qsub (p q : Qp) : Qp := low (p.1 * q.2 - q.1 * p.2) (p.2 * q.2)
def qmul (p q : Qp) : Qp := low (p.1 * q.1) (p.2 * q.2)
def qlt (p q : Qp) : Bool := decide (p.1 * q.2 < q.1 * p.2)
structure Ok (n : Nat) (p : Qp) : Prop where
  pos : 0 < p.2
  cop : Nat.gcd p.1.natAbs p.2.natAbs = 1
  b1 : p.1.natAbs < 2 ^ n
  b2 : p.2.natAbs < 2 ^ n
theorem Ok.mono {n m : Nat} {p : Qp} (h : Ok n p) (l : n ≤ m) : Ok m p := ⟨h.pos, h.cop, Nat.lt_of_lt_of_le h.b1 (Nat.pow_le_pow_right (by decide) l), Nat.lt_of_lt_of_le h.b2 (Nat.pow_le_pow_right (by decide) l)⟩
theorem sz_of {a : Int} {n : Nat} (h : a.natAbs < 2 ^ n) (l : n ≤ 8000) : sz a = true := by
  unfold sz
  apply decide_eq_true
  by_cases h0 : a.natAbs = 0
  · rw [h0]; decide
  · exact (Nat.log2_lt h0).mpr (Nat.lt_of_lt_of_le h (Nat.pow_le_pow_right (by decide) l))
theorem g_pos {t b : Int} (h : 0 < b) : 0 < Nat.gcd t.natAbs b.natAbs := Nat.gcd_pos_of_pos_right _ (by omega)
theorem low_val {t b : Int} (h : 0 < b) : (low t b).1 * b = t * (low t b).2 := by
  unfold low
  have d1 : ((Nat.gcd t.natAbs b.natAbs : Nat) : Int) ∣ t := Int.ofNat_dvd_left.mpr (Nat.gcd_dvd_left _ _)
  have d2 : ((Nat.gcd t.natAbs b.natAbs : Nat) : Int) ∣ b := Int.ofNat_dvd_left.mpr (Nat.gcd_dvd_right _ _)
  generalize ((Nat.gcd t.natAbs b.natAbs : Nat) : Int) = g at *
  obtain ⟨x, rfl⟩ := d1
  obtain ⟨y, rfl⟩ := d2
  have hg : g ≠ 0 := by rintro rfl; simp at h
  show g * x / g * (g * y) = g * x * (g * y / g)
  rw [Int.mul_ediv_cancel_left _ hg, Int.mul_ediv_cancel_left _ hg]
  rw [Int.mul_left_comm, Int.mul_assoc]
theorem low_ok {t b : Int} {n : Nat} (h : 0 < b) (h1 : t.natAbs < 2 ^ n) (h2 : b.natAbs < 2 ^ n) : Ok n (low t b) := by
  have d1 : (Nat.gcd t.natAbs b.natAbs) ∣ t.natAbs := Nat.gcd_dvd_left _ _
  have d2 : (Nat.gcd t.natAbs b.natAbs) ∣ b.natAbs := Nat.gcd_dvd_right _ _
  have hg : 0 < Nat.gcd t.natAbs b.natAbs := g_pos h
  have e1 : (t / ((Nat.gcd t.natAbs b.natAbs : Nat) : Int)).natAbs = t.natAbs / Nat.gcd t.natAbs b.natAbs := by
    rw [Int.natAbs_ediv_of_dvd (Int.ofNat_dvd_left.mpr d1)]; rfl
  have e2 : (b / ((Nat.gcd t.natAbs b.natAbs : Nat) : Int)).natAbs = b.natAbs / Nat.gcd t.natAbs b.natAbs := by
    rw [Int.natAbs_ediv_of_dvd (Int.ofNat_dvd_left.mpr d2)]; rfl
  refine ⟨?_, ?_, ?_, ?_⟩
  · have := Nat.div_pos (Nat.le_of_dvd (by omega) d2) hg
    have h3 : 0 ≤ b / ((Nat.gcd t.natAbs b.natAbs : Nat) : Int) := Int.ediv_nonneg (by omega) (by omega)
    show 0 < b / ((Nat.gcd t.natAbs b.natAbs : Nat) : Int)
    omega
  · show Nat.gcd (t / ((Nat.gcd t.natAbs b.natAbs : Nat) : Int)).natAbs (b / ((Nat.gcd t.natAbs b.natAbs : Nat) : Int)).natAbs = 1
    rw [e1, e2]
    exact Nat.coprime_div_gcd_div_gcd hg
  · exact Nat.lt_of_le_of_lt (by show (t / ((Nat.gcd t.natAbs b.natAbs : Nat) : Int)).natAbs ≤ _; rw [e1]; exact Nat.div_le_self _ _) h1
  · exact Nat.lt_of_le_of_lt (by show (b / ((Nat.gcd t.natAbs b.natAbs : Nat) : Int)).natAbs ≤ _; rw [e2]; exact Nat.div_le_self _ _) h2
theorem mulb {a b : Int} {n m : Nat} (h1 : a.natAbs < 2 ^ n) (h2 : b.natAbs < 2 ^ m) : (a * b).natAbs < 2 ^ (n + m) := by
  rw [Int.natAbs_mul, Nat.pow_add]
  exact Nat.mul_lt_mul'' h1 h2
theorem addb {a b : Int} {n : Nat} (h1 : a.natAbs < 2 ^ n) (h2 : b.natAbs < 2 ^ n) : (a + b).natAbs < 2 ^ (n + 1) := by
  rw [Nat.pow_succ]; omega
theorem subb {a b : Int} {n : Nat} (h1 : a.natAbs < 2 ^ n) (h2 : b.natAbs < 2 ^ n) : (a - b).natAbs < 2 ^ (n + 1) := by
  rw [Nat.pow_succ]; omega
theorem qadd_ok {p q : Qp} {n m : Nat} (hp : Ok n p) (hq : Ok m q) : Ok (n + m + 1) (qadd p q) := by
  refine low_ok (Int.mul_pos hp.pos hq.pos) (addb (mulb hp.b1 hq.b2) ?_) (Nat.lt_of_lt_of_le (mulb hp.b2 hq.b2) (Nat.pow_le_pow_right (by decide) (Nat.le_succ _)))
  rw [Nat.add_comm]
  exact mulb hq.b1 hp.b2
theorem qsub_ok {p q : Qp} {n m : Nat} (hp : Ok n p) (hq : Ok m q) : Ok (n + m + 1) (qsub p q) := by
  refine low_ok (Int.mul_pos hp.pos hq.pos) (subb (mulb hp.b1 hq.b2) ?_) (Nat.lt_of_lt_of_le (mulb hp.b2 hq.b2) (Nat.pow_le_pow_right (by decide) (Nat.le_succ _)))
  rw [Nat.add_comm]
  exact mulb hq.b1 hp.b2
theorem qmul_ok {p q : Qp} {n m : Nat} (hp : Ok n p) (hq : Ok m q) : Ok (n + m) (qmul p q) := low_ok (Int.mul_pos hp.pos hq.pos) (mulb hp.b1 hq.b1) (mulb hp.b2 hq.b2)
/-- lowest terms tell a fraction -/
theorem q_ext {p q : Qp} {n m : Nat} (hp : Ok n p) (hq : Ok m q) (h : p.1 * q.2 = q.1 * p.2) : p = q := by
  have hn : p.1.natAbs * q.2.natAbs = q.1.natAbs * p.2.natAbs := by rw [← Int.natAbs_mul, ← Int.natAbs_mul, h]
  have d1 : p.2.natAbs ∣ q.2.natAbs := by
    have : p.2.natAbs ∣ p.1.natAbs * q.2.natAbs := ⟨q.1.natAbs, by rw [hn, Nat.mul_comm]⟩
    exact Nat.Coprime.dvd_of_dvd_mul_left (by rw [Nat.Coprime, Nat.gcd_comm]; exact hp.cop) this
  have d2 : q.2.natAbs ∣ p.2.natAbs := by
    have : q.2.natAbs ∣ q.1.natAbs * p.2.natAbs := ⟨p.1.natAbs, by rw [← hn, Nat.mul_comm]⟩
    exact Nat.Coprime.dvd_of_dvd_mul_left (by rw [Nat.Coprime, Nat.gcd_comm]; exact hq.cop) this
  have e2 : p.2 = q.2 := by
    have := Nat.dvd_antisymm d1 d2
    have := hp.pos; have := hq.pos
    omega
  have e1 : p.1 = q.1 := by
    rw [e2] at h
    exact Int.eq_of_mul_eq_mul_right (by have := hq.pos; omega) h
  exact Prod.ext e1 e2
/-- (x - y) + y is x -/
theorem sub_add {x y : Qp} {n m : Nat} (hx : Ok n x) (hy : Ok m y) : qadd (qsub x y) y = x := by
  have hs := qsub_ok hx hy
  refine q_ext (qadd_ok hs hy) hx ?_
  have v1 := low_val (t := x.1 * y.2 - y.1 * x.2) (Int.mul_pos hx.pos hy.pos)
  have v2 := low_val (t := (qsub x y).1 * y.2 + y.1 * (qsub x y).2) (Int.mul_pos hs.pos hy.pos)
  change (qsub x y).1 * (x.2 * y.2) = (x.1 * y.2 - y.1 * x.2) * (qsub x y).2 at v1
  change (qadd (qsub x y) y).1 * ((qsub x y).2 * y.2) = ((qsub x y).1 * y.2 + y.1 * (qsub x y).2) * (qadd (qsub x y) y).2 at v2
  generalize (qsub x y).1 = s1 at *
  generalize es2 : (qsub x y).2 = s2 at *
  generalize (qadd (qsub x y) y).1 = r1 at *
  generalize (qadd (qsub x y) y).2 = r2 at *
  have hs2 : 0 < s2 := by have := hs.pos; omega
  have hy2 := hy.pos
  obtain ⟨x1, x2⟩ := x
  obtain ⟨y1, y2⟩ := y
  try simp only at *
  have hne : s2 * y2 * y2 ≠ 0 := Int.ne_of_gt (Int.mul_pos (Int.mul_pos hs2 hy2) hy2)
  apply Int.eq_of_mul_eq_mul_right hne
  have w1 : s1 * y2 * (x2 * y2) = (x1 * y2 - y1 * x2) * s2 * y2 := by
    rw [← v1, Int.mul_right_comm]
  calc r1 * x2 * (s2 * y2 * y2) = (r1 * (s2 * y2)) * (x2 * y2) := by ac_rfl
    _ = ((s1 * y2 + y1 * s2) * r2) * (x2 * y2) := by rw [v2]
    _ = (s1 * y2 * (x2 * y2) + y1 * s2 * (x2 * y2)) * r2 := by rw [Int.add_mul, Int.add_mul, Int.add_mul]; ac_rfl
    _ = ((x1 * y2 - y1 * x2) * s2 * y2 + y1 * s2 * (x2 * y2)) * r2 := by rw [w1]
    _ = x1 * r2 * (s2 * y2 * y2) := by
      rw [Int.sub_mul, Int.sub_mul]
      have : y1 * x2 * s2 * y2 = y1 * s2 * (x2 * y2) := by ac_rfl
      rw [this, Int.sub_add_cancel]
      ac_rfl
/-! ### the defs over fractions -/
/-! ### what each word does at an environment -/
section
variable {ρ : DEnv} {d : D} {i j n : Nat} {f g c fa fb : DE1} {fs : DEnv → Option (List D)} {s s' : DS1} {op op' : D → D → Option D} {F : List D → Option D}
theorem ap_C : eC d ρ = some d := rfl
theorem ap_V : eV i ρ = match ρ[i]? with | some (some (false, d)) => some d | _ => none := rfl
theorem ap_VB : eVB i ρ = match ρ[i]? with | some (some (_, d)) => some d | _ => none := rfl
theorem ap_2 : DL.e2 op fa fb ρ = (fa ρ).bind fun x => (fb ρ).bind fun y => op x y := rfl
theorem ap_Nil : aNil ρ = some [] := rfl
theorem ap_Cons : aCons f fs ρ = (f ρ).bind fun x => (fs ρ).map (x :: ·) := rfl
theorem ap_Tup : eTup fs ρ = (fs ρ).bind fun ds => if ds.length ≤ 1000 then some (.tup ds) else none := rfl
theorem ap_Lst : eLst fs ρ = (fs ρ).bind fun ds => if ds.length ≤ 1000 then some (.lst ds) else none := rfl
theorem ap_Call : eCall n F fs ρ = (fs ρ).bind fun ds => if ds.length = n then F ds else none := rfl
theorem ap_CB : eCB F fs ρ = (fs ρ).bind F := rfl
theorem ap_Not : eNot f ρ = match f ρ with | some (.bl b) => some (.bl (!b)) | _ => none := rfl
theorem ap_And : eAnd fa fb ρ = match fa ρ with | some (.bl true) => fb ρ | some (.bl false) => some (.bl false) | _ => none := rfl
theorem ap_Or : eOr fa fb ρ = match fa ρ with | some (.bl true) => some (.bl true) | some (.bl false) => fb ρ | _ => none := rfl
theorem ap_If : eIf c f g ρ = match c ρ with | some (.bl true) => f ρ | some (.bl false) => g ρ | _ => none := rfl
theorem ap_Ch : eCh op op' fa fb c ρ = (fa ρ).bind fun x => (fb ρ).bind fun y => match op x y with | some (.bl true) => (c ρ).bind fun z => op' y z | some (.bl false) => some (.bl false) | _ => none := rfl
theorem ap_Set : gSet i f ρ = match f ρ with | some d => .nx (ρ.set i (some (false, d))) | none => .stuck := rfl
theorem ap_SetF : gSetF i f ρ = match f ρ with | some d => .nx (ρ.set i (some (true, d))) | none => .stuck := rfl
theorem ap_Seq : gSeq s s' ρ = match s ρ with | .nx ρ1 => s' ρ1 | x => x := rfl
theorem ap_IfS : gIf c s s' ρ = match c ρ with | some (.bl true) => s ρ | some (.bl false) => s' ρ | _ => .stuck := rfl
theorem ap_Nx : gNx ρ = .nx ρ := rfl
theorem ap_Exp : gExp f ρ = match f ρ with | some _ => .nx ρ | none => .stuck := rfl
theorem ap_Par : gPar i j fs ρ = match fs ρ with | some [x, y] => .nx ((ρ.set i (some (false, x))).set j (some (false, y))) | _ => .stuck := rfl
theorem ap_ParF : gParF i j f g ρ = match f ρ, g ρ with | some x, some y => .nx ((ρ.set i (some (true, x))).set j (some (true, y))) | _, _ => .stuck := rfl
theorem ap_Wh {fu : DEnv → Nat} : gWh fu c s ρ = whL c s (fu ρ) ρ := rfl
theorem ap_For {it : DEnv → Option (List D)} {b : D → DEnv → Option DEnv} : gFor it b s ρ = match it ρ with | some ds => forL b s ds ρ | none => .stuck := rfl
theorem ap_iL : iL f ρ = match f ρ with | some (.lst ds) => some ds | _ => none := rfl
theorem ap_iT : iT f ρ = match f ρ with | some (.tup ds) => some ds | _ => none := rfl
theorem ap_iZX : iZX f g ρ = ((f ρ).bind seqD).bind fun xs => ((g ρ).bind seqD).map fun ys => zipD xs ys := rfl
theorem ap_iR1 : iR1 f ρ = match f ρ with | some (.int j) => if rngOk 0 j then some (rngD 0 j) else none | _ => none := rfl
theorem ap_Isi {n : String} : eIsi n f ρ = (f ρ).bind (gIsi n) := rfl
theorem ap_Fld {C : Addr} {x : Str} : eFld C x f ρ = match f ρ with | some (.ins C' fs) => if C' = C then fs.lookup x else none | _ => none := rfl
theorem ap_IsC {C : Addr} : eIsC C f ρ = match f ρ with | some (.ins C' _) => if C' = C then some (.bl true) else none | _ => none := rfl
theorem ap_App : gApp i f ρ = match f ρ, ρ[i]? with | some d, some (some (true, .lst ds)) => if ds.length < 1000 then .nx (ρ.set i (some (true, .lst (ds ++ [d])))) else .stuck | _, _ => .stuck := rfl
theorem ap_Make {C : Addr} {G : List D → Option (List (Str × D))} : eMake C n G fs ρ = (fs ρ).bind fun ds => if ds.length = n then (G ds).map (.ins C) else none := rfl
theorem ap_Asg {b : D → DEnv → Option DEnv} : gAsg f b ρ = match (f ρ).bind fun d => b d ρ with | some ρ' => .nx ρ' | none => .stuck := rfl
theorem back_ret (f : DE1) (ρ : DEnv) : backD (gRet f ρ) = f ρ := by unfold gRet; cases f ρ <;> rfl
theorem ap_Ret (h : f ρ = some d) : gRet f ρ = .rt d := by unfold gRet; rw [h]
theorem ap_bN : bN i d ρ = some (ρ.set i (some (false, d))) := rfl
theorem ap_bT {b : List D → DEnv → Option DEnv} {ds : List D} : bT b (.tup ds) ρ = b ds ρ := rfl
theorem ap_bC {b : D → DEnv → Option DEnv} {bs : List D → DEnv → Option DEnv} {ds : List D} : bCons b bs (d :: ds) ρ = (b d ρ).bind (bs ds) := rfl
theorem ap_b0 : bNil [] ρ = some ρ := rfl
end
theorem bind_s {α β : Type} (a : α) (f : α → Option β) : (some a).bind f = f a := rfl
theorem ix0 (a b : Int) : gIx (fr a b) (.int 0) = some (.int a) := rfl
theorem ix1 (a b : Int) : gIx (fr a b) (.int 1) = some (.int b) := rfl
theorem mMul_eq {a b : Int} (ha : sz a = true) (hb : sz b = true) : gMulI (.int a) (.int b) = some (.int (a * b)) := by
  show mMul a b = _; unfold mMul; rw [ha, hb]; rfl
theorem mDiv_eq {a b : Int} (h0 : 0 < b) (hb : sz b = true) : gDivI (.int a) (.int b) = some (.int (a / b)) := by
  show mDiv a b = _; unfold mDiv; rw [hb, decide_eq_true h0]; rfl
theorem mMod_eq {a b : Int} (h0 : 0 < b) : gModI (.int a) (.int b) = some (.int (a % b)) := by
  show mMod a b = _; unfold mMod; rw [if_pos h0]
theorem gAdd_eq (a b : Int) : gAddI (.int a) (.int b) = some (.int (a + b)) := rfl
theorem gSub_eq (a b : Int) : gSubI (.int a) (.int b) = some (.int (a - b)) := rfl
theorem gLt_eq (a b : Int) : gLt (.int a) (.int b) = some (.bl (decide (a < b))) := rfl
theorem gLe_eq (a b : Int) : gLe (.int a) (.int b) = some (.bl (decide (a ≤ b))) := rfl
theorem gGt_eq (a b : Int) : gGt (.int a) (.int b) = some (.bl (decide (b < a))) := rfl
theorem gGe_eq (a b : Int) : gGe (.int a) (.int b) = some (.bl (decide (b ≤ a))) := rfl
theorem gGcd_eq (a b : Int) : gGcd [.int a, .int b] = some (.int (Nat.gcd a.natAbs b.natAbs : Nat)) := rfl
theorem gInt_eq (a : Int) : gInt [.int a] = some (.int a) := rfl

theorem F_ratio_eq (c : Addr) {t b : Int} (h : 0 < b) (hb : sz b = true) : F_ratio c [.int t, .int b] = some (qd (low t b)) := by
  have hg : (0 : Int) < (Nat.gcd t.natAbs b.natAbs : Nat) := by have := g_pos (t := t) h; omega
  have sg : sz ((Nat.gcd t.natAbs b.natAbs : Nat) : Int) = true := by
    unfold sz at hb ⊢
    apply decide_eq_true
    have hb := of_decide_eq_true hb
    have l : Nat.gcd t.natAbs b.natAbs ≤ b.natAbs := Nat.gcd_le_right _ (by omega)
    have h1 : ((Nat.gcd t.natAbs b.natAbs : Nat) : Int).natAbs = Nat.gcd t.natAbs b.natAbs := rfl
    rw [h1]
    have h2 := g_pos (t := t) h
    exact (Nat.log2_lt (by omega)).mpr (Nat.lt_of_le_of_lt l ((Nat.log2_lt (by omega)).mp hb))
  simp only [F_ratio, g_ratio, mkF, startD, ap_Seq, back_ret, ap_Set, ap_SetF, ap_Call, ap_CB, ap_Cons, ap_Nil, ap_2, ap_C, ap_V, ap_VB, ap_Tup, ap_Lst, ap_If, ap_Not, ap_Nx, ap_Exp, ap_Par, ap_ParF, ap_Wh, ap_For, ap_IfS, ap_bN, ap_bT, ap_bC, ap_b0, ix0, ix1, gAdd_eq, gSub_eq, List.map_cons, List.map_nil, List.length_cons, List.length_nil, List.cons_append, List.nil_append, List.replicate, List.getElem?_cons_zero, List.getElem?_cons_succ, List.set_cons_zero, List.set_cons_succ, bind_s, Option.map_some, if_true, Nat.reduceAdd, Nat.reduceSub, Nat.reduceLeDiff, reduceIte, gGcd_eq, mDiv_eq hg sg]
  rfl
theorem F_negative_eq (c : Addr) (p : Qp) : F_negative c [qd p] = some (qd (-p.1, p.2)) := rfl
theorem F_plus_low (c : Addr) {a b a' b' : Int} (ha : sz a = true) (hb : sz b = true) (ha' : sz a' = true) (hb' : sz b' = true) : F_plus c [fr a b, fr a' b'] = F_ratio c [.int (a * b' + a' * b), .int (b * b')] := by
  simp only [F_plus, g_plus, mkF, startD, ap_Seq, back_ret, ap_Set, ap_SetF, ap_Call, ap_CB, ap_Cons, ap_Nil, ap_2, ap_C, ap_V, ap_VB, ap_Tup, ap_Lst, ap_If, ap_Not, ap_Nx, ap_Exp, ap_Par, ap_ParF, ap_Wh, ap_For, ap_IfS, ap_bN, ap_bT, ap_bC, ap_b0, ix0, ix1, gAdd_eq, gSub_eq, List.map_cons, List.map_nil, List.length_cons, List.length_nil, List.cons_append, List.nil_append, List.replicate, List.getElem?_cons_zero, List.getElem?_cons_succ, List.set_cons_zero, List.set_cons_succ, bind_s, Option.map_some, if_true, Nat.reduceAdd, Nat.reduceSub, Nat.reduceLeDiff, reduceIte, mMul_eq ha hb', mMul_eq ha' hb, mMul_eq hb hb']
theorem F_plus_eq (c : Addr) {p q : Qp} {n m : Nat} (hp : Ok n p) (hq : Ok m q) (l : n + m ≤ 8000) : F_plus c [qd p, qd q] = some (qd (qadd p q)) := by
  show F_plus c [fr _ _, fr _ _] = _
  rw [F_plus_low c (sz_of hp.b1 (by omega)) (sz_of hp.b2 (by omega)) (sz_of hq.b1 (by omega)) (sz_of hq.b2 (by omega))]
  exact F_ratio_eq c (Int.mul_pos hp.pos hq.pos) (sz_of (mulb hp.b2 hq.b2) l)
theorem F_minus_eq (c : Addr) {p q : Qp} {n m : Nat} (hp : Ok n p) (hq : Ok m q) (l : n + m ≤ 8000) : F_minus c [qd p, qd q] = some (qd (qsub p q)) := by
  have e : F_minus c [qd p, qd q] = F_plus c [qd p, qd (-q.1, q.2)] := by
    simp only [F_minus, g_minus, mkF, startD, ap_Seq, back_ret, ap_Set, ap_SetF, ap_Call, ap_CB, ap_Cons, ap_Nil, ap_2, ap_C, ap_V, ap_VB, ap_Tup, ap_Lst, ap_If, ap_Not, ap_Nx, ap_Exp, ap_Par, ap_ParF, ap_Wh, ap_For, ap_IfS, ap_bN, ap_bT, ap_bC, ap_b0, ix0, ix1, gAdd_eq, gSub_eq, List.map_cons, List.map_nil, List.length_cons, List.length_nil, List.cons_append, List.nil_append, List.replicate, List.getElem?_cons_zero, List.getElem?_cons_succ, List.set_cons_zero, List.set_cons_succ, bind_s, Option.map_some, if_true, Nat.reduceAdd, Nat.reduceSub, Nat.reduceLeDiff, reduceIte, F_negative_eq]
  rw [e]
  have hq' : Ok m (-q.1, q.2) := ⟨hq.pos, by show Nat.gcd (-q.1).natAbs _ = 1; rw [Int.natAbs_neg]; exact hq.cop, by show (-q.1).natAbs < _; rw [Int.natAbs_neg]; exact hq.b1, hq.b2⟩
  rw [F_plus_eq c hp hq' l]
  unfold qadd qsub
  simp only [Int.neg_mul, ← Int.sub_eq_add_neg]
theorem F_times_eq (c : Addr) {p q : Qp} {n m : Nat} (hp : Ok n p) (hq : Ok m q) (l : n + m ≤ 8000) : F_times c [qd p, qd q] = some (qd (qmul p q)) := by
  have e : F_times c [fr p.1 p.2, fr q.1 q.2] = F_ratio c [.int (p.1 * q.1), .int (p.2 * q.2)] := by
    simp only [F_times, g_times, mkF, startD, ap_Seq, back_ret, ap_Set, ap_SetF, ap_Call, ap_CB, ap_Cons, ap_Nil, ap_2, ap_C, ap_V, ap_VB, ap_Tup, ap_Lst, ap_If, ap_Not, ap_Nx, ap_Exp, ap_Par, ap_ParF, ap_Wh, ap_For, ap_IfS, ap_bN, ap_bT, ap_bC, ap_b0, ix0, ix1, gAdd_eq, gSub_eq, List.map_cons, List.map_nil, List.length_cons, List.length_nil, List.cons_append, List.nil_append, List.replicate, List.getElem?_cons_zero, List.getElem?_cons_succ, List.set_cons_zero, List.set_cons_succ, bind_s, Option.map_some, if_true, Nat.reduceAdd, Nat.reduceSub, Nat.reduceLeDiff, reduceIte, mMul_eq (sz_of hp.b1 (by omega)) (sz_of hq.b1 (by omega)), mMul_eq (sz_of hp.b2 (by omega)) (sz_of hq.b2 (by omega))]
  show F_times c [fr _ _, fr _ _] = _
  rw [e]
  exact F_ratio_eq c (Int.mul_pos hp.pos hq.pos) (sz_of (mulb hp.b2 hq.b2) l)
theorem F_is_less_eq (c : Addr) {p q : Qp} {n m : Nat} (hp : Ok n p) (hq : Ok m q) (l : n + m ≤ 8000) : F_is_less c [qd p, qd q] = some (.bl (qlt p q)) := by
  show F_is_less c [fr _ _, fr _ _] = _
  simp only [F_is_less, g_is_less, mkF, startD, ap_Seq, back_ret, ap_Set, ap_SetF, ap_Call, ap_CB, ap_Cons, ap_Nil, ap_2, ap_C, ap_V, ap_VB, ap_Tup, ap_Lst, ap_If, ap_Not, ap_Nx, ap_Exp, ap_Par, ap_ParF, ap_Wh, ap_For, ap_IfS, ap_bN, ap_bT, ap_bC, ap_b0, ix0, ix1, gAdd_eq, gSub_eq, List.map_cons, List.map_nil, List.length_cons, List.length_nil, List.cons_append, List.nil_append, List.replicate, List.getElem?_cons_zero, List.getElem?_cons_succ, List.set_cons_zero, List.set_cons_succ, bind_s, Option.map_some, if_true, Nat.reduceAdd, Nat.reduceSub, Nat.reduceLeDiff, reduceIte, mMul_eq (sz_of hp.b1 (by omega)) (sz_of hq.b2 (by omega)), mMul_eq (sz_of hq.b1 (by omega)) (sz_of hp.b2 (by omega)), gLt_eq]
  rfl
theorem F_below_eq (c : Addr) {p q : Qp} {n m : Nat} (hp : Ok n p) (hq : Ok m q) (l : n + m ≤ 8000) : F_u_law_below c [qd p, qd q] = some (.bl (qlt p q)) := by
  show F_u_law_below c [fr _ _, fr _ _] = _
  simp only [F_u_law_below, g_u_law_below, mkF, startD, ap_Seq, back_ret, ap_Set, ap_SetF, ap_Call, ap_CB, ap_Cons, ap_Nil, ap_2, ap_C, ap_V, ap_VB, ap_Tup, ap_Lst, ap_If, ap_Not, ap_Nx, ap_Exp, ap_Par, ap_ParF, ap_Wh, ap_For, ap_IfS, ap_bN, ap_bT, ap_bC, ap_b0, ix0, ix1, gAdd_eq, gSub_eq, List.map_cons, List.map_nil, List.length_cons, List.length_nil, List.cons_append, List.nil_append, List.replicate, List.getElem?_cons_zero, List.getElem?_cons_succ, List.set_cons_zero, List.set_cons_succ, bind_s, Option.map_some, if_true, Nat.reduceAdd, Nat.reduceSub, Nat.reduceLeDiff, reduceIte, mMul_eq (sz_of hp.b1 (by omega)) (sz_of hq.b2 (by omega)), mMul_eq (sz_of hq.b1 (by omega)) (sz_of hp.b2 (by omega)), gLt_eq]
  rfl
/-! the law's own lowest terms, by Euclid -/
theorem eqD_int (a b : Int) : eqD true (.int a) (.int b) = some (.bl (!(a == b))) := rfl
theorem eqD_int' (a b : Int) : eqD false (.int a) (.int b) = some (.bl (a == b)) := rfl
def euc (c : Addr) (t b : Int) : Nat → Int → Int → Fl := fun n x y => whL (e2 (eqD true) (eVB 3) (eC (.int 0))) (gPar 2 3 (aCons (eV 3) (aCons (e2 gModI (eCB gInt (aCons (eVB 2) aNil)) (eVB 3)) aNil))) n [some (false, .int t), some (false, .int b), some (false, .int x), some (false, .int y)]
theorem euc_eq (c : Addr) (t b : Int) : ∀ (n : Nat) (x y : Nat), y < n → euc c t b n x y = .nx [some (false, .int t), some (false, .int b), some (false, .int (Nat.gcd x y : Nat)), some (false, .int 0)]
  | 0, x, y, h => by omega
  | n + 1, x, y, h => by
    unfold euc whL
    by_cases hy : y = 0
    · subst hy
      simp only [mkF, startD, ap_Seq, back_ret, ap_Set, ap_SetF, ap_Call, ap_CB, ap_Cons, ap_Nil, ap_2, ap_C, ap_V, ap_VB, ap_Tup, ap_Lst, ap_If, ap_Not, ap_Nx, ap_Exp, ap_Par, ap_ParF, ap_Wh, ap_For, ap_IfS, ap_bN, ap_bT, ap_bC, ap_b0, ix0, ix1, gAdd_eq, gSub_eq, List.map_cons, List.map_nil, List.length_cons, List.length_nil, List.cons_append, List.nil_append, List.replicate, List.getElem?_cons_zero, List.getElem?_cons_succ, List.set_cons_zero, List.set_cons_succ, bind_s, Option.map_some, if_true, Nat.reduceAdd, Nat.reduceSub, Nat.reduceLeDiff, reduceIte, eqD_int, Nat.gcd_zero_right]
      rfl
    · have hp : (0 : Int) < (y : Int) := by omega
      have hb : ((y : Int) == 0) = false := by simpa using hy
      simp only [mkF, startD, ap_Seq, back_ret, ap_Set, ap_SetF, ap_Call, ap_CB, ap_Cons, ap_Nil, ap_2, ap_C, ap_V, ap_VB, ap_Tup, ap_Lst, ap_If, ap_Not, ap_Nx, ap_Exp, ap_Par, ap_ParF, ap_Wh, ap_For, ap_IfS, ap_bN, ap_bT, ap_bC, ap_b0, ix0, ix1, gAdd_eq, gSub_eq, List.map_cons, List.map_nil, List.length_cons, List.length_nil, List.cons_append, List.nil_append, List.replicate, List.getElem?_cons_zero, List.getElem?_cons_succ, List.set_cons_zero, List.set_cons_succ, bind_s, Option.map_some, if_true, Nat.reduceAdd, Nat.reduceSub, Nat.reduceLeDiff, reduceIte, eqD_int, hb, Bool.not_false, gInt_eq, mMod_eq hp]
      have := euc_eq c t b n y (x % y) (by have := Nat.mod_lt x (Nat.pos_of_ne_zero hy); omega)
      unfold euc at this
      rw [Nat.gcd_comm x y, Nat.gcd_rec y x] 
      rw [show ((x : Int) % (y : Int)) = ((x % y : Nat) : Int) from rfl, this, Nat.gcd_comm]
theorem gAbs_eq (a : Int) : gAbs [.int a] = some (.int a.natAbs) := by
  show some (D.int (if a < 0 then -a else a)) = _
  congr 2
  split <;> omega
theorem F_lowest_eq (c : Addr) {t b : Int} (h : 0 < b) (hb : sz b = true) : F_u_law_lowest c [.int t, .int b] = some (qd (low t b)) := by
  have hg : (0 : Int) < (Nat.gcd t.natAbs b.natAbs : Nat) := by have := g_pos (t := t) h; omega
  have sg : sz ((Nat.gcd t.natAbs b.natAbs : Nat) : Int) = true := by
    unfold sz at hb ⊢
    apply decide_eq_true
    have hb := of_decide_eq_true hb
    have l : Nat.gcd t.natAbs b.natAbs ≤ b.natAbs := Nat.gcd_le_right _ (by omega)
    have h1 : ((Nat.gcd t.natAbs b.natAbs : Nat) : Int).natAbs = Nat.gcd t.natAbs b.natAbs := rfl
    rw [h1]
    have h2 := g_pos (t := t) h
    exact (Nat.log2_lt (by omega)).mpr (Nat.lt_of_le_of_lt l ((Nat.log2_lt (by omega)).mp hb))
  have e := euc_eq c t b (b.natAbs + 1) t.natAbs b.natAbs (by omega)
  unfold euc at e
  simp only [F_u_law_lowest, g_u_law_lowest, mkF, startD, ap_Seq, back_ret, ap_Set, ap_SetF, ap_Call, ap_CB, ap_Cons, ap_Nil, ap_2, ap_C, ap_V, ap_VB, ap_Tup, ap_Lst, ap_If, ap_Not, ap_Nx, ap_Exp, ap_Par, ap_ParF, ap_Wh, ap_For, ap_IfS, ap_bN, ap_bT, ap_bC, ap_b0, ix0, ix1, gAdd_eq, gSub_eq, List.map_cons, List.map_nil, List.length_cons, List.length_nil, List.cons_append, List.nil_append, List.replicate, List.getElem?_cons_zero, List.getElem?_cons_succ, List.set_cons_zero, List.set_cons_succ, bind_s, Option.map_some, if_true, Nat.reduceAdd, Nat.reduceSub, Nat.reduceLeDiff, reduceIte, gAbs_eq, Int.natAbs_natCast]
  rw [e]
  simp only [mkF, startD, ap_Seq, back_ret, ap_Set, ap_SetF, ap_Call, ap_CB, ap_Cons, ap_Nil, ap_2, ap_C, ap_V, ap_VB, ap_Tup, ap_Lst, ap_If, ap_Not, ap_Nx, ap_Exp, ap_Par, ap_ParF, ap_Wh, ap_For, ap_IfS, ap_bN, ap_bT, ap_bC, ap_b0, ix0, ix1, gAdd_eq, gSub_eq, List.map_cons, List.map_nil, List.length_cons, List.length_nil, List.cons_append, List.nil_append, List.replicate, List.getElem?_cons_zero, List.getElem?_cons_succ, List.set_cons_zero, List.set_cons_succ, bind_s, Option.map_some, if_true, Nat.reduceAdd, Nat.reduceSub, Nat.reduceLeDiff, reduceIte, gGt_eq, decide_eq_true h, mDiv_eq hg sg]
  rfl
theorem F_lsum_eq (c : Addr) {p q : Qp} {n m : Nat} (hp : Ok n p) (hq : Ok m q) (l : n + m ≤ 8000) : F_u_law_sum c [qd p, qd q] = some (qd (qadd p q)) := by
  show F_u_law_sum c [fr _ _, fr _ _] = _
  simp only [F_u_law_sum, g_u_law_sum, mkF, startD, ap_Seq, back_ret, ap_Set, ap_SetF, ap_Call, ap_CB, ap_Cons, ap_Nil, ap_2, ap_C, ap_V, ap_VB, ap_Tup, ap_Lst, ap_If, ap_Not, ap_Nx, ap_Exp, ap_Par, ap_ParF, ap_Wh, ap_For, ap_IfS, ap_bN, ap_bT, ap_bC, ap_b0, ix0, ix1, gAdd_eq, gSub_eq, List.map_cons, List.map_nil, List.length_cons, List.length_nil, List.cons_append, List.nil_append, List.replicate, List.getElem?_cons_zero, List.getElem?_cons_succ, List.set_cons_zero, List.set_cons_succ, bind_s, Option.map_some, if_true, Nat.reduceAdd, Nat.reduceSub, Nat.reduceLeDiff, reduceIte, mMul_eq (sz_of hp.b1 (by omega)) (sz_of hq.b2 (by omega)), mMul_eq (sz_of hq.b1 (by omega)) (sz_of hp.b2 (by omega)), mMul_eq (sz_of hp.b2 (by omega)) (sz_of hq.b2 (by omega))]
  exact F_lowest_eq c (Int.mul_pos hp.pos hq.pos) (sz_of (mulb hp.b2 hq.b2) l)
theorem F_lless_eq (c : Addr) {p q : Qp} {n m : Nat} (hp : Ok n p) (hq : Ok m q) (l : n + m ≤ 8000) : F_u_law_less c [qd p, qd q] = some (qd (qsub p q)) := by
  show F_u_law_less c [fr _ _, fr _ _] = _
  simp only [F_u_law_less, g_u_law_less, mkF, startD, ap_Seq, back_ret, ap_Set, ap_SetF, ap_Call, ap_CB, ap_Cons, ap_Nil, ap_2, ap_C, ap_V, ap_VB, ap_Tup, ap_Lst, ap_If, ap_Not, ap_Nx, ap_Exp, ap_Par, ap_ParF, ap_Wh, ap_For, ap_IfS, ap_bN, ap_bT, ap_bC, ap_b0, ix0, ix1, gAdd_eq, gSub_eq, List.map_cons, List.map_nil, List.length_cons, List.length_nil, List.cons_append, List.nil_append, List.replicate, List.getElem?_cons_zero, List.getElem?_cons_succ, List.set_cons_zero, List.set_cons_succ, bind_s, Option.map_some, if_true, Nat.reduceAdd, Nat.reduceSub, Nat.reduceLeDiff, reduceIte, mMul_eq (sz_of hp.b1 (by omega)) (sz_of hq.b2 (by omega)), mMul_eq (sz_of hq.b1 (by omega)) (sz_of hp.b2 (by omega)), mMul_eq (sz_of hp.b2 (by omega)) (sz_of hq.b2 (by omega))]
  exact F_lowest_eq c (Int.mul_pos hp.pos hq.pos) (sz_of (mulb hp.b2 hq.b2) l)
theorem F_lproduct_eq (c : Addr) {p q : Qp} {n m : Nat} (hp : Ok n p) (hq : Ok m q) (l : n + m ≤ 8000) : F_u_law_product c [qd p, qd q] = some (qd (qmul p q)) := by
  show F_u_law_product c [fr _ _, fr _ _] = _
  simp only [F_u_law_product, g_u_law_product, mkF, startD, ap_Seq, back_ret, ap_Set, ap_SetF, ap_Call, ap_CB, ap_Cons, ap_Nil, ap_2, ap_C, ap_V, ap_VB, ap_Tup, ap_Lst, ap_If, ap_Not, ap_Nx, ap_Exp, ap_Par, ap_ParF, ap_Wh, ap_For, ap_IfS, ap_bN, ap_bT, ap_bC, ap_b0, ix0, ix1, gAdd_eq, gSub_eq, List.map_cons, List.map_nil, List.length_cons, List.length_nil, List.cons_append, List.nil_append, List.replicate, List.getElem?_cons_zero, List.getElem?_cons_succ, List.set_cons_zero, List.set_cons_succ, bind_s, Option.map_some, if_true, Nat.reduceAdd, Nat.reduceSub, Nat.reduceLeDiff, reduceIte, mMul_eq (sz_of hp.b1 (by omega)) (sz_of hq.b1 (by omega)), mMul_eq (sz_of hp.b2 (by omega)) (sz_of hq.b2 (by omega))]
  exact F_lowest_eq c (Int.mul_pos hp.pos hq.pos) (sz_of (mulb hp.b2 hq.b2) l)
--PART2
end K01

set_option maxHeartbeats 1000000
namespace K01
open PySem PySem.Spec PyProof.Rows L2 DL
/-! ### lists of them -/
theorem compL_map {b : D → DEnv → Option DEnv} {f : DE1} {ρ : DEnv} {h : D → D} : ∀ ds : List D, (∀ d ∈ ds, (b d ρ).bind f = some (h d)) → compL b (eC (.bl true)) f ρ ds = some (ds.map h)
  | [], _ => rfl
  | d :: ds, H => by
    have h1 := H d List.mem_cons_self
    have h2 := compL_map ds fun x hx => H x (List.mem_cons_of_mem _ hx)
    unfold compL
    cases e : b d ρ with
    | none => rw [e] at h1; cases h1
    | some ρ1 =>
      rw [e] at h1
      have h1 : f ρ1 = some (h d) := h1
      simp only [eC, h1, h2, Option.map_some, List.map_cons]
theorem eLc_map {it : DEnv → Option (List D)} {vs : List Nat} {b : D → DEnv → Option DEnv} {f : DE1} {ρ : DEnv} {ds : List D} (h : D → D) (hi : it ρ = some ds) (hl : ds.length ≤ 1000) (H : ∀ d ∈ ds, (b d (wipeD ρ vs)).bind f = some (h d)) :
    eLc it vs b (eC (.bl true)) f ρ = some (.lst (ds.map h)) := by
  unfold eLc
  rw [hi]
  simp only [hl, if_true, compL_map ds H, Option.map_some]
theorem foldl_ok {n : Nat} : ∀ (ps : List Qp) (m : Nat) (acc : Qp), (∀ p ∈ ps, Ok n p) → Ok m acc → Ok (m + ps.length * (n + 1)) (ps.foldl qadd acc)
  | [], m, acc, _, h => by simpa using h
  | p :: ps, m, acc, H, h => by
    have h1 := qadd_ok h (H p List.mem_cons_self)
    have := foldl_ok ps (m + n + 1) (qadd acc p) (fun x hx => H x (List.mem_cons_of_mem _ hx)) h1
    refine this.mono ?_
    rw [List.length_cons, Nat.succ_mul]
    omega
theorem total_loop (c : Addr) (L : D) {n : Nat} : ∀ (ps : List Qp) (m : Nat) (acc : Qp) (sl : Slot), (∀ p ∈ ps, Ok n p) → Ok m acc → m + ps.length * (n + 1) + n ≤ 8000 →
    ∃ sl', forL (bN 2) (gSet 1 (eCall 2 (F_plus c) (aCons (eV 1) (aCons (eV 2) aNil)))) (ps.map qd) [some (false, L), some (false, qd acc), sl] = .nx [some (false, L), some (false, qd (ps.foldl qadd acc)), sl']
  | [], m, acc, sl, _, _, _ => ⟨sl, rfl⟩
  | p :: ps, m, acc, sl, H, h, l => by
    rw [List.length_cons, Nat.succ_mul] at l
    have hp := H p List.mem_cons_self
    have h1 := F_plus_eq c h hp (by omega)
    obtain ⟨sl', e⟩ := total_loop c L ps (m + n + 1) (qadd acc p) (some (false, qd p)) (fun x hx => H x (List.mem_cons_of_mem _ hx)) (qadd_ok h hp) (by omega)
    refine ⟨sl', ?_⟩
    unfold forL
    simp only [mkF, startD, ap_Seq, back_ret, ap_Set, ap_SetF, ap_Call, ap_CB, ap_Cons, ap_Nil, ap_2, ap_C, ap_V, ap_VB, ap_Tup, ap_Lst, ap_If, ap_Not, ap_Nx, ap_Exp, ap_Par, ap_ParF, ap_Wh, ap_For, ap_IfS, ap_bN, ap_bT, ap_bC, ap_b0, ix0, ix1, gAdd_eq, gSub_eq, List.map_cons, List.map_nil, List.length_cons, List.length_nil, List.cons_append, List.nil_append, List.replicate, List.getElem?_cons_zero, List.getElem?_cons_succ, List.set_cons_zero, List.set_cons_succ, bind_s, Option.map_some, if_true, Nat.reduceAdd, Nat.reduceSub, Nat.reduceLeDiff, reduceIte, h1, e, List.foldl_cons]
theorem F_total_eq (c : Addr) {n : Nat} (ps : List Qp) (H : ∀ p ∈ ps, Ok n p) (l : 1 + ps.length * (n + 1) + n ≤ 8000) : F_total c [.lst (ps.map qd)] = some (qd (ps.foldl qadd (0, 1))) := by
  obtain ⟨sl', e⟩ := total_loop c (.lst (ps.map qd)) ps 1 (0, 1) none H ⟨by decide, by decide, by decide, by decide⟩ l
  have e0 : (D.tup [.int 0, .int 1]) = qd (0, 1) := rfl
  simp only [F_total, g_total, mkF, startD, ap_Seq, back_ret, ap_Set, ap_SetF, ap_Call, ap_CB, ap_Cons, ap_Nil, ap_2, ap_C, ap_V, ap_VB, ap_Tup, ap_Lst, ap_If, ap_Not, ap_Nx, ap_Exp, ap_Par, ap_ParF, ap_Wh, ap_For, ap_IfS, ap_bN, ap_bT, ap_bC, ap_b0, ix0, ix1, gAdd_eq, gSub_eq, List.map_cons, List.map_nil, List.length_cons, List.length_nil, List.cons_append, List.nil_append, List.replicate, List.getElem?_cons_zero, List.getElem?_cons_succ, List.set_cons_zero, List.set_cons_succ, bind_s, Option.map_some, if_true, Nat.reduceAdd, Nat.reduceSub, Nat.reduceLeDiff, reduceIte, ap_iL, e0, e]
theorem zip_qd : ∀ ws as : List Qp, zipD (ws.map qd) (as.map qd) = (ws.zip as).map fun p => .tup [qd p.1, qd p.2]
  | [], _ => by cases ‹List Qp› <;> rfl
  | _ :: _, [] => rfl
  | w :: ws, a :: as => by
    show D.tup [qd w, qd a] :: zipD (ws.map qd) (as.map qd) = _
    rw [zip_qd ws as]
    rfl
def dotQ (ws as : List Qp) : Qp := ((ws.zip as).map fun p => qmul p.1 p.2).foldl qadd (0, 1)
theorem zip_ok {n m : Nat} {ws as : List Qp} (hw : ∀ p ∈ ws, Ok n p) (ha : ∀ p ∈ as, Ok m p) : ∀ p ∈ (ws.zip as).map (fun p => qmul p.1 p.2), Ok (n + m) p := fun p hp => by
  obtain ⟨⟨x, y⟩, hxy, rfl⟩ := List.mem_map.mp hp
  have := List.of_mem_zip hxy
  exact qmul_ok (hw x this.1) (ha y this.2)
theorem dotQ_ok {ws as : List Qp} (hw : ∀ p ∈ ws, Ok 10 p) (ha : ∀ p ∈ as, Ok 10 p) (l : ws.length ≤ 4) : Ok 85 (dotQ ws as) := by
  have := foldl_ok ((ws.zip as).map fun p => qmul p.1 p.2) 1 (0, 1) (zip_ok hw ha) ⟨by decide, by decide, by decide, by decide⟩
  refine this.mono ?_
  rw [List.length_map, List.length_zip]
  have : min ws.length as.length * (10 + 10 + 1) ≤ 4 * 21 := Nat.mul_le_mul (by omega) (by omega)
  omega
theorem F_weighted_eq (c : Addr) {ws as : List Qp} {A : D} (hA : seqD A = some (as.map qd)) (hw : ∀ p ∈ ws, Ok 10 p) (ha : ∀ p ∈ as, Ok 10 p) (l : ws.length ≤ 4) : F_weighted c [.lst (ws.map qd), A] = some (qd (dotQ ws as)) := by
  have hl : ((ws.zip as).map fun p => qmul p.1 p.2).length ≤ 4 := by rw [List.length_map, List.length_zip]; omega
  have e1 : eLc (iZX (eV 0) (eV 1)) ([(Str.ofString "weight", 2), (Str.ofString "amount", 3)].map (·.2)) (bT (bCons (bN 2) (bCons (bN 3) bNil))) (eC (.bl true)) (eCall 2 (F_times c) (aCons (eV 2) (aCons (eV 3) aNil))) [some (false, .lst (ws.map qd)), some (false, A), none, none]
      = some (.lst (((ws.zip as).map fun p => qmul p.1 p.2).map qd)) := by
    have hi : iZX (eV 0) (eV 1) [some (false, .lst (ws.map qd)), some (false, A), none, none] = some ((ws.zip as).map fun p => .tup [qd p.1, qd p.2]) := by
      simp only [ap_iZX, mkF, startD, ap_Seq, back_ret, ap_Set, ap_SetF, ap_Call, ap_CB, ap_Cons, ap_Nil, ap_2, ap_C, ap_V, ap_VB, ap_Tup, ap_Lst, ap_If, ap_Not, ap_Nx, ap_Exp, ap_Par, ap_ParF, ap_Wh, ap_For, ap_IfS, ap_bN, ap_bT, ap_bC, ap_b0, ix0, ix1, gAdd_eq, gSub_eq, List.map_cons, List.map_nil, List.length_cons, List.length_nil, List.cons_append, List.nil_append, List.replicate, List.getElem?_cons_zero, List.getElem?_cons_succ, List.set_cons_zero, List.set_cons_succ, bind_s, Option.map_some, if_true, Nat.reduceAdd, Nat.reduceSub, Nat.reduceLeDiff, reduceIte, hA]
      show some (zipD (ws.map qd) (as.map qd)) = _
      rw [zip_qd]
    unfold eLc
    rw [hi]
    simp only [List.length_map, List.length_zip, show min ws.length as.length ≤ 1000 by omega, if_true]
    have : ∀ zs : List (Qp × Qp), (∀ z ∈ zs, z.1 ∈ ws ∧ z.2 ∈ as) → compL (bT (bCons (bN 2) (bCons (bN 3) bNil))) (eC (.bl true)) (eCall 2 (F_times c) (aCons (eV 2) (aCons (eV 3) aNil))) (wipeD [some (false, .lst (ws.map qd)), some (false, A), none, none] [2, 3]) (zs.map fun p => .tup [qd p.1, qd p.2])
        = some ((zs.map fun p => qmul p.1 p.2).map qd) := by
      intro zs
      induction zs with
      | nil => intro _; rfl
      | cons z zs ih =>
        intro H
        have hz := H z List.mem_cons_self
        have e := F_times_eq c (hw z.1 hz.1) (ha z.2 hz.2) (by omega)
        have e2 := ih fun x hx => H x (List.mem_cons_of_mem _ hx)
        simp only [wipeD, List.set_cons_succ, List.set_cons_zero] at e2
        simp only [List.map_cons, compL, wipeD, mkF, startD, ap_Seq, back_ret, ap_Set, ap_SetF, ap_Call, ap_CB, ap_Cons, ap_Nil, ap_2, ap_C, ap_V, ap_VB, ap_Tup, ap_Lst, ap_If, ap_Not, ap_Nx, ap_Exp, ap_Par, ap_ParF, ap_Wh, ap_For, ap_IfS, ap_bN, ap_bT, ap_bC, ap_b0, ix0, ix1, gAdd_eq, gSub_eq, List.map_cons, List.map_nil, List.length_cons, List.length_nil, List.cons_append, List.nil_append, List.replicate, List.getElem?_cons_zero, List.getElem?_cons_succ, List.set_cons_zero, List.set_cons_succ, bind_s, Option.map_some, if_true, Nat.reduceAdd, Nat.reduceSub, Nat.reduceLeDiff, reduceIte, e]
        rw [e2]
        rfl
    have e2 := this (ws.zip as) fun z hz => List.of_mem_zip hz
    simp only [List.map_cons, List.map_nil] at e2 ⊢
    rw [e2]
    try rfl
  have e2 := F_total_eq c (n := 20) ((ws.zip as).map fun p => qmul p.1 p.2) (zip_ok hw ha) (by
    have : ((ws.zip as).map fun p => qmul p.1 p.2).length * (20 + 1) ≤ 4 * 21 := Nat.mul_le_mul hl (by omega)
    omega)
  have e1' := e1
  simp only [List.map_cons, List.map_nil] at e1'
  simp only [F_weighted, g_weighted, mkF, startD, ap_Seq, back_ret, ap_Set, ap_SetF, ap_Call, ap_CB, ap_Cons, ap_Nil, ap_2, ap_C, ap_V, ap_VB, ap_Tup, ap_Lst, ap_If, ap_Not, ap_Nx, ap_Exp, ap_Par, ap_ParF, ap_Wh, ap_For, ap_IfS, ap_bN, ap_bT, ap_bC, ap_b0, ix0, ix1, gAdd_eq, gSub_eq, List.map_cons, List.map_nil, List.length_cons, List.length_nil, List.cons_append, List.nil_append, List.replicate, List.getElem?_cons_zero, List.getElem?_cons_succ, List.set_cons_zero, List.set_cons_succ, bind_s, Option.map_some, if_true, Nat.reduceAdd, Nat.reduceSub, Nat.reduceLeDiff, reduceIte, e1', e2]
  rfl
theorem dot_loop (c : Addr) (L A : D) : ∀ (zs : List (Qp × Qp)) (m : Nat) (acc : Qp) (s3 s4 : Slot), (∀ z ∈ zs, Ok 10 z.1 ∧ Ok 10 z.2) → Ok m acc → m + zs.length * 21 + 20 ≤ 8000 →
    ∃ s3' s4', forL (bT (bCons (bN 3) (bCons (bN 4) bNil))) (gSet 2 (eCall 2 (F_u_law_sum c) (aCons (eV 2) (aCons (eCall 2 (F_u_law_product c) (aCons (eV 3) (aCons (eV 4) aNil))) aNil)))) (zs.map fun p => .tup [qd p.1, qd p.2]) [some (false, L), some (false, A), some (false, qd acc), s3, s4]
      = .nx [some (false, L), some (false, A), some (false, qd ((zs.map fun p => qmul p.1 p.2).foldl qadd acc)), s3', s4']
  | [], m, acc, s3, s4, _, _, _ => ⟨s3, s4, rfl⟩
  | z :: zs, m, acc, s3, s4, H, h, l => by
    rw [List.length_cons, Nat.succ_mul] at l
    have hz := H z List.mem_cons_self
    have h0 := F_lproduct_eq c hz.1 hz.2 (by omega)
    have hk := qmul_ok hz.1 hz.2
    have h1 := F_lsum_eq c h hk (by omega)
    obtain ⟨s3', s4', e⟩ := dot_loop c L A zs (m + 20 + 1) (qadd acc (qmul z.1 z.2)) (some (false, qd z.1)) (some (false, qd z.2)) (fun x hx => H x (List.mem_cons_of_mem _ hx)) (qadd_ok h hk) (by omega)
    refine ⟨s3', s4', ?_⟩
    unfold forL
    simp only [mkF, startD, ap_Seq, back_ret, ap_Set, ap_SetF, ap_Call, ap_CB, ap_Cons, ap_Nil, ap_2, ap_C, ap_V, ap_VB, ap_Tup, ap_Lst, ap_If, ap_Not, ap_Nx, ap_Exp, ap_Par, ap_ParF, ap_Wh, ap_For, ap_IfS, ap_bN, ap_bT, ap_bC, ap_b0, ix0, ix1, gAdd_eq, gSub_eq, List.map_cons, List.map_nil, List.length_cons, List.length_nil, List.cons_append, List.nil_append, List.replicate, List.getElem?_cons_zero, List.getElem?_cons_succ, List.set_cons_zero, List.set_cons_succ, bind_s, Option.map_some, if_true, Nat.reduceAdd, Nat.reduceSub, Nat.reduceLeDiff, reduceIte, h0, h1, e, List.foldl_cons]
theorem F_dot_eq (c : Addr) {ws as : List Qp} {A : D} (hA : seqD A = some (as.map qd)) (hw : ∀ p ∈ ws, Ok 10 p) (ha : ∀ p ∈ as, Ok 10 p) (l : ws.length ≤ 4) : F_u_law_dot c [.lst (ws.map qd), A] = some (qd (dotQ ws as)) := by
  have hi : iZX (eV 0) (eV 1) [some (false, .lst (ws.map qd)), some (false, A), some (false, qd (0, 1)), none, none] = some ((ws.zip as).map fun p => .tup [qd p.1, qd p.2]) := by
    simp only [ap_iZX, mkF, startD, ap_Seq, back_ret, ap_Set, ap_SetF, ap_Call, ap_CB, ap_Cons, ap_Nil, ap_2, ap_C, ap_V, ap_VB, ap_Tup, ap_Lst, ap_If, ap_Not, ap_Nx, ap_Exp, ap_Par, ap_ParF, ap_Wh, ap_For, ap_IfS, ap_bN, ap_bT, ap_bC, ap_b0, ix0, ix1, gAdd_eq, gSub_eq, List.map_cons, List.map_nil, List.length_cons, List.length_nil, List.cons_append, List.nil_append, List.replicate, List.getElem?_cons_zero, List.getElem?_cons_succ, List.set_cons_zero, List.set_cons_succ, bind_s, Option.map_some, if_true, Nat.reduceAdd, Nat.reduceSub, Nat.reduceLeDiff, reduceIte, hA]
    show some (zipD (ws.map qd) (as.map qd)) = _
    rw [zip_qd]
  obtain ⟨s3', s4', e⟩ := dot_loop c (.lst (ws.map qd)) A (ws.zip as) 1 (0, 1) none none (fun z hz => ⟨hw _ (List.of_mem_zip hz).1, ha _ (List.of_mem_zip hz).2⟩) ⟨by decide, by decide, by decide, by decide⟩ (by
    have : (ws.zip as).length * 21 ≤ 4 * 21 := Nat.mul_le_mul (by rw [List.length_zip]; omega) (by omega)
    omega)
  have e0 : (D.tup [.int 0, .int 1]) = qd (0, 1) := rfl
  simp only [F_u_law_dot, g_u_law_dot, mkF, startD, ap_Seq, back_ret, ap_Set, ap_SetF, ap_Call, ap_CB, ap_Cons, ap_Nil, ap_2, ap_C, ap_V, ap_VB, ap_Tup, ap_Lst, ap_If, ap_Not, ap_Nx, ap_Exp, ap_Par, ap_ParF, ap_Wh, ap_For, ap_IfS, ap_bN, ap_bT, ap_bC, ap_b0, ix0, ix1, gAdd_eq, gSub_eq, List.map_cons, List.map_nil, List.length_cons, List.length_nil, List.cons_append, List.nil_append, List.replicate, List.getElem?_cons_zero, List.getElem?_cons_succ, List.set_cons_zero, List.set_cons_succ, bind_s, Option.map_some, if_true, Nat.reduceAdd, Nat.reduceSub, Nat.reduceLeDiff, reduceIte, Nat.reduceLeDiff, if_true, e0, hi, e]
  rfl
/-! ### jobs -/
def wkD (p : Int × List Int) : D := .tup [.int p.1, .tup (p.2.map .int)]
def wsD (ws : List Int) : D := .tup (ws.map .int)
def wksD (wk : List (Int × List Int)) : D := .tup (wk.map wkD)
def jobD (c : Addr) (ws : List Int) (wk : List (Int × List Int)) : D := .ins c [(Str.ofString "_worths", wsD ws), (Str.ofString "_works", wksD wk)]
def packD (ws : List Int) (wk : List (Int × List Int)) : D := .tup [wsD ws, wksD wk]
structure WkOk (n : Nat) (p : Int × List Int) : Prop where
  e0 : 0 ≤ p.1
  e1 : p.1 ≤ 9
  len : p.2.length = n
  part : ∀ x ∈ p.2, 0 ≤ x ∧ x ≤ 6
  sum : 0 < p.2.sum
structure Valid (ws : List Int) (wk : List (Int × List Int)) : Prop where
  l1 : 2 ≤ ws.length
  l2 : ws.length ≤ 4
  w : ∀ x ∈ ws, 0 ≤ x ∧ x ≤ 20
  k1 : 2 ≤ wk.length
  k2 : wk.length ≤ 4
  k : ∀ p ∈ wk, WkOk ws.length p
theorem intsOf_map : ∀ l : List Int, intsOf (l.map D.int) = some l
  | [] => rfl
  | x :: l => by simp only [List.map_cons, intsOf, intsOf_map l, Option.map_some]
theorem blsOf_map : ∀ l : List Bool, blsOf (l.map D.bl) = some l
  | [] => rfl
  | x :: l => by simp only [List.map_cons, blsOf, blsOf_map l, Option.map_some]
theorem sum_le {n : Int} (hn : 0 ≤ n) : ∀ l : List Int, (∀ x ∈ l, 0 ≤ x ∧ x ≤ n) → 0 ≤ l.sum ∧ l.sum ≤ l.length * n
  | [], _ => by simp
  | x :: l, h => by
    have h1 := h x List.mem_cons_self
    have h2 := sum_le hn l fun y hy => h y (List.mem_cons_of_mem _ hy)
    rw [List.sum_cons, List.length_cons]
    have : ((l.length + 1 : Nat) : Int) * n = l.length * n + n := by rw [Int.natCast_succ, Int.add_mul, Int.one_mul]
    omega
def chQ (parts : List Int) : List Qp := parts.map fun p => low p parts.sum
theorem WkOk.sumb {n : Nat} {p : Int × List Int} (h : WkOk n p) (l : n ≤ 4) : p.2.sum ≤ 24 := by
  have := (sum_le (by decide) p.2 h.part).2
  have : ((p.2.length : Nat) : Int) * 6 ≤ 4 * 6 := by have := h.len; omega
  omega
theorem chQ_ok {n : Nat} {p : Int × List Int} (h : WkOk n p) (l : n ≤ 4) : ∀ q ∈ chQ p.2, Ok 10 q := fun q hq => by
  obtain ⟨x, hx, rfl⟩ := List.mem_map.mp hq
  have h1 := h.part x hx
  have h2 := h.sumb l
  have h3 := h.sum
  exact low_ok h.sum (by omega) (by omega)
theorem low_map (c : Addr) {n : Nat} {p : Int × List Int} (h : WkOk n p) (l : n ≤ 4) (x : Int) : F_ratio c [.int x, .int p.2.sum] = some (qd (low x p.2.sum)) ∧ F_u_law_lowest c [.int x, .int p.2.sum] = some (qd (low x p.2.sum)) := by
  have h2 := h.sumb l
  have h3 := h.sum
  have : sz p.2.sum = true := sz_of (n := 10) (by omega) (by omega)
  exact ⟨F_ratio_eq c h3 this, F_lowest_eq c h3 this⟩
theorem lkW (a b : D) : List.lookup (Str.ofString "_worths") [(Str.ofString "_worths", a), (Str.ofString "_works", b)] = some a := by
  have : ((Str.ofString "_worths") == (Str.ofString "_worths")) = true := by decide +kernel
  rw [List.lookup_cons, this]
theorem lkK (a b : D) : List.lookup (Str.ofString "_works") [(Str.ofString "_worths", a), (Str.ofString "_works", b)] = some b := by
  have : ((Str.ofString "_works") == (Str.ofString "_worths")) = false := by decide +kernel
  have h2 : ((Str.ofString "_works") == (Str.ofString "_works")) = true := by decide +kernel
  rw [List.lookup_cons, this]
  show List.lookup _ _ = _
  rw [List.lookup_cons, h2]
theorem F_worths_eq (c : Addr) (ws : List Int) (wk : List (Int × List Int)) : F_Job_worths c [jobD c ws wk] = some (wsD ws) := by
  simp only [F_Job_worths, g_Job_worths, mkF, startD, ap_Seq, back_ret, ap_Set, ap_SetF, ap_Call, ap_CB, ap_Cons, ap_Nil, ap_2, ap_C, ap_V, ap_VB, ap_Tup, ap_Lst, ap_If, ap_Not, ap_Nx, ap_Exp, ap_Par, ap_ParF, ap_Wh, ap_For, ap_IfS, ap_bN, ap_bT, ap_bC, ap_b0, ix0, ix1, gAdd_eq, gSub_eq, List.map_cons, List.map_nil, List.length_cons, List.length_nil, List.cons_append, List.nil_append, List.replicate, List.getElem?_cons_zero, List.getElem?_cons_succ, List.set_cons_zero, List.set_cons_succ, bind_s, Option.map_some, if_true, Nat.reduceAdd, Nat.reduceSub, Nat.reduceLeDiff, reduceIte, ap_Fld, jobD, lkW]
theorem F_works_eq (c : Addr) (ws : List Int) (wk : List (Int × List Int)) : F_Job_works c [jobD c ws wk] = some (wksD wk) := by
  simp only [F_Job_works, g_Job_works, mkF, startD, ap_Seq, back_ret, ap_Set, ap_SetF, ap_Call, ap_CB, ap_Cons, ap_Nil, ap_2, ap_C, ap_V, ap_VB, ap_Tup, ap_Lst, ap_If, ap_Not, ap_Nx, ap_Exp, ap_Par, ap_ParF, ap_Wh, ap_For, ap_IfS, ap_bN, ap_bT, ap_bC, ap_b0, ix0, ix1, gAdd_eq, gSub_eq, List.map_cons, List.map_nil, List.length_cons, List.length_nil, List.cons_append, List.nil_append, List.replicate, List.getElem?_cons_zero, List.getElem?_cons_succ, List.set_cons_zero, List.set_cons_succ, bind_s, Option.map_some, if_true, Nat.reduceAdd, Nat.reduceSub, Nat.reduceLeDiff, reduceIte, ap_Fld, jobD, lkK]
theorem gLen_tup (xs : List D) : gLen [.tup xs] = some (.int xs.length) := rfl
theorem gLen_lst (xs : List D) : gLen [.lst xs] = some (.int xs.length) := rfl
theorem F_len_eq (c : Addr) (ws : List Int) (wk : List (Int × List Int)) : F_JobD_lenD c [jobD c ws wk] = some (.int wk.length) := by
  simp only [F_JobD_lenD, g_JobD_lenD, mkF, startD, ap_Seq, back_ret, ap_Set, ap_SetF, ap_Call, ap_CB, ap_Cons, ap_Nil, ap_2, ap_C, ap_V, ap_VB, ap_Tup, ap_Lst, ap_If, ap_Not, ap_Nx, ap_Exp, ap_Par, ap_ParF, ap_Wh, ap_For, ap_IfS, ap_bN, ap_bT, ap_bC, ap_b0, ix0, ix1, gAdd_eq, gSub_eq, List.map_cons, List.map_nil, List.length_cons, List.length_nil, List.cons_append, List.nil_append, List.replicate, List.getElem?_cons_zero, List.getElem?_cons_succ, List.set_cons_zero, List.set_cons_succ, bind_s, Option.map_some, if_true, Nat.reduceAdd, Nat.reduceSub, Nat.reduceLeDiff, reduceIte, ap_Fld, jobD, lkK, wksD, gLen_tup, List.length_map]
theorem len_job (c : Addr) {ws : List Int} {wk : List (Int × List Int)} (V : Valid ws wk) : (gLen [jobD c ws wk]).or (gLenO c (F_JobD_lenD c) [jobD c ws wk]) = some (.int wk.length) := by
  have h := V.k2
  show gLenO c (F_JobD_lenD c) [jobD c ws wk] = _
  unfold gLenO jobD
  simp only [if_true]
  have e := F_len_eq c ws wk
  unfold jobD at e
  rw [e]
  simp only
  rw [if_pos ⟨by omega, by omega⟩]
theorem prop_works (c : Addr) (ws : List Int) (wk : List (Int × List Int)) (f : DE1) (ρ : DEnv) (h : f ρ = some (jobD c ws wk)) : eProp c (F_Job_works c) f ρ = some (wksD wk) := by
  have e := F_works_eq c ws wk
  unfold eProp
  rw [h]
  unfold jobD at e ⊢
  simp only [if_true, e]
theorem prop_worths (c : Addr) (ws : List Int) (wk : List (Int × List Int)) (f : DE1) (ρ : DEnv) (h : f ρ = some (jobD c ws wk)) : eProp c (F_Job_worths c) f ρ = some (wsD ws) := by
  have e := F_worths_eq c ws wk
  unfold eProp
  rw [h]
  unfold jobD at e ⊢
  simp only [if_true, e]
theorem at_map {α : Type} {f : α → D} {l : List α} {i : Nat} {x : α} (h : l[i]? = some x) : atI (l.map f) (i : Int) = some (f x) := atI_nat (by rw [List.getElem?_map, h]; rfl)
theorem ix_tup_map {α : Type} {f : α → D} {l : List α} {i : Nat} {x : α} (h : l[i]? = some x) : gIx (.tup (l.map f)) (.int i) = some (f x) := at_map h
theorem ix_lst_map {α : Type} {f : α → D} {l : List α} {i : Nat} {x : α} (h : l[i]? = some x) : gIx (.lst (l.map f)) (.int i) = some (f x) := at_map h
theorem ix_wk0 (p : Int × List Int) : gIx (wkD p) (.int 0) = some (.int p.1) := rfl
theorem ix_wk1 (p : Int × List Int) : gIx (wkD p) (.int 1) = some (.tup (p.2.map .int)) := rfl
theorem ix_pk0 (ws : List Int) (wk : List (Int × List Int)) : gIx (packD ws wk) (.int 0) = some (wsD ws) := rfl
theorem ix_pk1 (ws : List Int) (wk : List (Int × List Int)) : gIx (packD ws wk) (.int 1) = some (wksD wk) := rfl
theorem gSum_tup (l : List Int) : gSum [.tup (l.map .int)] = some (.int l.sum) := by
  show (intsOf _).map _ = _
  rw [intsOf_map]
  rfl
theorem gSum_lst (l : List Int) : gSum [.lst (l.map .int)] = some (.int l.sum) := by
  show (intsOf _).map _ = _
  rw [intsOf_map]
  rfl
theorem F_chances_eq (c : Addr) {ws : List Int} {wk : List (Int × List Int)} (V : Valid ws wk) {i : Nat} {p : Int × List Int} (hp : wk[i]? = some p) : F_work_chances c [jobD c ws wk, .int i] = some (.lst ((chQ p.2).map qd)) := by
  have hk := V.k p (List.mem_of_getElem? hp)
  have e1 : eProp c (F_Job_works c) (eV 0) [some (false, jobD c ws wk), some (false, .int i), none, none] = some (wksD wk) := prop_works c ws wk _ _ rfl
  have eW : gIx (wksD wk) (.int i) = some (wkD p) := ix_tup_map hp
  have e3 := eLc_map (it := iT (eV 2)) (vs := [3]) (b := bN 3) (f := eCall 2 (F_ratio c) (aCons (eV 3) (aCons (eCB gSum (aCons (eVB 2) aNil)) aNil))) (ρ := [some (false, jobD c ws wk), some (false, .int i), some (false, .tup (p.2.map .int)), none]) (ds := p.2.map .int) (fun d => match d with | .int x => qd (low x p.2.sum) | _ => .non) rfl (by
      rw [List.length_map, hk.len]; have := V.l2; omega) (fun d hd => by
      obtain ⟨x, hx, rfl⟩ := List.mem_map.mp hd
      simp only [wipeD, mkF, startD, ap_Seq, back_ret, ap_Set, ap_SetF, ap_Call, ap_CB, ap_Cons, ap_Nil, ap_2, ap_C, ap_V, ap_VB, ap_Tup, ap_Lst, ap_If, ap_Not, ap_Nx, ap_Exp, ap_Par, ap_ParF, ap_Wh, ap_For, ap_IfS, ap_bN, ap_bT, ap_bC, ap_b0, ix0, ix1, gAdd_eq, gSub_eq, List.map_cons, List.map_nil, List.length_cons, List.length_nil, List.cons_append, List.nil_append, List.replicate, List.getElem?_cons_zero, List.getElem?_cons_succ, List.set_cons_zero, List.set_cons_succ, bind_s, Option.map_some, if_true, Nat.reduceAdd, Nat.reduceSub, Nat.reduceLeDiff, reduceIte, gSum_tup, (low_map c hk V.l2 x).1])
  simp only [F_work_chances, g_work_chances, mkF, startD, ap_Seq, back_ret, ap_Set, ap_SetF, ap_Call, ap_CB, ap_Cons, ap_Nil, ap_2, ap_C, ap_V, ap_VB, ap_Tup, ap_Lst, ap_If, ap_Not, ap_Nx, ap_Exp, ap_Par, ap_ParF, ap_Wh, ap_For, ap_IfS, ap_bN, ap_bT, ap_bC, ap_b0, ix0, ix1, gAdd_eq, gSub_eq, List.map_cons, List.map_nil, List.length_cons, List.length_nil, List.cons_append, List.nil_append, List.replicate, List.getElem?_cons_zero, List.getElem?_cons_succ, List.set_cons_zero, List.set_cons_succ, bind_s, Option.map_some, if_true, Nat.reduceAdd, Nat.reduceSub, Nat.reduceLeDiff, reduceIte, e1, eW, ix_wk1]
  simp only [List.map_map] at e3
  refine e3.trans ?_
  simp only [chQ, List.map_map]
  rfl
theorem F_lchances_eq (c : Addr) {ws : List Int} {wk : List (Int × List Int)} (V : Valid ws wk) {i : Nat} {p : Int × List Int} (hp : wk[i]? = some p) : F_u_law_chances c [packD ws wk, .int i] = some (.lst ((chQ p.2).map qd)) := by
  have hk := V.k p (List.mem_of_getElem? hp)
  have eW : gIx (wksD wk) (.int i) = some (wkD p) := ix_tup_map hp
  have e3 := eLc_map (it := iT (eV 2)) (vs := [3]) (b := bN 3) (f := eCall 2 (F_u_law_lowest c) (aCons (eV 3) (aCons (eCB gSum (aCons (eVB 2) aNil)) aNil))) (ρ := [some (false, packD ws wk), some (false, .int i), some (false, .tup (p.2.map .int)), none]) (ds := p.2.map .int) (fun d => match d with | .int x => qd (low x p.2.sum) | _ => .non) rfl (by
      rw [List.length_map, hk.len]; have := V.l2; omega) (fun d hd => by
      obtain ⟨x, hx, rfl⟩ := List.mem_map.mp hd
      simp only [wipeD, mkF, startD, ap_Seq, back_ret, ap_Set, ap_SetF, ap_Call, ap_CB, ap_Cons, ap_Nil, ap_2, ap_C, ap_V, ap_VB, ap_Tup, ap_Lst, ap_If, ap_Not, ap_Nx, ap_Exp, ap_Par, ap_ParF, ap_Wh, ap_For, ap_IfS, ap_bN, ap_bT, ap_bC, ap_b0, ix0, ix1, gAdd_eq, gSub_eq, List.map_cons, List.map_nil, List.length_cons, List.length_nil, List.cons_append, List.nil_append, List.replicate, List.getElem?_cons_zero, List.getElem?_cons_succ, List.set_cons_zero, List.set_cons_succ, bind_s, Option.map_some, if_true, Nat.reduceAdd, Nat.reduceSub, Nat.reduceLeDiff, reduceIte, gSum_tup, (low_map c hk V.l2 x).2])
  simp only [F_u_law_chances, g_u_law_chances, mkF, startD, ap_Seq, back_ret, ap_Set, ap_SetF, ap_Call, ap_CB, ap_Cons, ap_Nil, ap_2, ap_C, ap_V, ap_VB, ap_Tup, ap_Lst, ap_If, ap_Not, ap_Nx, ap_Exp, ap_Par, ap_ParF, ap_Wh, ap_For, ap_IfS, ap_bN, ap_bT, ap_bC, ap_b0, ix0, ix1, gAdd_eq, gSub_eq, List.map_cons, List.map_nil, List.length_cons, List.length_nil, List.cons_append, List.nil_append, List.replicate, List.getElem?_cons_zero, List.getElem?_cons_succ, List.set_cons_zero, List.set_cons_succ, bind_s, Option.map_some, if_true, Nat.reduceAdd, Nat.reduceSub, Nat.reduceLeDiff, reduceIte, ix_pk1, eW, ix_wk1]
  simp only [List.map_map] at e3
  refine e3.trans ?_
  simp only [chQ, List.map_map]
  rfl
--PART3
end K01

set_option maxHeartbeats 1000000
namespace K01
open PySem PySem.Spec PyProof.Rows L2 DL
/-! ### what is checked -/
theorem kit1 : kitB "int" "int" = some true := by decide +kernel
theorem kit2 : kitB "int" "bool" = some false := by decide +kernel
theorem kit3 : kitB "tuple" "tuple" = some true := by decide +kernel
theorem isi_int (i : Int) : gIsi "int" (.int i) = some (.bl true) := by show (kitB "int" "int").map _ = _; rw [kit1]; rfl
theorem isi_bool (i : Int) : gIsi "bool" (.int i) = some (.bl false) := by show (kitB "int" "bool").map _ = _; rw [kit2]; rfl
theorem isi_tup (l : List D) : gIsi "tuple" (.tup l) = some (.bl true) := by show (kitB "tuple" "tuple").map _ = _; rw [kit3]; rfl
theorem F_isint (c : Addr) (i : Int) : F_is_integer c [.int i] = some (.bl true) := by
  simp only [F_is_integer, g_is_integer, mkF, startD, ap_Seq, back_ret, ap_Set, ap_SetF, ap_Call, ap_CB, ap_Cons, ap_Nil, ap_2, ap_C, ap_V, ap_VB, ap_Tup, ap_Lst, ap_If, ap_Not, ap_Nx, ap_Exp, ap_Par, ap_ParF, ap_Wh, ap_For, ap_IfS, ap_bN, ap_bT, ap_bC, ap_b0, ix0, ix1, gAdd_eq, gSub_eq, List.map_cons, List.map_nil, List.length_cons, List.length_nil, List.cons_append, List.nil_append, List.replicate, List.getElem?_cons_zero, List.getElem?_cons_succ, List.set_cons_zero, List.set_cons_succ, bind_s, Option.map_some, if_true, Nat.reduceAdd, Nat.reduceSub, Nat.reduceLeDiff, reduceIte, ap_And, ap_Isi, isi_int, isi_bool, Bool.not_false]
theorem F_within (c : Addr) {i a b : Int} (h : a ≤ i ∧ i ≤ b) : F_is_integer_within c [.int i, .int a, .int b] = some (.bl true) := by
  simp only [F_is_integer_within, g_is_integer_within, mkF, startD, ap_Seq, back_ret, ap_Set, ap_SetF, ap_Call, ap_CB, ap_Cons, ap_Nil, ap_2, ap_C, ap_V, ap_VB, ap_Tup, ap_Lst, ap_If, ap_Not, ap_Nx, ap_Exp, ap_Par, ap_ParF, ap_Wh, ap_For, ap_IfS, ap_bN, ap_bT, ap_bC, ap_b0, ix0, ix1, gAdd_eq, gSub_eq, List.map_cons, List.map_nil, List.length_cons, List.length_nil, List.cons_append, List.nil_append, List.replicate, List.getElem?_cons_zero, List.getElem?_cons_succ, List.set_cons_zero, List.set_cons_succ, bind_s, Option.map_some, if_true, Nat.reduceAdd, Nat.reduceSub, Nat.reduceLeDiff, reduceIte, ap_And, ap_Ch, F_isint, gLe_eq, decide_eq_true h.1, decide_eq_true h.2]
theorem eqD_gcd {p : Qp} {n : Nat} (h : Ok n p) : (p.1.natAbs.gcd p.2.natAbs : Nat) = 1 := h.cop
theorem ge1 {p : Qp} {n : Nat} (h : Ok n p) : decide ((1 : Int) ≤ p.2) = true := decide_eq_true h.pos
theorem F_isfrac (c : Addr) {p : Qp} {n : Nat} (h : Ok n p) : F_is_fraction c [qd p] = some (.bl true) := by
  have e0 : gIsi "tuple" (qd p) = some (.bl true) := isi_tup _
  have e1 : gLen [qd p] = some (.int 2) := rfl
  have e2 : bT (bCons (bN 1) (bCons (bN 2) bNil)) (qd p) [some (false, qd p), none, none] = some [some (false, qd p), some (false, .int p.1), some (false, .int p.2)] := rfl
  have e3 : eqD true (.int 2) (.int 2) = some (.bl false) := rfl
  have e4 : eqD false (.int ((p.1.natAbs.gcd p.2.natAbs : Nat) : Int)) (.int 1) = some (.bl true) := by rw [h.cop]; rfl
  simp only [F_is_fraction, g_is_fraction, mkF, startD, ap_Seq, back_ret, ap_Set, ap_SetF, ap_Call, ap_CB, ap_Cons, ap_Nil, ap_2, ap_C, ap_V, ap_VB, ap_Tup, ap_Lst, ap_If, ap_Not, ap_Nx, ap_Exp, ap_Par, ap_ParF, ap_Wh, ap_For, ap_IfS, ap_bN, ap_bT, ap_bC, ap_b0, ix0, ix1, gAdd_eq, gSub_eq, List.map_cons, List.map_nil, List.length_cons, List.length_nil, List.cons_append, List.nil_append, List.replicate, List.getElem?_cons_zero, List.getElem?_cons_succ, List.set_cons_zero, List.set_cons_succ, bind_s, Option.map_some, if_true, Nat.reduceAdd, Nat.reduceSub, Nat.reduceLeDiff, reduceIte, ap_And, ap_Or, ap_Isi, ap_Asg, e0, e1, e2, e3, F_isint, Bool.not_true, gGe_eq, ge1 h, gGcd_eq, e4]
theorem F_isamt (c : Addr) {p : Qp} {n : Nat} (h : Ok n p) (h0 : 0 ≤ p.1) : F_is_amount c [qd p] = some (.bl true) := by
  have e1 : gIx (qd p) (.int 0) = some (.int p.1) := rfl
  simp only [F_is_amount, g_is_amount, mkF, startD, ap_Seq, back_ret, ap_Set, ap_SetF, ap_Call, ap_CB, ap_Cons, ap_Nil, ap_2, ap_C, ap_V, ap_VB, ap_Tup, ap_Lst, ap_If, ap_Not, ap_Nx, ap_Exp, ap_Par, ap_ParF, ap_Wh, ap_For, ap_IfS, ap_bN, ap_bT, ap_bC, ap_b0, ix0, ix1, gAdd_eq, gSub_eq, List.map_cons, List.map_nil, List.length_cons, List.length_nil, List.cons_append, List.nil_append, List.replicate, List.getElem?_cons_zero, List.getElem?_cons_succ, List.set_cons_zero, List.set_cons_succ, bind_s, Option.map_some, if_true, Nat.reduceAdd, Nat.reduceSub, Nat.reduceLeDiff, reduceIte, ap_And, F_isfrac c h, e1, gGe_eq, decide_eq_true h0]
theorem gAll_true {α : Type} (l : List α) : gAll [.lst (l.map fun _ => D.bl true)] = some (.bl true) := by
  have e : (l.map fun _ => D.bl true) = (l.map fun _ => true).map D.bl := by rw [List.map_map]; rfl
  show (blsOf _).map _ = _
  rw [e, blsOf_map]
  show some (D.bl ((l.map fun _ => true).all id)) = _
  congr 2
  induction l with
  | nil => rfl
  | cons x l ih => rw [List.map_cons, List.all_cons, ih (by rw [List.map_map]; rfl)]; rfl
theorem F_worths_ok (c : Addr) {ws : List Int} {wk : List (Int × List Int)} (V : Valid ws wk) : F_u_are_worths c [wsD ws] = some (.bl true) := by
  have h1 := V.l1; have h2 := V.l2
  have el : gLen [wsD ws] = some (.int ws.length) := by unfold wsD; rw [gLen_tup, List.length_map]
  have e0 : gIsi "tuple" (wsD ws) = some (.bl true) := isi_tup _
  have e3 := eLc_map (it := iT (eV 0)) (vs := [1]) (b := bN 1) (f := eCall 3 (F_is_integer_within c) (aCons (eV 1) (aCons (eC (.int 0)) (aCons (eC (.int 20)) aNil)))) (ρ := [some (false, wsD ws), none]) (ds := ws.map .int) (fun _ => .bl true) rfl (by rw [List.length_map]; omega) (fun d hd => by
    obtain ⟨x, hx, rfl⟩ := List.mem_map.mp hd
    simp only [wipeD, mkF, startD, ap_Seq, back_ret, ap_Set, ap_SetF, ap_Call, ap_CB, ap_Cons, ap_Nil, ap_2, ap_C, ap_V, ap_VB, ap_Tup, ap_Lst, ap_If, ap_Not, ap_Nx, ap_Exp, ap_Par, ap_ParF, ap_Wh, ap_For, ap_IfS, ap_bN, ap_bT, ap_bC, ap_b0, ix0, ix1, gAdd_eq, gSub_eq, List.map_cons, List.map_nil, List.length_cons, List.length_nil, List.cons_append, List.nil_append, List.replicate, List.getElem?_cons_zero, List.getElem?_cons_succ, List.set_cons_zero, List.set_cons_succ, bind_s, Option.map_some, if_true, Nat.reduceAdd, Nat.reduceSub, Nat.reduceLeDiff, reduceIte, F_within c (V.w x hx)])
  simp only [F_u_are_worths, g_u_are_worths, mkF, startD, ap_Seq, back_ret, ap_Set, ap_SetF, ap_Call, ap_CB, ap_Cons, ap_Nil, ap_2, ap_C, ap_V, ap_VB, ap_Tup, ap_Lst, ap_If, ap_Not, ap_Nx, ap_Exp, ap_Par, ap_ParF, ap_Wh, ap_For, ap_IfS, ap_bN, ap_bT, ap_bC, ap_b0, ix0, ix1, gAdd_eq, gSub_eq, List.map_cons, List.map_nil, List.length_cons, List.length_nil, List.cons_append, List.nil_append, List.replicate, List.getElem?_cons_zero, List.getElem?_cons_succ, List.set_cons_zero, List.set_cons_succ, bind_s, Option.map_some, if_true, Nat.reduceAdd, Nat.reduceSub, Nat.reduceLeDiff, reduceIte, ap_And, ap_Or, ap_Isi, ap_Ch, e0, el, gLe_eq, Bool.not_true, decide_eq_true (show (2 : Int) ≤ ws.length by omega), decide_eq_true (show (ws.length : Int) ≤ 4 by omega), e3, gAll_true]
theorem F_parts_ok (c : Addr) {n : Nat} {p : Int × List Int} (h : WkOk n p) (l : n ≤ 4) : F_u_are_parts c [.tup (p.2.map .int), .int n] = some (.bl true) := by
  have el : gLen [.tup (p.2.map D.int)] = some (.int n) := by rw [gLen_tup, List.length_map, h.len]
  have en : eqD true (.int n) (.int n) = some (.bl false) := by rw [eqD_int, beq_self_eq_true]; rfl
  have e3 := eLc_map (it := iT (eV 0)) (vs := [2]) (b := bN 2) (f := eCall 3 (F_is_integer_within c) (aCons (eV 2) (aCons (eC (.int 0)) (aCons (eC (.int 6)) aNil)))) (ρ := [some (false, .tup (p.2.map .int)), some (false, .int n), none]) (ds := p.2.map .int) (fun _ => .bl true) rfl (by rw [List.length_map, h.len]; omega) (fun d hd => by
    obtain ⟨x, hx, rfl⟩ := List.mem_map.mp hd
    simp only [wipeD, mkF, startD, ap_Seq, back_ret, ap_Set, ap_SetF, ap_Call, ap_CB, ap_Cons, ap_Nil, ap_2, ap_C, ap_V, ap_VB, ap_Tup, ap_Lst, ap_If, ap_Not, ap_Nx, ap_Exp, ap_Par, ap_ParF, ap_Wh, ap_For, ap_IfS, ap_bN, ap_bT, ap_bC, ap_b0, ix0, ix1, gAdd_eq, gSub_eq, List.map_cons, List.map_nil, List.length_cons, List.length_nil, List.cons_append, List.nil_append, List.replicate, List.getElem?_cons_zero, List.getElem?_cons_succ, List.set_cons_zero, List.set_cons_succ, bind_s, Option.map_some, if_true, Nat.reduceAdd, Nat.reduceSub, Nat.reduceLeDiff, reduceIte, F_within c (h.part x hx)])
  simp only [F_u_are_parts, g_u_are_parts, mkF, startD, ap_Seq, back_ret, ap_Set, ap_SetF, ap_Call, ap_CB, ap_Cons, ap_Nil, ap_2, ap_C, ap_V, ap_VB, ap_Tup, ap_Lst, ap_If, ap_Not, ap_Nx, ap_Exp, ap_Par, ap_ParF, ap_Wh, ap_For, ap_IfS, ap_bN, ap_bT, ap_bC, ap_b0, ix0, ix1, gAdd_eq, gSub_eq, List.map_cons, List.map_nil, List.length_cons, List.length_nil, List.cons_append, List.nil_append, List.replicate, List.getElem?_cons_zero, List.getElem?_cons_succ, List.set_cons_zero, List.set_cons_succ, bind_s, Option.map_some, if_true, Nat.reduceAdd, Nat.reduceSub, Nat.reduceLeDiff, reduceIte, ap_And, ap_Or, ap_Isi, isi_tup, el, en, Bool.not_true, e3, gAll_true, gSum_tup, gGt_eq, decide_eq_true h.sum]
theorem F_work_ok (c : Addr) {n : Nat} {p : Int × List Int} (h : WkOk n p) (l : n ≤ 4) : F_u_is_work c [wkD p, .int n] = some (.bl true) := by
  have e0 : gIsi "tuple" (wkD p) = some (.bl true) := isi_tup _
  have e1 : gLen [wkD p] = some (.int 2) := rfl
  have e2 : bT (bCons (bN 2) (bCons (bN 3) bNil)) (wkD p) [some (false, wkD p), some (false, .int n), none, none] = some [some (false, wkD p), some (false, .int n), some (false, .int p.1), some (false, .tup (p.2.map .int))] := rfl
  have e3 : eqD true (.int 2) (.int 2) = some (.bl false) := rfl
  simp only [F_u_is_work, g_u_is_work, mkF, startD, ap_Seq, back_ret, ap_Set, ap_SetF, ap_Call, ap_CB, ap_Cons, ap_Nil, ap_2, ap_C, ap_V, ap_VB, ap_Tup, ap_Lst, ap_If, ap_Not, ap_Nx, ap_Exp, ap_Par, ap_ParF, ap_Wh, ap_For, ap_IfS, ap_bN, ap_bT, ap_bC, ap_b0, ix0, ix1, gAdd_eq, gSub_eq, List.map_cons, List.map_nil, List.length_cons, List.length_nil, List.cons_append, List.nil_append, List.replicate, List.getElem?_cons_zero, List.getElem?_cons_succ, List.set_cons_zero, List.set_cons_succ, bind_s, Option.map_some, if_true, Nat.reduceAdd, Nat.reduceSub, Nat.reduceLeDiff, reduceIte, ap_And, ap_Or, ap_Isi, ap_Asg, e0, e1, e2, e3, Bool.not_true, F_within c ⟨h.e0, h.e1⟩, F_parts_ok c h l]
theorem F_works_ok (c : Addr) {ws : List Int} {wk : List (Int × List Int)} (V : Valid ws wk) : F_u_are_works c [wksD wk, .int ws.length] = some (.bl true) := by
  have h1 := V.k1; have h2 := V.k2
  have el : gLen [wksD wk] = some (.int wk.length) := by unfold wksD; rw [gLen_tup, List.length_map]
  have e0 : gIsi "tuple" (wksD wk) = some (.bl true) := isi_tup _
  have e3 := eLc_map (it := iT (eV 0)) (vs := [2]) (b := bN 2) (f := eCall 2 (F_u_is_work c) (aCons (eV 2) (aCons (eV 1) aNil))) (ρ := [some (false, wksD wk), some (false, .int ws.length), none]) (ds := wk.map wkD) (fun _ => .bl true) rfl (by rw [List.length_map]; omega) (fun d hd => by
    obtain ⟨x, hx, rfl⟩ := List.mem_map.mp hd
    simp only [wipeD, mkF, startD, ap_Seq, back_ret, ap_Set, ap_SetF, ap_Call, ap_CB, ap_Cons, ap_Nil, ap_2, ap_C, ap_V, ap_VB, ap_Tup, ap_Lst, ap_If, ap_Not, ap_Nx, ap_Exp, ap_Par, ap_ParF, ap_Wh, ap_For, ap_IfS, ap_bN, ap_bT, ap_bC, ap_b0, ix0, ix1, gAdd_eq, gSub_eq, List.map_cons, List.map_nil, List.length_cons, List.length_nil, List.cons_append, List.nil_append, List.replicate, List.getElem?_cons_zero, List.getElem?_cons_succ, List.set_cons_zero, List.set_cons_succ, bind_s, Option.map_some, if_true, Nat.reduceAdd, Nat.reduceSub, Nat.reduceLeDiff, reduceIte, F_work_ok c (V.k x hx) V.l2])
  simp only [F_u_are_works, g_u_are_works, mkF, startD, ap_Seq, back_ret, ap_Set, ap_SetF, ap_Call, ap_CB, ap_Cons, ap_Nil, ap_2, ap_C, ap_V, ap_VB, ap_Tup, ap_Lst, ap_If, ap_Not, ap_Nx, ap_Exp, ap_Par, ap_ParF, ap_Wh, ap_For, ap_IfS, ap_bN, ap_bT, ap_bC, ap_b0, ix0, ix1, gAdd_eq, gSub_eq, List.map_cons, List.map_nil, List.length_cons, List.length_nil, List.cons_append, List.nil_append, List.replicate, List.getElem?_cons_zero, List.getElem?_cons_succ, List.set_cons_zero, List.set_cons_succ, bind_s, Option.map_some, if_true, Nat.reduceAdd, Nat.reduceSub, Nat.reduceLeDiff, reduceIte, ap_And, ap_Or, ap_Isi, ap_Ch, e0, el, gLe_eq, Bool.not_true, decide_eq_true (show (2 : Int) ≤ wk.length by omega), decide_eq_true (show (wk.length : Int) ≤ 4 by omega), e3, gAll_true]
theorem gTup_tup (l : List D) : gTupOf [.tup l] = some (.tup l) := rfl
theorem gTup_lst (l : List D) : gTupOf [.lst l] = some (.tup l) := rfl
theorem neW : ¬ (Str.ofString "_worths" = Str.ofString "_works") := by decide +kernel
theorem F_init_eq (c : Addr) {ws : List Int} {wk : List (Int × List Int)} (V : Valid ws wk) : F_JobD_initD c [wsD ws, wksD wk] = some [(Str.ofString "_worths", wsD ws), (Str.ofString "_works", wksD wk)] := by
  refine unif_eq fun x dx => ?_
  have el : gLen [wsD ws] = some (.int ws.length) := by unfold wsD; rw [gLen_tup, List.length_map]
  have t1 : gTupOf [wsD ws] = some (wsD ws) := rfl
  have hl := V.k2
  have e3 : ∀ s : Slot, eLc (iT (eV 2)) [3, 4] (bT (bCons (bN 3) (bCons (bN 4) bNil))) (eC (.bl true)) (eTup (aCons (eV 3) (aCons (eCB gTupOf (aCons (eVB 4) aNil)) aNil))) [s, some (false, wsD ws), some (false, wksD wk), none, none] = some (.lst (wk.map wkD)) := fun s => by
    have := eLc_map (it := iT (eV 2)) (vs := [3, 4]) (b := bT (bCons (bN 3) (bCons (bN 4) bNil))) (f := eTup (aCons (eV 3) (aCons (eCB gTupOf (aCons (eVB 4) aNil)) aNil))) (ρ := [s, some (false, wsD ws), some (false, wksD wk), none, none]) (ds := wk.map wkD) (fun d => d) rfl (by rw [List.length_map]; omega) (fun d hd => by
      obtain ⟨p, hx, rfl⟩ := List.mem_map.mp hd
      simp only [wipeD, wkD, mkF, startD, ap_Seq, back_ret, ap_Set, ap_SetF, ap_Call, ap_CB, ap_Cons, ap_Nil, ap_2, ap_C, ap_V, ap_VB, ap_Tup, ap_Lst, ap_If, ap_Not, ap_Nx, ap_Exp, ap_Par, ap_ParF, ap_Wh, ap_For, ap_IfS, ap_bN, ap_bT, ap_bC, ap_b0, ix0, ix1, gAdd_eq, gSub_eq, List.map_cons, List.map_nil, List.length_cons, List.length_nil, List.cons_append, List.nil_append, List.replicate, List.getElem?_cons_zero, List.getElem?_cons_succ, List.set_cons_zero, List.set_cons_succ, bind_s, Option.map_some, if_true, Nat.reduceAdd, Nat.reduceSub, Nat.reduceLeDiff, reduceIte, gTup_tup])
    rw [this, List.map_id']
  simp only [g_JobD_initD, mkF, startD, ap_Seq, back_ret, ap_Set, ap_SetF, ap_Call, ap_CB, ap_Cons, ap_Nil, ap_2, ap_C, ap_V, ap_VB, ap_Tup, ap_Lst, ap_If, ap_Not, ap_Nx, ap_Exp, ap_Par, ap_ParF, ap_Wh, ap_For, ap_IfS, ap_bN, ap_bT, ap_bC, ap_b0, ix0, ix1, gAdd_eq, gSub_eq, List.map_cons, List.map_nil, List.length_cons, List.length_nil, List.cons_append, List.nil_append, List.replicate, List.getElem?_cons_zero, List.getElem?_cons_succ, List.set_cons_zero, List.set_cons_succ, bind_s, Option.map_some, if_true, Nat.reduceAdd, Nat.reduceSub, Nat.reduceLeDiff, reduceIte, F_worths_ok c V, el, F_works_ok c V, Bool.not_true, gFld, t1, putD, e3, gTup_lst, neW, true_and, if_false, Nat.reduceLT]
  unfold backI
  simp only [List.getElem?_cons_zero, true_and, if_true]
  rfl
theorem make_eq (c : Addr) {ws : List Int} {wk : List (Int × List Int)} (V : Valid ws wk) {fs : DEnv → Option (List D)} {ρ : DEnv} (h : fs ρ = some [wsD ws, wksD wk]) : eMake c 2 (F_JobD_initD c) fs ρ = some (jobD c ws wk) := by
  simp only [ap_Make, h, mkF, startD, ap_Seq, back_ret, ap_Set, ap_SetF, ap_Call, ap_CB, ap_Cons, ap_Nil, ap_2, ap_C, ap_V, ap_VB, ap_Tup, ap_Lst, ap_If, ap_Not, ap_Nx, ap_Exp, ap_Par, ap_ParF, ap_Wh, ap_For, ap_IfS, ap_bN, ap_bT, ap_bC, ap_b0, ix0, ix1, gAdd_eq, gSub_eq, List.map_cons, List.map_nil, List.length_cons, List.length_nil, List.cons_append, List.nil_append, List.replicate, List.getElem?_cons_zero, List.getElem?_cons_succ, List.set_cons_zero, List.set_cons_succ, bind_s, Option.map_some, if_true, Nat.reduceAdd, Nat.reduceSub, Nat.reduceLeDiff, reduceIte, F_init_eq c V]
  rfl
theorem F_cjob (c : Addr) (ws : List Int) (wk : List (Int × List Int)) : F_check_job c [jobD c ws wk] = some .non := by
  simp only [F_check_job, g_check_job, mkF, startD, ap_Seq, back_ret, ap_Set, ap_SetF, ap_Call, ap_CB, ap_Cons, ap_Nil, ap_2, ap_C, ap_V, ap_VB, ap_Tup, ap_Lst, ap_If, ap_Not, ap_Nx, ap_Exp, ap_Par, ap_ParF, ap_Wh, ap_For, ap_IfS, ap_bN, ap_bT, ap_bC, ap_b0, ix0, ix1, gAdd_eq, gSub_eq, List.map_cons, List.map_nil, List.length_cons, List.length_nil, List.cons_append, List.nil_append, List.replicate, List.getElem?_cons_zero, List.getElem?_cons_succ, List.set_cons_zero, List.set_cons_succ, bind_s, Option.map_some, if_true, Nat.reduceAdd, Nat.reduceSub, Nat.reduceLeDiff, reduceIte, ap_IsC, jobD, Bool.not_true, backD]
theorem F_cwork (c : Addr) {ws : List Int} {wk : List (Int × List Int)} (V : Valid ws wk) {i : Nat} (h : i < wk.length) : F_check_work c [jobD c ws wk, .int i] = some .non := by
  simp only [F_check_work, g_check_work, mkF, startD, ap_Seq, back_ret, ap_Set, ap_SetF, ap_Call, ap_CB, ap_Cons, ap_Nil, ap_2, ap_C, ap_V, ap_VB, ap_Tup, ap_Lst, ap_If, ap_Not, ap_Nx, ap_Exp, ap_Par, ap_ParF, ap_Wh, ap_For, ap_IfS, ap_bN, ap_bT, ap_bC, ap_b0, ix0, ix1, gAdd_eq, gSub_eq, List.map_cons, List.map_nil, List.length_cons, List.length_nil, List.cons_append, List.nil_append, List.replicate, List.getElem?_cons_zero, List.getElem?_cons_succ, List.set_cons_zero, List.set_cons_succ, bind_s, Option.map_some, if_true, Nat.reduceAdd, Nat.reduceSub, Nat.reduceLeDiff, reduceIte, len_job c V, F_within c (show (0 : Int) ≤ i ∧ (i : Int) ≤ (wk.length : Int) - 1 by omega), Bool.not_true, backD]
def payD (as : List Qp) : D := .tup (as.map qd)
structure PayOk (n : Nat) (as : List Qp) : Prop where
  len : as.length = n
  ok : ∀ p ∈ as, Ok 10 p
  nn : ∀ p ∈ as, 0 ≤ p.1
theorem F_ispay (c : Addr) {ws : List Int} {wk : List (Int × List Int)} (V : Valid ws wk) {as : List Qp} (h : PayOk ws.length as) : F_is_pay c [jobD c ws wk, payD as] = some (.bl true) := by
  have e0 : gIsi "tuple" (payD as) = some (.bl true) := isi_tup _
  have el : gLen [payD as] = some (.int ws.length) := by unfold payD; rw [gLen_tup, List.length_map, h.len]
  have el2 : gLen [wsD ws] = some (.int ws.length) := by unfold wsD; rw [gLen_tup, List.length_map]
  have en : eqD true (.int ws.length) (.int ws.length) = some (.bl false) := by rw [eqD_int, beq_self_eq_true]; rfl
  have ew : eProp c (F_Job_worths c) (eV 0) [some (false, jobD c ws wk), some (false, payD as), none] = some (wsD ws) := prop_worths c ws wk _ _ rfl
  have e3 := eLc_map (it := iT (eV 1)) (vs := [2]) (b := bN 2) (f := eCall 1 (F_is_amount c) (aCons (eV 2) aNil)) (ρ := [some (false, jobD c ws wk), some (false, payD as), none]) (ds := as.map qd) (fun _ => .bl true) rfl (by rw [List.length_map, h.len]; have := V.l2; omega) (fun d hd => by
    obtain ⟨x, hx, rfl⟩ := List.mem_map.mp hd
    simp only [wipeD, mkF, startD, ap_Seq, back_ret, ap_Set, ap_SetF, ap_Call, ap_CB, ap_Cons, ap_Nil, ap_2, ap_C, ap_V, ap_VB, ap_Tup, ap_Lst, ap_If, ap_Not, ap_Nx, ap_Exp, ap_Par, ap_ParF, ap_Wh, ap_For, ap_IfS, ap_bN, ap_bT, ap_bC, ap_b0, ix0, ix1, gAdd_eq, gSub_eq, List.map_cons, List.map_nil, List.length_cons, List.length_nil, List.cons_append, List.nil_append, List.replicate, List.getElem?_cons_zero, List.getElem?_cons_succ, List.set_cons_zero, List.set_cons_succ, bind_s, Option.map_some, if_true, Nat.reduceAdd, Nat.reduceSub, Nat.reduceLeDiff, reduceIte, F_isamt c (h.ok x hx) (h.nn x hx)])
  simp only [F_is_pay, g_is_pay, mkF, startD, ap_Seq, back_ret, ap_Set, ap_SetF, ap_Call, ap_CB, ap_Cons, ap_Nil, ap_2, ap_C, ap_V, ap_VB, ap_Tup, ap_Lst, ap_If, ap_Not, ap_Nx, ap_Exp, ap_Par, ap_ParF, ap_Wh, ap_For, ap_IfS, ap_bN, ap_bT, ap_bC, ap_b0, ix0, ix1, gAdd_eq, gSub_eq, List.map_cons, List.map_nil, List.length_cons, List.length_nil, List.cons_append, List.nil_append, List.replicate, List.getElem?_cons_zero, List.getElem?_cons_succ, List.set_cons_zero, List.set_cons_succ, bind_s, Option.map_some, if_true, Nat.reduceAdd, Nat.reduceSub, Nat.reduceLeDiff, reduceIte, ap_Or, ap_Isi, e0, el, el2, en, ew, Bool.not_true, e3, gAll_true]
theorem F_cpay (c : Addr) {ws : List Int} {wk : List (Int × List Int)} (V : Valid ws wk) {as : List Qp} (h : PayOk ws.length as) : F_check_pay c [jobD c ws wk, payD as] = some .non := by
  simp only [F_check_pay, g_check_pay, mkF, startD, ap_Seq, back_ret, ap_Set, ap_SetF, ap_Call, ap_CB, ap_Cons, ap_Nil, ap_2, ap_C, ap_V, ap_VB, ap_Tup, ap_Lst, ap_If, ap_Not, ap_Nx, ap_Exp, ap_Par, ap_ParF, ap_Wh, ap_For, ap_IfS, ap_bN, ap_bT, ap_bC, ap_b0, ix0, ix1, gAdd_eq, gSub_eq, List.map_cons, List.map_nil, List.length_cons, List.length_nil, List.cons_append, List.nil_append, List.replicate, List.getElem?_cons_zero, List.getElem?_cons_succ, List.set_cons_zero, List.set_cons_succ, bind_s, Option.map_some, if_true, Nat.reduceAdd, Nat.reduceSub, Nat.reduceLeDiff, reduceIte, F_ispay c V h, Bool.not_true, backD]
/-! ### gains and profits -/
def one1 (n : Int) : Qp := (n, 1)
theorem one1_ok {n : Int} (h0 : 0 ≤ n) (h : n ≤ 20) : Ok 10 (one1 n) := ⟨by show (0 : Int) < 1; decide, by show Nat.gcd n.natAbs 1 = 1; exact Nat.gcd_one_right _, by show n.natAbs < 2 ^ 10; omega, by show (1 : Int).natAbs < 2 ^ 10; decide⟩
theorem F_efforts (c : Addr) {ws : List Int} {wk : List (Int × List Int)} (V : Valid ws wk) : F_work_efforts c [jobD c ws wk] = some (.lst (wk.map fun p => qd (one1 p.1))) := by
  have ew : eProp c (F_Job_works c) (eV 0) [some (false, jobD c ws wk), none, none] = some (wksD wk) := prop_works c ws wk _ _ rfl
  have hi : iT (eProp c (F_Job_works c) (eV 0)) [some (false, jobD c ws wk), none, none] = some (wk.map wkD) := by rw [ap_iT, ew]; rfl
  have e3 := eLc_map (it := iT (eProp c (F_Job_works c) (eV 0))) (vs := [1, 2]) (b := bT (bCons (bN 1) (bCons (bN 2) bNil))) (f := eTup (aCons (eV 1) (aCons (eC (.int 1)) aNil))) (ρ := [some (false, jobD c ws wk), none, none]) (ds := wk.map wkD) (fun d => match d with | .tup [x, _] => .tup [x, .int 1] | _ => .non) hi (by rw [List.length_map]; have := V.k2; omega) (fun d hd => by
    obtain ⟨p, hx, rfl⟩ := List.mem_map.mp hd
    simp only [wipeD, wkD, mkF, startD, ap_Seq, back_ret, ap_Set, ap_SetF, ap_Call, ap_CB, ap_Cons, ap_Nil, ap_2, ap_C, ap_V, ap_VB, ap_Tup, ap_Lst, ap_If, ap_Not, ap_Nx, ap_Exp, ap_Par, ap_ParF, ap_Wh, ap_For, ap_IfS, ap_bN, ap_bT, ap_bC, ap_b0, ix0, ix1, gAdd_eq, gSub_eq, List.map_cons, List.map_nil, List.length_cons, List.length_nil, List.cons_append, List.nil_append, List.replicate, List.getElem?_cons_zero, List.getElem?_cons_succ, List.set_cons_zero, List.set_cons_succ, bind_s, Option.map_some, if_true, Nat.reduceAdd, Nat.reduceSub, Nat.reduceLeDiff, reduceIte])
  simp only [F_work_efforts, g_work_efforts, mkF, startD, ap_Seq, back_ret, ap_Set, ap_SetF, ap_Call, ap_CB, ap_Cons, ap_Nil, ap_2, ap_C, ap_V, ap_VB, ap_Tup, ap_Lst, ap_If, ap_Not, ap_Nx, ap_Exp, ap_Par, ap_ParF, ap_Wh, ap_For, ap_IfS, ap_bN, ap_bT, ap_bC, ap_b0, ix0, ix1, gAdd_eq, gSub_eq, List.map_cons, List.map_nil, List.length_cons, List.length_nil, List.cons_append, List.nil_append, List.replicate, List.getElem?_cons_zero, List.getElem?_cons_succ, List.set_cons_zero, List.set_cons_succ, bind_s, Option.map_some, if_true, Nat.reduceAdd, Nat.reduceSub, Nat.reduceLeDiff, reduceIte, e3, List.map_map]
  rfl
def avQ (p : Int × List Int) (as : List Qp) : Qp := dotQ (chQ p.2) as
theorem avQ_ok {n : Nat} {p : Int × List Int} (h : WkOk n p) (l : n ≤ 4) {as : List Qp} (ha : ∀ q ∈ as, Ok 10 q) : Ok 85 (avQ p as) := dotQ_ok (chQ_ok h l) ha (by unfold chQ; rw [List.length_map, h.len]; exact l)
theorem chlen {n : Nat} {p : Int × List Int} (h : WkOk n p) (l : n ≤ 4) : (chQ p.2).length ≤ 4 := by unfold chQ; rw [List.length_map, h.len]; exact l
section
variable (c : Addr) {ws : List Int} {wk : List (Int × List Int)} (V : Valid ws wk) {i : Nat} {p : Int × List Int} (hp : wk[i]? = some p) {as : List Qp} (ha : PayOk ws.length as)
include V hp
theorem F_avpay (ha : PayOk ws.length as) : F_average_pay c [jobD c ws wk, .int i, payD as] = some (qd (avQ p as)) := by
  have hk := V.k p (List.mem_of_getElem? hp)
  have e2 := F_weighted_eq c (ws := chQ p.2) (as := as) (A := payD as) rfl (chQ_ok hk V.l2) ha.ok (chlen hk V.l2)
  simp only [F_average_pay, g_average_pay, mkF, startD, ap_Seq, back_ret, ap_Set, ap_SetF, ap_Call, ap_CB, ap_Cons, ap_Nil, ap_2, ap_C, ap_V, ap_VB, ap_Tup, ap_Lst, ap_If, ap_Not, ap_Nx, ap_Exp, ap_Par, ap_ParF, ap_Wh, ap_For, ap_IfS, ap_bN, ap_bT, ap_bC, ap_b0, ix0, ix1, gAdd_eq, gSub_eq, List.map_cons, List.map_nil, List.length_cons, List.length_nil, List.cons_append, List.nil_append, List.replicate, List.getElem?_cons_zero, List.getElem?_cons_succ, List.set_cons_zero, List.set_cons_succ, bind_s, Option.map_some, if_true, Nat.reduceAdd, Nat.reduceSub, Nat.reduceLeDiff, reduceIte, F_chances_eq c V hp, e2]
  rfl
theorem F_avworth : F_average_worth c [jobD c ws wk, .int i] = some (qd (avQ p (ws.map one1))) := by
  have hk := V.k p (List.mem_of_getElem? hp)
  have ew : eProp c (F_Job_worths c) (eV 0) [some (false, jobD c ws wk), some (false, .int i), none] = some (wsD ws) := prop_worths c ws wk _ _ rfl
  have hi : iT (eProp c (F_Job_worths c) (eV 0)) [some (false, jobD c ws wk), some (false, .int i), none] = some (ws.map .int) := by rw [ap_iT, ew]; rfl
  have e3 := eLc_map (it := iT (eProp c (F_Job_worths c) (eV 0))) (vs := [2]) (b := bN 2) (f := eTup (aCons (eV 2) (aCons (eC (.int 1)) aNil))) (ρ := [some (false, jobD c ws wk), some (false, .int i), none]) (ds := ws.map .int) (fun d => .tup [d, .int 1]) hi (by rw [List.length_map]; have := V.l2; omega) (fun d hd => by
    simp only [wipeD, mkF, startD, ap_Seq, back_ret, ap_Set, ap_SetF, ap_Call, ap_CB, ap_Cons, ap_Nil, ap_2, ap_C, ap_V, ap_VB, ap_Tup, ap_Lst, ap_If, ap_Not, ap_Nx, ap_Exp, ap_Par, ap_ParF, ap_Wh, ap_For, ap_IfS, ap_bN, ap_bT, ap_bC, ap_b0, ix0, ix1, gAdd_eq, gSub_eq, List.map_cons, List.map_nil, List.length_cons, List.length_nil, List.cons_append, List.nil_append, List.replicate, List.getElem?_cons_zero, List.getElem?_cons_succ, List.set_cons_zero, List.set_cons_succ, bind_s, Option.map_some, if_true, Nat.reduceAdd, Nat.reduceSub, Nat.reduceLeDiff, reduceIte])
  have e4 := F_weighted_eq c (ws := chQ p.2) (as := ws.map one1) (A := .lst ((ws.map one1).map qd)) rfl (chQ_ok hk V.l2) (fun q hq => by
    obtain ⟨x, hx, rfl⟩ := List.mem_map.mp hq
    exact one1_ok (V.w x hx).1 (V.w x hx).2) (chlen hk V.l2)
  rw [List.map_map] at e3
  have e5 : ((fun d : D => D.tup [d, .int 1]) ∘ D.int) = (qd ∘ one1) := rfl
  rw [e5] at e3
  rw [List.map_map] at e4
  simp only [F_average_worth, g_average_worth, mkF, startD, ap_Seq, back_ret, ap_Set, ap_SetF, ap_Call, ap_CB, ap_Cons, ap_Nil, ap_2, ap_C, ap_V, ap_VB, ap_Tup, ap_Lst, ap_If, ap_Not, ap_Nx, ap_Exp, ap_Par, ap_ParF, ap_Wh, ap_For, ap_IfS, ap_bN, ap_bT, ap_bC, ap_b0, ix0, ix1, gAdd_eq, gSub_eq, List.map_cons, List.map_nil, List.length_cons, List.length_nil, List.cons_append, List.nil_append, List.replicate, List.getElem?_cons_zero, List.getElem?_cons_succ, List.set_cons_zero, List.set_cons_succ, bind_s, Option.map_some, if_true, Nat.reduceAdd, Nat.reduceSub, Nat.reduceLeDiff, reduceIte, F_chances_eq c V hp, e3, e4]
  rfl
theorem F_lworth : F_u_law_worth c [packD ws wk, .int i] = some (qd (avQ p (ws.map one1))) := by
  have hk := V.k p (List.mem_of_getElem? hp)
  have hi : iT (DL.e2 gIx (eVB 0) (eC (.int 0))) [some (false, packD ws wk), some (false, .int i), none] = some (ws.map .int) := rfl
  have e3 := eLc_map (it := iT (DL.e2 gIx (eVB 0) (eC (.int 0)))) (vs := [2]) (b := bN 2) (f := eTup (aCons (eV 2) (aCons (eC (.int 1)) aNil))) (ρ := [some (false, packD ws wk), some (false, .int i), none]) (ds := ws.map .int) (fun d => .tup [d, .int 1]) hi (by rw [List.length_map]; have := V.l2; omega) (fun d hd => by
    simp only [wipeD, mkF, startD, ap_Seq, back_ret, ap_Set, ap_SetF, ap_Call, ap_CB, ap_Cons, ap_Nil, ap_2, ap_C, ap_V, ap_VB, ap_Tup, ap_Lst, ap_If, ap_Not, ap_Nx, ap_Exp, ap_Par, ap_ParF, ap_Wh, ap_For, ap_IfS, ap_bN, ap_bT, ap_bC, ap_b0, ix0, ix1, gAdd_eq, gSub_eq, List.map_cons, List.map_nil, List.length_cons, List.length_nil, List.cons_append, List.nil_append, List.replicate, List.getElem?_cons_zero, List.getElem?_cons_succ, List.set_cons_zero, List.set_cons_succ, bind_s, Option.map_some, if_true, Nat.reduceAdd, Nat.reduceSub, Nat.reduceLeDiff, reduceIte])
  have e4 := F_dot_eq c (ws := chQ p.2) (as := ws.map one1) (A := .lst ((ws.map one1).map qd)) rfl (chQ_ok hk V.l2) (fun q hq => by
    obtain ⟨x, hx, rfl⟩ := List.mem_map.mp hq
    exact one1_ok (V.w x hx).1 (V.w x hx).2) (chlen hk V.l2)
  rw [List.map_map] at e3
  have e5 : ((fun d : D => D.tup [d, .int 1]) ∘ D.int) = (qd ∘ one1) := rfl
  rw [e5] at e3
  rw [List.map_map] at e4
  have en : gIsN false (.int i) .non = some (.bl false) := rfl
  simp only [F_u_law_worth, g_u_law_worth, mkF, startD, ap_Seq, back_ret, ap_Set, ap_SetF, ap_Call, ap_CB, ap_Cons, ap_Nil, ap_2, ap_C, ap_V, ap_VB, ap_Tup, ap_Lst, ap_If, ap_Not, ap_Nx, ap_Exp, ap_Par, ap_ParF, ap_Wh, ap_For, ap_IfS, ap_bN, ap_bT, ap_bC, ap_b0, ix0, ix1, gAdd_eq, gSub_eq, List.map_cons, List.map_nil, List.length_cons, List.length_nil, List.cons_append, List.nil_append, List.replicate, List.getElem?_cons_zero, List.getElem?_cons_succ, List.set_cons_zero, List.set_cons_succ, bind_s, Option.map_some, if_true, Nat.reduceAdd, Nat.reduceSub, Nat.reduceLeDiff, reduceIte, en, F_lchances_eq c V hp, e3, e4]
  rfl
include ha
theorem F_gain_eq : F_gain c [jobD c ws wk, .int i, payD as] = some (qd (qsub (avQ p as) (one1 p.1))) := by
  have hk := V.k p (List.mem_of_getElem? hp)
  have hi : i < wk.length := (List.getElem?_eq_some_iff.mp hp).1
  have e1 : gIx (.lst (wk.map fun p => qd (one1 p.1))) (.int i) = some (qd (one1 p.1)) := ix_lst_map hp
  have e2 := F_minus_eq c (avQ_ok hk V.l2 ha.ok) (one1_ok hk.e0 (by have := hk.e1; omega)) (by omega)
  simp only [F_gain, g_gain, mkF, startD, ap_Seq, back_ret, ap_Set, ap_SetF, ap_Call, ap_CB, ap_Cons, ap_Nil, ap_2, ap_C, ap_V, ap_VB, ap_Tup, ap_Lst, ap_If, ap_Not, ap_Nx, ap_Exp, ap_Par, ap_ParF, ap_Wh, ap_For, ap_IfS, ap_bN, ap_bT, ap_bC, ap_b0, ix0, ix1, gAdd_eq, gSub_eq, List.map_cons, List.map_nil, List.length_cons, List.length_nil, List.cons_append, List.nil_append, List.replicate, List.getElem?_cons_zero, List.getElem?_cons_succ, List.set_cons_zero, List.set_cons_succ, bind_s, Option.map_some, if_true, Nat.reduceAdd, Nat.reduceSub, Nat.reduceLeDiff, reduceIte, F_cjob, F_cwork c V hi, F_cpay c V ha, F_avpay c V hp ha, F_efforts c V, e1, e2]
theorem F_profit_eq : F_profit c [jobD c ws wk, .int i, payD as] = some (qd (qsub (avQ p (ws.map one1)) (avQ p as))) := by
  have hk := V.k p (List.mem_of_getElem? hp)
  have hi : i < wk.length := (List.getElem?_eq_some_iff.mp hp).1
  have e2 := F_minus_eq c (avQ_ok hk V.l2 (as := ws.map one1) (fun q hq => by
    obtain ⟨x, hx, rfl⟩ := List.mem_map.mp hq
    exact one1_ok (V.w x hx).1 (V.w x hx).2)) (avQ_ok hk V.l2 ha.ok) (by omega)
  simp only [F_profit, g_profit, mkF, startD, ap_Seq, back_ret, ap_Set, ap_SetF, ap_Call, ap_CB, ap_Cons, ap_Nil, ap_2, ap_C, ap_V, ap_VB, ap_Tup, ap_Lst, ap_If, ap_Not, ap_Nx, ap_Exp, ap_Par, ap_ParF, ap_Wh, ap_For, ap_IfS, ap_bN, ap_bT, ap_bC, ap_b0, ix0, ix1, gAdd_eq, gSub_eq, List.map_cons, List.map_nil, List.length_cons, List.length_nil, List.cons_append, List.nil_append, List.replicate, List.getElem?_cons_zero, List.getElem?_cons_succ, List.set_cons_zero, List.set_cons_succ, bind_s, Option.map_some, if_true, Nat.reduceAdd, Nat.reduceSub, Nat.reduceLeDiff, reduceIte, F_cjob, F_cwork c V hi, F_cpay c V ha, F_avpay c V hp ha, F_avworth c V hp, e2]
theorem F_lgain : F_u_law_gain c [packD ws wk, .int i, payD as] = some (qd (qsub (avQ p as) (one1 p.1))) := by
  have hk := V.k p (List.mem_of_getElem? hp)
  have en : gIsN false (.int i) .non = some (.bl false) := rfl
  have eW : gIx (wksD wk) (.int i) = some (wkD p) := ix_tup_map hp
  have e2 := F_dot_eq c (ws := chQ p.2) (as := as) (A := payD as) rfl (chQ_ok hk V.l2) ha.ok (chlen hk V.l2)
  have e3 := F_lless_eq c (avQ_ok hk V.l2 ha.ok) (one1_ok hk.e0 (by have := hk.e1; omega)) (by omega)
  have e4 : (D.tup [.int p.1, .int 1]) = qd (one1 p.1) := rfl
  have e5 : qd (dotQ (chQ p.2) as) = qd (avQ p as) := rfl
  simp only [F_u_law_gain, g_u_law_gain, mkF, startD, ap_Seq, back_ret, ap_Set, ap_SetF, ap_Call, ap_CB, ap_Cons, ap_Nil, ap_2, ap_C, ap_V, ap_VB, ap_Tup, ap_Lst, ap_If, ap_Not, ap_Nx, ap_Exp, ap_Par, ap_ParF, ap_Wh, ap_For, ap_IfS, ap_bN, ap_bT, ap_bC, ap_b0, ix0, ix1, gAdd_eq, gSub_eq, List.map_cons, List.map_nil, List.length_cons, List.length_nil, List.cons_append, List.nil_append, List.replicate, List.getElem?_cons_zero, List.getElem?_cons_succ, List.set_cons_zero, List.set_cons_succ, bind_s, Option.map_some, if_true, Nat.reduceAdd, Nat.reduceSub, Nat.reduceLeDiff, reduceIte, en, F_lchances_eq c V hp, ix_pk1, eW, ix_wk0, e2, e4, e5, e3]
end
theorem F_lgain0 (c : Addr) (ws : List Int) (wk : List (Int × List Int)) (as : List Qp) : F_u_law_gain c [packD ws wk, .non, payD as] = some (qd (0, 1)) := rfl
--PART4
end K01

set_option maxHeartbeats 1000000
namespace K01
open PySem PySem.Spec PyProof.Rows L2 DL
/-! ### the works that are wanted -/
theorem qlt_iff {p q : Qp} : qlt p q = true ↔ p.1 * q.2 < q.1 * p.2 := by unfold qlt; exact decide_eq_true_iff
theorem qle_lt {x y z : Qp} {n m k : Nat} (hx : Ok n x) (hy : Ok m y) (hz : Ok k z) (h1 : qlt y x = false) (h2 : qlt y z = true) : qlt x z = true := by
  rw [qlt_iff] at h2 ⊢
  have h1 : ¬ (y.1 * x.2 < x.1 * y.2) := fun h => by rw [qlt_iff.mpr h] at h1; cases h1
  have p1 := hx.pos; have p2 := hy.pos; have p3 := hz.pos
  obtain ⟨a, b⟩ := x
  obtain ⟨u, d⟩ := y
  obtain ⟨e, f⟩ := z
  simp only at *
  have h3 : a * d * f ≤ u * b * f := Int.mul_le_mul_of_nonneg_right (by omega) (by omega)
  have h4 : u * f * b < e * d * b := Int.mul_lt_mul_of_pos_right h2 p1
  have h5 : (a * f) * d < (e * b) * d := by
    have e1 : a * f * d = a * d * f := by ac_rfl
    have e2 : u * b * f = u * f * b := by ac_rfl
    have e3 : e * d * b = e * b * d := by ac_rfl
    omega
  exact Int.lt_of_mul_lt_mul_right h5 (by omega)
theorem q_same {p q : Qp} {n m : Nat} (hp : Ok n p) (hq : Ok m q) (h1 : qlt p q = false) (h2 : qlt q p = false) : p = q := by
  refine q_ext hp hq ?_
  have a1 : ¬ (p.1 * q.2 < q.1 * p.2) := fun h => by rw [qlt_iff.mpr h] at h1; cases h1
  have a2 : ¬ (q.1 * p.2 < p.1 * q.2) := fun h => by rw [qlt_iff.mpr h] at h2; cases h2
  omega
theorem qlt_self (p : Qp) : qlt p p = false := by unfold qlt; exact decide_eq_false (by omega)
/-- one more work with its gain -/
def wantL : List (Int × Qp) → Qp × List D → Qp × List D
  | [], s => s
  | (i, g) :: r, (b, f) => wantL r (if qlt b g = true then (g, [D.int i]) else if g = b then (b, f ++ [D.int i]) else (b, f))
def isMax (P : List (D × Qp)) (b : Qp) : Prop := (∃ d, (d, b) ∈ P) ∧ ∀ x ∈ P, qlt b x.2 = false
theorem wantL_eq {n : Nat} : ∀ (r : List (Int × Qp)) (P : List (D × Qp)) (b : Qp), (∀ x ∈ P, Ok n x.2) → (∀ x ∈ r, Ok n x.2) → isMax P b →
    isMax (P ++ r.map fun x => (D.int x.1, x.2)) (wantL r (b, (P.filter fun x => x.2 = b).map (·.1))).1 ∧
    (wantL r (b, (P.filter fun x => x.2 = b).map (·.1))).2 = ((P ++ r.map fun x => (D.int x.1, x.2)).filter fun x => x.2 = (wantL r (b, (P.filter fun x => x.2 = b).map (·.1))).1).map (·.1)
  | [], P, b, hP, _, hm => ⟨by simpa [wantL] using hm, by simp only [wantL, List.map_nil, List.append_nil]; congr⟩
  | (i, g) :: r, P, b, hP, hr, hm => by
    have hg : Ok n g := hr (i, g) List.mem_cons_self
    obtain ⟨⟨d0, hb⟩, hmax⟩ := hm
    have hbo : Ok n b := hP _ hb
    have hP' : ∀ x ∈ P ++ [(D.int i, g)], Ok n x.2 := fun x hx => by
      rcases List.mem_append.mp hx with h | h
      · exact hP x h
      · rw [List.mem_singleton] at h; subst h; exact hg
    have key : ∀ b', isMax (P ++ [(D.int i, g)]) b' → wantL ((i, g) :: r) (b, (P.filter fun x => x.2 = b).map (·.1)) = wantL r (b', ((P ++ [(D.int i, g)]).filter fun x => x.2 = b').map (·.1)) →
        isMax (P ++ ((i, g) :: r).map fun x => (D.int x.1, x.2)) (wantL ((i, g) :: r) (b, (P.filter fun x => x.2 = b).map (·.1))).1 ∧
        (wantL ((i, g) :: r) (b, (P.filter fun x => x.2 = b).map (·.1))).2 = ((P ++ ((i, g) :: r).map fun x => (D.int x.1, x.2)).filter fun x => x.2 = (wantL ((i, g) :: r) (b, (P.filter fun x => x.2 = b).map (·.1))).1).map (·.1) := fun b' hb' e => by
      have ih := wantL_eq r (P ++ [(D.int i, g)]) b' hP' (fun x hx => hr x (List.mem_cons_of_mem _ hx)) hb'
      rw [e]
      rw [List.append_assoc] at ih
      exact ih
    by_cases h1 : qlt b g = true
    · refine key g ⟨⟨D.int i, by simp⟩, fun x hx => ?_⟩ ?_
      · rcases List.mem_append.mp hx with h | h
        · have := qle_lt (hP x h) hbo hg (hmax x h) h1
          cases e : qlt g x.2 with
          | false => rfl
          | true =>
            rw [qlt_iff] at this e
            omega
        · rw [List.mem_singleton] at h; subst h; exact qlt_self g
      · show wantL r (if qlt b g = true then _ else _) = _
        rw [if_pos h1, List.filter_append]
        have : (P.filter fun x => decide (x.2 = g)) = [] := by
          rw [List.filter_eq_nil_iff]
          intro x hx
          simp only [decide_eq_true_eq]
          intro e
          have := hmax x hx
          rw [e, h1] at this
          cases this
        rw [this]
        simp
    · have h1' : qlt b g = false := by simpa using h1
      by_cases h2 : g = b
      · refine key b ⟨⟨d0, List.mem_append_left _ hb⟩, fun x hx => ?_⟩ ?_
        · rcases List.mem_append.mp hx with h | h
          · exact hmax x h
          · rw [List.mem_singleton] at h; subst h; exact h1'
        · show wantL r (if qlt b g = true then _ else if g = b then _ else _) = _
          rw [if_neg h1, if_pos h2, List.filter_append]
          simp [h2]
      · refine key b ⟨⟨d0, List.mem_append_left _ hb⟩, fun x hx => ?_⟩ ?_
        · rcases List.mem_append.mp hx with h | h
          · exact hmax x h
          · rw [List.mem_singleton] at h; subst h; exact h1'
        · show wantL r (if qlt b g = true then _ else if g = b then _ else _) = _
          rw [if_neg h1, if_neg h2, List.filter_append]
          simp [h2]
theorem eqD_qd (p q : Qp) : eqD false (qd p) (qd q) = some (.bl (decide (p = q))) := by
  show some (D.bl ((p.1 == q.1) && ((p.2 == q.2) && true))) = _
  congr 2
  rw [Bool.eq_iff_iff]
  simp [Prod.ext_iff]
theorem neD_qd (p q : Qp) : eqD true (qd p) (qd q) = some (.bl (!decide (p = q))) := by
  show some (D.bl (!((p.1 == q.1) && ((p.2 == q.2) && true)))) = _
  congr 3
  rw [Bool.eq_iff_iff]
  simp [Prod.ext_iff]
def gnQ (as : List Qp) (p : Int × List Int) : Qp := qsub (avQ p as) (one1 p.1)
section
variable (c : Addr) {ws : List Int} {wk : List (Int × List Int)} (V : Valid ws wk) {as : List Qp} (ha : PayOk ws.length as)
include V ha
theorem gnQ_ok {p : Int × List Int} (hp : p ∈ wk) : Ok 100 (gnQ as p) := (qsub_ok (avQ_ok (V.k p hp) V.l2 ha.ok) (one1_ok (V.k p hp).e0 (by have := (V.k p hp).e1; omega))).mono (by omega)
theorem want_loop : ∀ (ps : List (Int × List Int)) (k : Nat) (b : Qp) (f : List D) (s4 s5 : Slot), (∀ j p, ps[j]? = some p → wk[k + j]? = some p) → Ok 100 b → f.length + ps.length ≤ 10 →
    ∃ s4' s5', forL (bN 4) (gSeq (gSet 5 (eCall 3 (F_gain c) (aCons (eV 0) (aCons (eV 4) (aCons (eV 1) aNil))))) (gIf (eCall 2 (F_is_less c) (aCons (eV 2) (aCons (eV 5) aNil))) (gSeq (gSet 2 (eV 5)) (gSetF 3 (eLst (aCons (eV 4) aNil)))) (gIf (DL.e2 (eqD false) (eVB 5) (eVB 2)) (gApp 3 (eV 4)) gNx)))
      ((List.range ps.length).map fun j => D.int ((k + j : Nat) : Int)) [some (false, jobD c ws wk), some (false, payD as), some (false, qd b), some (true, .lst f), s4, s5]
      = .nx [some (false, jobD c ws wk), some (false, payD as), some (false, qd (wantL (ps.zipIdx k |>.map fun x => ((x.2 : Int), gnQ as x.1)) (b, f)).1), some (true, .lst (wantL (ps.zipIdx k |>.map fun x => ((x.2 : Int), gnQ as x.1)) (b, f)).2), s4', s5']
  | [], k, b, f, s4, s5, _, _, _ => ⟨s4, s5, rfl⟩
  | p :: ps, k, b, f, s4, s5, H, hb, hl => by
    have hp : wk[k]? = some p := H 0 p rfl
    have hm := List.mem_of_getElem? hp
    have eg : F_gain c [jobD c ws wk, .int (k : Nat), payD as] = some (qd (gnQ as p)) := F_gain_eq c V hp ha
    have hg := gnQ_ok V ha hm
    have el := F_is_less_eq c hb hg (by omega)
    have er : (List.range (p :: ps).length).map (fun j => D.int ((k + j : Nat) : Int)) = D.int (k : Nat) :: (List.range ps.length).map fun j => D.int ((k + 1 + j : Nat) : Int) := by
      rw [List.length_cons, List.range_succ_eq_map, List.map_cons, List.map_map]
      congr 1
      apply List.map_congr_left
      intro j _
      show D.int ((k + (j + 1) : Nat) : Int) = _
      congr 2
      omega
    rw [er]
    have ih := want_loop ps (k + 1)
    have H' : ∀ j q, ps[j]? = some q → wk[k + 1 + j]? = some q := fun j q h => by
      have := H (j + 1) q h
      rw [show k + 1 + j = k + (j + 1) by omega]
      exact this
    rw [List.length_cons] at hl
    have ez : ((p :: ps).zipIdx k).map (fun x => ((x.2 : Int), gnQ as x.1)) = ((k : Int), gnQ as p) :: (ps.zipIdx (k + 1)).map fun x => ((x.2 : Int), gnQ as x.1) := by rw [List.zipIdx_cons]; rfl
    rw [ez]
    unfold forL wantL
    by_cases h1 : qlt b (gnQ as p) = true
    · obtain ⟨a1, a2, e⟩ := ih (gnQ as p) [D.int k] (some (false, .int (k : Nat))) (some (false, qd (gnQ as p))) H' hg (by simp; omega)
      refine ⟨a1, a2, ?_⟩
      rw [if_pos h1]
      simp only [mkF, startD, ap_Seq, back_ret, ap_Set, ap_SetF, ap_Call, ap_CB, ap_Cons, ap_Nil, ap_2, ap_C, ap_V, ap_VB, ap_Tup, ap_Lst, ap_If, ap_Not, ap_Nx, ap_Exp, ap_Par, ap_ParF, ap_Wh, ap_For, ap_IfS, ap_bN, ap_bT, ap_bC, ap_b0, ix0, ix1, gAdd_eq, gSub_eq, List.map_cons, List.map_nil, List.length_cons, List.length_nil, List.cons_append, List.nil_append, List.replicate, List.getElem?_cons_zero, List.getElem?_cons_succ, List.set_cons_zero, List.set_cons_succ, bind_s, Option.map_some, if_true, Nat.reduceAdd, Nat.reduceSub, Nat.reduceLeDiff, reduceIte, eg, el, h1, e]
    · have h1' : qlt b (gnQ as p) = false := by simpa using h1
      by_cases h2 : gnQ as p = b
      · obtain ⟨a1, a2, e⟩ := ih b (f ++ [D.int k]) (some (false, .int (k : Nat))) (some (false, qd (gnQ as p))) H' hb (by simp; omega)
        refine ⟨a1, a2, ?_⟩
        have eq2 : eqD false (qd (gnQ as p)) (qd b) = some (.bl true) := by rw [eqD_qd, decide_eq_true h2]
        rw [if_neg h1, if_pos h2]
        simp only [mkF, startD, ap_Seq, back_ret, ap_Set, ap_SetF, ap_Call, ap_CB, ap_Cons, ap_Nil, ap_2, ap_C, ap_V, ap_VB, ap_Tup, ap_Lst, ap_If, ap_Not, ap_Nx, ap_Exp, ap_Par, ap_ParF, ap_Wh, ap_For, ap_IfS, ap_bN, ap_bT, ap_bC, ap_b0, ix0, ix1, gAdd_eq, gSub_eq, List.map_cons, List.map_nil, List.length_cons, List.length_nil, List.cons_append, List.nil_append, List.replicate, List.getElem?_cons_zero, List.getElem?_cons_succ, List.set_cons_zero, List.set_cons_succ, bind_s, Option.map_some, if_true, Nat.reduceAdd, Nat.reduceSub, Nat.reduceLeDiff, reduceIte, eg, el, h1', eq2, ap_App, if_pos (show f.length < 1000 by omega), e]
      · obtain ⟨a1, a2, e⟩ := ih b f (some (false, .int (k : Nat))) (some (false, qd (gnQ as p))) H' hb (by omega)
        refine ⟨a1, a2, ?_⟩
        have eq2 : eqD false (qd (gnQ as p)) (qd b) = some (.bl false) := by rw [eqD_qd, decide_eq_false h2]
        rw [if_neg h1, if_neg h2]
        simp only [mkF, startD, ap_Seq, back_ret, ap_Set, ap_SetF, ap_Call, ap_CB, ap_Cons, ap_Nil, ap_2, ap_C, ap_V, ap_VB, ap_Tup, ap_Lst, ap_If, ap_Not, ap_Nx, ap_Exp, ap_Par, ap_ParF, ap_Wh, ap_For, ap_IfS, ap_bN, ap_bT, ap_bC, ap_b0, ix0, ix1, gAdd_eq, gSub_eq, List.map_cons, List.map_nil, List.length_cons, List.length_nil, List.cons_append, List.nil_append, List.replicate, List.getElem?_cons_zero, List.getElem?_cons_succ, List.set_cons_zero, List.set_cons_succ, bind_s, Option.map_some, if_true, Nat.reduceAdd, Nat.reduceSub, Nat.reduceLeDiff, reduceIte, eg, el, h1', eq2, e]
/-- none, then all works, with their gains -/
def allG (as : List Qp) (wk : List (Int × List Int)) : List (D × Qp) := (D.non, (0, 1)) :: (wk.zipIdx 0).map fun x => (D.int (x.2 : Nat), gnQ as x.1)
theorem allG_ok : ∀ x ∈ allG as wk, Ok 100 x.2 := fun x hx => by
  rcases List.mem_cons.mp hx with h | h
  · subst h; exact ⟨by decide, by decide, by decide, by decide⟩
  · obtain ⟨⟨p, i⟩, hpi, rfl⟩ := List.mem_map.mp h
    exact gnQ_ok V ha (List.fst_mem_of_mem_zipIdx hpi)
def dueD (P : List (D × Qp)) : List D := (P.filter fun x => !P.any fun y => qlt x.2 y.2).map (·.1)
theorem F_wanted_eq : F_wanted c [jobD c ws wk, payD as] = some (.lst (dueD (allG as wk))) := by
  have hl := V.k2
  have er : iR1 (eCB (fun x => (gLen x).or (gLenO c (F_JobD_lenD c) x)) (aCons (eVB 0) aNil)) [some (false, jobD c ws wk), some (false, payD as), some (false, qd (0, 1)), some (true, .lst [.non]), none, none] = some ((List.range wk.length).map fun j => D.int ((0 + j : Nat) : Int)) := by
    simp only [ap_iR1, mkF, startD, ap_Seq, back_ret, ap_Set, ap_SetF, ap_Call, ap_CB, ap_Cons, ap_Nil, ap_2, ap_C, ap_V, ap_VB, ap_Tup, ap_Lst, ap_If, ap_Not, ap_Nx, ap_Exp, ap_Par, ap_ParF, ap_Wh, ap_For, ap_IfS, ap_bN, ap_bT, ap_bC, ap_b0, ix0, ix1, gAdd_eq, gSub_eq, List.map_cons, List.map_nil, List.length_cons, List.length_nil, List.cons_append, List.nil_append, List.replicate, List.getElem?_cons_zero, List.getElem?_cons_succ, List.set_cons_zero, List.set_cons_succ, bind_s, Option.map_some, if_true, Nat.reduceAdd, Nat.reduceSub, Nat.reduceLeDiff, reduceIte, len_job c V]
    rw [if_pos (by unfold rngOk; apply decide_eq_true; omega)]
    congr 1
  obtain ⟨a1, a2, e⟩ := want_loop c V ha wk 0 (0, 1) [.non] none none (fun j p h => by rw [Nat.zero_add]; exact h) ⟨by decide, by decide, by decide, by decide⟩ (by simp; omega)
  have e0 : (D.tup [.int 0, .int 1]) = qd (0, 1) := rfl
  have main := wantL_eq (n := 100) ((wk.zipIdx 0).map fun x => ((x.2 : Int), gnQ as x.1)) [(D.non, (0, 1))] (0, 1) (fun x hx => by rw [List.mem_singleton] at hx; subst hx; exact ⟨by decide, by decide, by decide, by decide⟩) (fun x hx => by
    obtain ⟨⟨p, i⟩, hpi, rfl⟩ := List.mem_map.mp hx
    exact gnQ_ok V ha (List.fst_mem_of_mem_zipIdx hpi)) ⟨⟨D.non, by simp⟩, fun x hx => by rw [List.mem_singleton] at hx; subst hx; exact qlt_self _⟩
  have ef : (([(D.non, ((0, 1) : Qp))].filter fun x => x.2 = (0, 1)).map (·.1)) = [D.non] := by simp
  rw [ef] at main
  have eP : [(D.non, ((0, 1) : Qp))] ++ ((wk.zipIdx 0).map fun x => ((x.2 : Int), gnQ as x.1)).map (fun x => (D.int x.1, x.2)) = allG as wk := by
    rw [List.map_map]; rfl
  rw [eP] at main
  have ed : (wantL ((wk.zipIdx 0).map fun x => ((x.2 : Int), gnQ as x.1)) ((0, 1), [D.non])).2 = dueD (allG as wk) := by
    rw [main.2]
    unfold dueD
    congr 1
    apply List.filter_congr
    intro x hx
    obtain ⟨⟨d, hd⟩, hmax⟩ := main.1
    have hxo := allG_ok V ha x hx
    have hbo := allG_ok V ha _ hd
    rw [Bool.eq_iff_iff]
    simp only [decide_eq_true_eq, Bool.not_eq_true']
    constructor
    · intro e
      rw [List.any_eq_false]
      intro y hy
      rw [e, hmax y hy]
      exact Bool.false_ne_true
    · intro h
      rw [List.any_eq_false] at h
      have h1 : qlt x.2 (wantL ((wk.zipIdx 0).map fun x => ((x.2 : Int), gnQ as x.1)) ((0, 1), [D.non])).1 = false := by simpa using h _ hd
      exact q_same hxo hbo h1 (hmax x hx)
  simp only [F_wanted, g_wanted, mkF, startD, ap_Seq, back_ret, ap_Set, ap_SetF, ap_Call, ap_CB, ap_Cons, ap_Nil, ap_2, ap_C, ap_V, ap_VB, ap_Tup, ap_Lst, ap_If, ap_Not, ap_Nx, ap_Exp, ap_Par, ap_ParF, ap_Wh, ap_For, ap_IfS, ap_bN, ap_bT, ap_bC, ap_b0, ix0, ix1, gAdd_eq, gSub_eq, List.map_cons, List.map_nil, List.length_cons, List.length_nil, List.cons_append, List.nil_append, List.replicate, List.getElem?_cons_zero, List.getElem?_cons_succ, List.set_cons_zero, List.set_cons_succ, bind_s, Option.map_some, if_true, Nat.reduceAdd, Nat.reduceSub, Nat.reduceLeDiff, reduceIte, F_cjob, F_cpay c V ha, e0, er, e, ed, frz]
end
--PART5
end K01

set_option maxHeartbeats 1000000
namespace K01
open PySem PySem.Spec PyProof.Rows L2 DL
/-! ### numbers drawn from the script -/
theorem lay_ints : ∀ l : List Int, PyData.canLayAll0 (l.map .int) = true
  | [] => rfl
  | x :: l => by
    show (PyData.canLay0 (.int x) && PyData.canLayAll0 (l.map .int)) = true
    rw [lay_ints l]; rfl
theorem depth_ints : ∀ l : List Int, PyData.depthAll (l.map .int) = 0
  | [] => rfl
  | x :: l => by
    show max 0 (PyData.depthAll (l.map .int)) = 0
    rw [depth_ints l]; rfl
theorem shaped_ints (l : List Int) (h : l.length ≤ 1000) : SeqAt.shaped (.list (l.map .int)) = true := by
  unfold SeqAt.shaped
  rw [Bool.and_eq_true]
  constructor
  · have := lay_ints l
    simp only [PyData.canLay0, this]
  · show decide (PyData.depthAll (l.map .int) + 1 ≤ 64) = true
    rw [depth_ints]; rfl
theorem script_ne (ns : List Int) (h : ns.length ≤ 63) : eqD true (.scr ns) (.lst []) = some (.bl (!ns.isEmpty)) := by
  have h1 := shaped_ints ns (by omega)
  have h2 : SeqAt.shaped (.list []) = true := shaped_ints [] (by decide)
  show (if SeqAt.shaped (.list (ns.map .int)) && SeqAt.shaped (.list []) then some (D.bl (if true = true then !PyData.eqv (.list (ns.map .int)) (.list []) else _)) else none) = _
  rw [h1, h2]
  cases ns <;> rfl
theorem F_num (c : Addr) (ns : List Int) (h : ns.length ≤ 63) {i : Int} (h0 : 0 ≤ i) (h1 : i ≤ 100000) : ∃ n : Int, F_u_law_number c [.scr ns, .int i] = some (.int n) := by
  obtain ⟨L, hL, hl, e⟩ : ∃ L : List Int, L ≠ [] ∧ L.length ≤ 63 ∧ eIf (DL.e2 (eqD true) (eVB 0) (eLst aNil)) (eSl (eVB 0) oNone (oSome (eC (.int 63)))) (eLst (aCons (eC (.int 5)) aNil)) [some (false, .scr ns), some (false, .int i), none, none, none, none, none] = some (.lst (L.map .int)) := by
    cases ns with
    | nil => exact ⟨[5], by decide, by decide, by simp only [mkF, startD, ap_Seq, back_ret, ap_Set, ap_SetF, ap_Call, ap_CB, ap_Cons, ap_Nil, ap_2, ap_C, ap_V, ap_VB, ap_Tup, ap_Lst, ap_If, ap_Not, ap_Nx, ap_Exp, ap_Par, ap_ParF, ap_Wh, ap_For, ap_IfS, ap_bN, ap_bT, ap_bC, ap_b0, ix0, ix1, gAdd_eq, gSub_eq, List.map_cons, List.map_nil, List.length_cons, List.length_nil, List.cons_append, List.nil_append, List.replicate, List.getElem?_cons_zero, List.getElem?_cons_succ, List.set_cons_zero, List.set_cons_succ, bind_s, Option.map_some, if_true, Nat.reduceAdd, Nat.reduceSub, Nat.reduceLeDiff, reduceIte, script_ne [] (by decide)]; rfl⟩
    | cons x r =>
      refine ⟨x :: r, by simp, h, ?_⟩
      have e1 : DL.cutD (x :: r) none (some 63) = x :: r := by
        unfold DL.cutD
        rw [HT.sIx_none, show HT.sIx (x :: r).length (x :: r).length (some 63) = min 63 (x :: r).length from HT.sIx_nat _ _ 63]
        rw [List.drop_zero, Nat.sub_zero, Nat.min_eq_right h, List.take_length]
      have e2 : eSl (eVB 0) oNone (oSome (eC (.int 63))) [some (false, .scr (x :: r)), some (false, .int i), none, none, none, none, none] = some (.lst ((x :: r).map .int)) := by
        show gSl (.scr (x :: r)) none (some 63) = _
        show some (D.lst ((DL.cutD (x :: r) none (some 63)).map D.int)) = _
        rw [e1]
      simp only [mkF, startD, ap_Seq, back_ret, ap_Set, ap_SetF, ap_Call, ap_CB, ap_Cons, ap_Nil, ap_2, ap_C, ap_V, ap_VB, ap_Tup, ap_Lst, ap_If, ap_Not, ap_Nx, ap_Exp, ap_Par, ap_ParF, ap_Wh, ap_For, ap_IfS, ap_bN, ap_bT, ap_bC, ap_b0, ix0, ix1, gAdd_eq, gSub_eq, List.map_cons, List.map_nil, List.length_cons, List.length_nil, List.cons_append, List.nil_append, List.replicate, List.getElem?_cons_zero, List.getElem?_cons_succ, List.set_cons_zero, List.set_cons_succ, bind_s, Option.map_some, if_true, Nat.reduceAdd, Nat.reduceSub, Nat.reduceLeDiff, reduceIte, script_ne (x :: r) h, List.isEmpty_cons, Bool.not_false] at e2 ⊢
      exact e2
  have hp : (0 : Int) < L.length := by
    cases L with
    | nil => exact absurd rfl hL
    | cons x r => simp
  have el : gLen [.lst (L.map D.int)] = some (.int L.length) := by rw [gLen_lst, List.length_map]
  have hm0 := Int.emod_nonneg i (show (L.length : Int) ≠ 0 by omega)
  have hm1 := Int.emod_lt_of_pos i hp
  have hd0 : 0 ≤ i / (L.length : Int) := Int.ediv_nonneg h0 (by omega)
  have hd1 : i / (L.length : Int) ≤ i := Int.ediv_le_self _ h0
  obtain ⟨k, hk⟩ : ∃ k : Nat, i % (L.length : Int) = k := ⟨(i % (L.length : Int)).toNat, by omega⟩
  obtain ⟨x, hx⟩ : ∃ x, L[k]? = some x := ⟨_, List.getElem?_eq_getElem (show k < L.length by omega)⟩
  have ex : gIx (.lst (L.map D.int)) (.int (i % (L.length : Int))) = some (.int x) := by rw [hk]; exact ix_lst_map hx
  have s1 : sz (L.length : Int) = true := sz_of (n := 10) (by omega) (by omega)
  have s2 : sz 13 = true := by decide
  have s3 : sz (i / (L.length : Int)) = true := sz_of (n := 20) (by omega) (by omega)
  have s4 : sz 1000003 = true := by decide
  have bnd : ∀ (a m : Int), 0 < m → m ≤ 2147483647 → 0 ≤ a % m ∧ a % m < 2147483647 := fun a m hm hm2 => ⟨Int.emod_nonneg _ (by omega), Int.lt_of_lt_of_le (Int.emod_lt_of_pos _ hm) hm2⟩
  generalize hA : (x + 13 * (i / (L.length : Int))) % 1000003 = A
  generalize hB : (x + 13 * (i / (L.length : Int))) / 1000003 % 999983 = B
  have bA : 0 ≤ A ∧ A < 2147483647 := hA ▸ bnd _ 1000003 (by decide) (by decide)
  have bB : 0 ≤ B ∧ B < 2147483647 := hB ▸ bnd _ 999983 (by decide) (by decide)
  generalize hM : ((A + 977 * i) * 48271 + 31 * B + L.sum % 65521) % 2147483647 = M
  have bM : 0 ≤ M ∧ M < 2147483647 := hM ▸ bnd _ 2147483647 (by decide) (by decide)
  have t1 : sz 977 = true := by decide
  have t2 : sz i = true := sz_of (n := 20) (by omega) (by omega)
  have t3 : sz (A + 977 * i) = true := sz_of (n := 40) (by omega) (by omega)
  have t4 : sz 48271 = true := by decide
  have t5 : sz 31 = true := by decide
  have t6 : sz B = true := sz_of (n := 40) (by omega) (by omega)
  have t7 : sz M = true := sz_of (n := 40) (by omega) (by omega)
  have t8 : sz (M + 31 * i + 7) = true := sz_of (n := 40) (by omega) (by omega)
  have t9 : sz (M * (M + 31 * i + 7) % 2147483629) = true := by
    have := bnd (M * (M + 31 * i + 7)) 2147483629 (by decide) (by decide)
    exact sz_of (n := 40) (by omega) (by omega)
  have t10 : sz 65537 = true := by decide
  refine ⟨M * (M + 31 * i + 7) % 2147483629 * 65537 + B, ?_⟩
  simp only [F_u_law_number, g_u_law_number, mkF, startD, ap_Seq, ap_Set, List.map_cons, List.map_nil, List.length_cons, List.length_nil, List.cons_append, List.nil_append, List.replicate, Nat.reduceAdd, Nat.reduceSub, e, List.set_cons_zero, List.set_cons_succ]
  simp only [mkF, startD, ap_Seq, back_ret, ap_Set, ap_SetF, ap_Call, ap_CB, ap_Cons, ap_Nil, ap_2, ap_C, ap_V, ap_VB, ap_Tup, ap_Lst, ap_If, ap_Not, ap_Nx, ap_Exp, ap_Par, ap_ParF, ap_Wh, ap_For, ap_IfS, ap_bN, ap_bT, ap_bC, ap_b0, ix0, ix1, gAdd_eq, gSub_eq, List.map_cons, List.map_nil, List.length_cons, List.length_nil, List.cons_append, List.nil_append, List.replicate, List.getElem?_cons_zero, List.getElem?_cons_succ, List.set_cons_zero, List.set_cons_succ, bind_s, Option.map_some, if_true, Nat.reduceAdd, Nat.reduceSub, Nat.reduceLeDiff, reduceIte, gInt_eq, el, mMod_eq hp, ex, mDiv_eq hp s1, mMul_eq s2 s3, mMod_eq (show (0 : Int) < 1000003 by decide), mMod_eq (show (0 : Int) < 999983 by decide), mDiv_eq (show (0 : Int) < 1000003 by decide) s4, hA, hB, mMul_eq t1 t2, mMul_eq t3 t4, mMul_eq t5 t6, gSum_lst, mMod_eq (show (0 : Int) < 65521 by decide), mMod_eq (show (0 : Int) < 2147483647 by decide), hM, mMul_eq t5 t2, mMul_eq t7 t8, mMod_eq (show (0 : Int) < 2147483629 by decide), mMul_eq t9 t10]
--PART6
end K01

set_option maxHeartbeats 1000000
namespace K01
open PySem PySem.Spec PyProof.Rows L2 DL
/-! ### drawn jobs and pays -/
theorem compL_ex {b : D → DEnv → Option DEnv} {f : DE1} {ρ : DEnv} {P : Int → Prop} : ∀ ds : List D, (∀ d ∈ ds, ∃ x, (b d ρ).bind f = some (.int x) ∧ P x) → ∃ l : List Int, compL b (eC (.bl true)) f ρ ds = some (l.map .int) ∧ l.length = ds.length ∧ ∀ x ∈ l, P x
  | [], _ => ⟨[], rfl, rfl, fun x hx => by cases hx⟩
  | d :: ds, H => by
    obtain ⟨x, h1, px⟩ := H d List.mem_cons_self
    obtain ⟨l, h2, hl, hP⟩ := compL_ex ds fun x hx => H x (List.mem_cons_of_mem _ hx)
    refine ⟨x :: l, ?_, by simp [hl], fun y hy => (List.mem_cons.mp hy).elim (fun e => e ▸ px) (hP y)⟩
    unfold compL
    cases e : b d ρ with
    | none => rw [e] at h1; cases h1
    | some ρ1 =>
      rw [e] at h1
      have h1 : f ρ1 = some (.int x) := h1
      simp only [eC, h1, h2, Option.map_some, List.map_cons]
theorem compL_fil {α : Type} {b : D → DEnv → Option DEnv} {t f : DE1} {ρ : DEnv} {u v : α → D} {p : α → Bool} : ∀ zs : List α, (∀ z ∈ zs, ∃ ρ1, b (u z) ρ = some ρ1 ∧ t ρ1 = some (.bl (p z)) ∧ f ρ1 = some (v z)) → compL b t f ρ (zs.map u) = some ((zs.filter p).map v)
  | [], _ => rfl
  | z :: zs, H => by
    obtain ⟨ρ1, h1, h2, h3⟩ := H z List.mem_cons_self
    have ih := compL_fil zs fun x hx => H x (List.mem_cons_of_mem _ hx)
    rw [List.map_cons]
    unfold compL
    rw [h1]
    simp only [h2]
    cases e : p z with
    | true => simp only [h3, ih, Option.map_some, List.filter_cons, e, if_true, List.map_cons]
    | false => simp only [ih, List.filter_cons, e]; rfl
theorem rng_mem {n : Int} {d : D} (h : d ∈ rngD 0 n) : ∃ k : Nat, d = .int k ∧ (k : Int) < n := by
  unfold rngD at h
  obtain ⟨k, hk, rfl⟩ := List.mem_map.mp h
  rw [List.mem_range] at hk
  exact ⟨k, by simp, by omega⟩
theorem emod_lt' (a : Int) {m : Int} (h : 0 < m) : 0 ≤ a % m ∧ a % m < m := ⟨Int.emod_nonneg _ (by omega), Int.emod_lt_of_pos _ h⟩
theorem pick2 (n : Int) : ∃ m : Int, (m = 3 ∨ m = 7) ∧ gIx (.tup [.int 3, .int 7]) (.int (n % 2)) = some (.int m) := by
  have := emod_lt' n (show (0 : Int) < 2 by decide)
  rcases (show n % 2 = 0 ∨ n % 2 = 1 by omega) with e | e
  · exact ⟨3, .inl rfl, by rw [e]; rfl⟩
  · exact ⟨7, .inr rfl, by rw [e]; rfl⟩
theorem nonneg_sum : ∀ l : List Int, (∀ x ∈ l, 0 ≤ x ∧ x ≤ 6) → 0 ≤ l.sum := fun l hl => (sum_le (by decide) l hl).1
theorem ones_sum : ∀ n : Nat, (List.replicate n (1 : Int)).sum = n
  | 0 => rfl
  | n + 1 => by rw [List.replicate_succ, List.sum_cons, ones_sum n]; omega
theorem rep_ones (n : Nat) : (List.replicate n [D.int 1]).flatten = (List.replicate n (1 : Int)).map D.int := by
  induction n with
  | zero => rfl
  | succ n ih => rw [List.replicate_succ, List.flatten_cons, ih, List.replicate_succ, List.map_cons]; rfl
section
variable (c : Addr) (ns : List Int) (h : ns.length ≤ 63)
include h
theorem worths_loop {idx : Int} (i0 : 0 ≤ idx) (i1 : idx ≤ 1000) (M N : DL.Slot) (s5 s7 s8 s9 : Slot) : ∀ (ks : List Nat) (acc : List Int) (s6 : Slot), (∀ k ∈ ks, k ≤ 10) → acc.length + ks.length ≤ 10 → (∀ x ∈ acc, 0 ≤ x ∧ x ≤ 20) →
    ∃ (acc' : List Int) (s6' : DL.Slot), forL (bN 6) (gApp 4 (DL.e2 gModI (eCB gInt (aCons (eCall 2 (F_u_law_number c) (aCons (eV 0) (aCons (DL.e2 gAddI (DL.e2 gAddI (eVB 1) (eC (.int 2))) (eVB 6)) aNil))) aNil)) (eC (.int 21)))) (ks.map fun k => D.int (k : Nat))
      [some (false, .scr ns), some (false, .int idx), M, N, some (true, .lst (acc.map .int)), s5, s6, s7, s8, s9] = .nx [some (false, .scr ns), some (false, .int idx), M, N, some (true, .lst (acc'.map .int)), s5, s6', s7, s8, s9]
      ∧ acc'.length = acc.length + ks.length ∧ ∀ x ∈ acc', 0 ≤ x ∧ x ≤ 20
  | [], acc, s6, _, _, ha => ⟨acc, s6, rfl, rfl, ha⟩
  | k :: ks, acc, s6, hk, hl, ha => by
    have k10 := hk k List.mem_cons_self
    obtain ⟨n, en⟩ := F_num c ns h (i := idx + 2 + (k : Int)) (by omega) (by omega)
    rw [List.length_cons] at hl
    have hb := emod_lt' n (show (0 : Int) < 21 by decide)
    obtain ⟨acc', s6', e, hl', ha'⟩ := worths_loop i0 i1 M N s5 s7 s8 s9 ks (acc ++ [n % 21]) (some (false, .int k)) (fun x hx => hk x (List.mem_cons_of_mem _ hx)) (by simp; omega) (fun x hx => by
      rcases List.mem_append.mp hx with q | q
      · exact ha x q
      · rw [List.mem_singleton] at q; subst q; omega)
    refine ⟨acc', s6', ?_, by simp at hl'; simp; omega, ha'⟩
    rw [List.map_cons]
    unfold forL
    rw [List.map_append] at e
    simp only [mkF, startD, ap_Seq, back_ret, ap_Set, ap_SetF, ap_Call, ap_CB, ap_Cons, ap_Nil, ap_2, ap_C, ap_V, ap_VB, ap_Tup, ap_Lst, ap_If, ap_Not, ap_Nx, ap_Exp, ap_Par, ap_ParF, ap_Wh, ap_For, ap_IfS, ap_bN, ap_bT, ap_bC, ap_b0, ix0, ix1, gAdd_eq, gSub_eq, List.map_cons, List.map_nil, List.length_cons, List.length_nil, List.cons_append, List.nil_append, List.replicate, List.getElem?_cons_zero, List.getElem?_cons_succ, List.set_cons_zero, List.set_cons_succ, bind_s, Option.map_some, if_true, Nat.reduceAdd, Nat.reduceSub, Nat.reduceLeDiff, reduceIte, ap_App, gInt_eq, en, mMod_eq (show (0 : Int) < 21 by decide), List.length_map, if_pos (show acc.length < 1000 by omega)] at e ⊢
    exact e
theorem works_loop {idx : Int} (i0 : 0 ≤ idx) (i1 : idx ≤ 1000) {many : Nat} (m2 : 2 ≤ many) (m4 : many ≤ 4) (N s4 : DL.Slot) : ∀ (ks : List Nat) (acc : List (Int × List Int)) (s6 s7 s8 s9 : Slot), (∀ k ∈ ks, k ≤ 10) → acc.length + ks.length ≤ 10 → (∀ x ∈ acc, WkOk many x) →
    ∃ (acc' : List (Int × List Int)) (s6' s7' s8' s9' : DL.Slot), forL (bN 7)
  (gSeq (gSet 8 (DL.e2 gIx (eTup (aCons (eC (.int 3)) (aCons (eC (.int 7)) aNil))) (DL.e2 gModI (eCB gInt (aCons (eCall 2 (F_u_law_number c) (aCons (eV 0) (aCons (DL.e2 gAddI (eVB 1) (eC (.int 8))) aNil))) aNil)) (eC (.int 2)))))
  (gSeq (gSet 9 (eLc (iR1 (eV 2)) ([(Str.ofString "at", 6)].map (·.2)) (bN 6) (eC (.bl true)) (DL.e2 gModI (eCB gInt (aCons (eCall 2 (F_u_law_number c) (aCons (eV 0) (aCons (DL.e2 gAddI (DL.e2 gAddI (DL.e2 gAddI (eVB 1) (eC (.int 10))) (DL.e2 gMulI (eC (.int 5)) (eVB 7))) (eVB 6)) aNil))) aNil)) (eVB 8))))
  (gSeq (gSet 9 (eIf (DL.e2 gGt (eCB gSum (aCons (eVB 9) aNil)) (eC (.int 0))) (eV 9) (DL.e2 gRep (eLst (aCons (eC (.int 1)) aNil)) (eVB 2))))
  (gApp 5 (eTup (aCons (DL.e2 gModI (eCB gInt (aCons (eCall 2 (F_u_law_number c) (aCons (eV 0) (aCons (DL.e2 gAddI (DL.e2 gAddI (eVB 1) (eC (.int 30))) (eVB 7)) aNil))) aNil)) (eC (.int 10))) (aCons (eCB gTupOf (aCons (eVB 9) aNil)) aNil)))))))
      (ks.map fun k => D.int (k : Nat)) [some (false, .scr ns), some (false, .int idx), some (false, .int many), N, s4, some (true, .lst (acc.map wkD)), s6, s7, s8, s9]
      = .nx [some (false, .scr ns), some (false, .int idx), some (false, .int many), N, s4, some (true, .lst (acc'.map wkD)), s6', s7', s8', s9'] ∧ acc'.length = acc.length + ks.length ∧ ∀ x ∈ acc', WkOk many x
  | [], acc, s6, s7, s8, s9, _, _, ha => ⟨acc, s6, s7, s8, s9, rfl, rfl, ha⟩
  | k :: ks, acc, s6, s7, s8, s9, hk, hl, ha => by
    have k10 := hk k List.mem_cons_self
    rw [List.length_cons] at hl
    obtain ⟨n8, en8⟩ := F_num c ns h (i := idx + 8) (by omega) (by omega)
    obtain ⟨ne, ene⟩ := F_num c ns h (i := idx + 30 + (k : Int)) (by omega) (by omega)
    obtain ⟨m, hm, em⟩ := pick2 n8
    have hm0 : 0 < m := by omega
    have s5 : sz 5 = true := by decide
    have sk : sz (k : Int) = true := sz_of (n := 10) (by omega) (by omega)
    obtain ⟨l, el, hll, hlp⟩ := compL_ex (b := bN 6) (f := DL.e2 gModI (eCB gInt (aCons (eCall 2 (F_u_law_number c) (aCons (eV 0) (aCons (DL.e2 gAddI (DL.e2 gAddI (DL.e2 gAddI (eVB 1) (eC (.int 10))) (DL.e2 gMulI (eC (.int 5)) (eVB 7))) (eVB 6)) aNil))) aNil)) (eVB 8))
      (ρ := [some (false, .scr ns), some (false, .int idx), some (false, .int many), N, s4, some (true, .lst (acc.map wkD)), none, some (false, .int k), some (false, .int m), s9]) (P := fun x => 0 ≤ x ∧ x ≤ 6) (rngD 0 many) (fun d hd => by
      obtain ⟨j, rfl, hj⟩ := rng_mem hd
      obtain ⟨n, en⟩ := F_num c ns h (i := idx + 10 + 5 * (k : Int) + (j : Int)) (by omega) (by omega)
      have hb := emod_lt' n hm0
      refine ⟨n % m, ?_, by omega⟩
      simp only [mkF, startD, ap_Seq, back_ret, ap_Set, ap_SetF, ap_Call, ap_CB, ap_Cons, ap_Nil, ap_2, ap_C, ap_V, ap_VB, ap_Tup, ap_Lst, ap_If, ap_Not, ap_Nx, ap_Exp, ap_Par, ap_ParF, ap_Wh, ap_For, ap_IfS, ap_bN, ap_bT, ap_bC, ap_b0, ix0, ix1, gAdd_eq, gSub_eq, List.map_cons, List.map_nil, List.length_cons, List.length_nil, List.cons_append, List.nil_append, List.replicate, List.getElem?_cons_zero, List.getElem?_cons_succ, List.set_cons_zero, List.set_cons_succ, bind_s, Option.map_some, if_true, Nat.reduceAdd, Nat.reduceSub, Nat.reduceLeDiff, reduceIte, gInt_eq, mMul_eq s5 sk, en, mMod_eq hm0])
    rw [rngD_length] at hll
    have elc : eLc (iR1 (eV 2)) [6] (bN 6) (eC (.bl true)) (DL.e2 gModI (eCB gInt (aCons (eCall 2 (F_u_law_number c) (aCons (eV 0) (aCons (DL.e2 gAddI (DL.e2 gAddI (DL.e2 gAddI (eVB 1) (eC (.int 10))) (DL.e2 gMulI (eC (.int 5)) (eVB 7))) (eVB 6)) aNil))) aNil)) (eVB 8))
      [some (false, .scr ns), some (false, .int idx), some (false, .int many), N, s4, some (true, .lst (acc.map wkD)), s6, some (false, .int k), some (false, .int m), s9] = some (.lst (l.map .int)) := by
      have hi : iR1 (eV 2) [some (false, .scr ns), some (false, .int idx), some (false, .int many), N, s4, some (true, .lst (acc.map wkD)), s6, some (false, .int k), some (false, .int m), s9] = some (rngD 0 many) := by
        simp only [ap_iR1, mkF, startD, ap_Seq, back_ret, ap_Set, ap_SetF, ap_Call, ap_CB, ap_Cons, ap_Nil, ap_2, ap_C, ap_V, ap_VB, ap_Tup, ap_Lst, ap_If, ap_Not, ap_Nx, ap_Exp, ap_Par, ap_ParF, ap_Wh, ap_For, ap_IfS, ap_bN, ap_bT, ap_bC, ap_b0, ix0, ix1, gAdd_eq, gSub_eq, List.map_cons, List.map_nil, List.length_cons, List.length_nil, List.cons_append, List.nil_append, List.replicate, List.getElem?_cons_zero, List.getElem?_cons_succ, List.set_cons_zero, List.set_cons_succ, bind_s, Option.map_some, if_true, Nat.reduceAdd, Nat.reduceSub, Nat.reduceLeDiff, reduceIte]
        rw [if_pos (by unfold rngOk; apply decide_eq_true; omega)]
      unfold eLc
      rw [hi]
      simp only [rngD_length]
      rw [if_pos (by omega)]
      have := el
      simp only [wipeD, List.set_cons_succ, List.set_cons_zero] at this ⊢
      rw [this]
      rfl
    have hb := emod_lt' ne (show (0 : Int) < 10 by decide)
    obtain ⟨l2, e2, hl2⟩ : ∃ l2 : List Int, eIf (DL.e2 gGt (eCB gSum (aCons (eVB 9) aNil)) (eC (.int 0))) (eV 9) (DL.e2 gRep (eLst (aCons (eC (.int 1)) aNil)) (eVB 2)) [some (false, .scr ns), some (false, .int idx), some (false, .int many), N, s4, some (true, .lst (acc.map wkD)), s6, some (false, .int k), some (false, .int m), some (false, .lst (l.map .int))] = some (.lst (l2.map .int)) ∧ WkOk many (ne % 10, l2) := by
      by_cases hs : 0 < l.sum
      · refine ⟨l, ?_, ⟨hb.1, by show ne % 10 ≤ 9; omega, by show l.length = many; omega, hlp, hs⟩⟩
        simp only [mkF, startD, ap_Seq, back_ret, ap_Set, ap_SetF, ap_Call, ap_CB, ap_Cons, ap_Nil, ap_2, ap_C, ap_V, ap_VB, ap_Tup, ap_Lst, ap_If, ap_Not, ap_Nx, ap_Exp, ap_Par, ap_ParF, ap_Wh, ap_For, ap_IfS, ap_bN, ap_bT, ap_bC, ap_b0, ix0, ix1, gAdd_eq, gSub_eq, List.map_cons, List.map_nil, List.length_cons, List.length_nil, List.cons_append, List.nil_append, List.replicate, List.getElem?_cons_zero, List.getElem?_cons_succ, List.set_cons_zero, List.set_cons_succ, bind_s, Option.map_some, if_true, Nat.reduceAdd, Nat.reduceSub, Nat.reduceLeDiff, reduceIte, gSum_lst, gGt_eq, decide_eq_true hs]
      · refine ⟨List.replicate many 1, ?_, ⟨hb.1, by show ne % 10 ≤ 9; omega, List.length_replicate, fun x hx => by rw [List.eq_of_mem_replicate hx]; decide, by show 0 < (List.replicate many (1 : Int)).sum; rw [ones_sum]; omega⟩⟩
        have er : gRep (.lst [.int 1]) (.int many) = some (.lst ((List.replicate many (1 : Int)).map .int)) := by
          show (if decide (-1000 ≤ (many : Int) ∧ (many : Int) ≤ 1000) && decide ([D.int 1].length ≤ 1000) then some (D.lst (List.replicate (many : Int).toNat [D.int 1]).flatten) else none) = _
          rw [decide_eq_true (show -1000 ≤ (many : Int) ∧ (many : Int) ≤ 1000 by omega), ← rep_ones]
          rfl
        simp only [mkF, startD, ap_Seq, back_ret, ap_Set, ap_SetF, ap_Call, ap_CB, ap_Cons, ap_Nil, ap_2, ap_C, ap_V, ap_VB, ap_Tup, ap_Lst, ap_If, ap_Not, ap_Nx, ap_Exp, ap_Par, ap_ParF, ap_Wh, ap_For, ap_IfS, ap_bN, ap_bT, ap_bC, ap_b0, ix0, ix1, gAdd_eq, gSub_eq, List.map_cons, List.map_nil, List.length_cons, List.length_nil, List.cons_append, List.nil_append, List.replicate, List.getElem?_cons_zero, List.getElem?_cons_succ, List.set_cons_zero, List.set_cons_succ, bind_s, Option.map_some, if_true, Nat.reduceAdd, Nat.reduceSub, Nat.reduceLeDiff, reduceIte, gSum_lst, gGt_eq, decide_eq_false hs, er]
    obtain ⟨acc', a6, a7, a8, a9, e, hl', ha'⟩ := works_loop i0 i1 m2 m4 N s4 ks (acc ++ [(ne % 10, l2)]) s6 (some (false, .int k)) (some (false, .int m)) (some (false, .lst (l2.map .int))) (fun x hx => hk x (List.mem_cons_of_mem _ hx)) (by simp; omega) (fun x hx => by
      rcases List.mem_append.mp hx with q | q
      · exact ha x q
      · rw [List.mem_singleton] at q; subst q; exact hl2)
    refine ⟨acc', a6, a7, a8, a9, ?_, by simp at hl'; simp; omega, ha'⟩
    rw [List.map_cons (l := ks)]
    unfold forL
    rw [List.map_append] at e
    simp only [List.map_cons, List.map_nil] at e elc
    simp only [mkF, startD, ap_Seq, back_ret, ap_Set, ap_SetF, ap_Call, ap_CB, ap_Cons, ap_Nil, ap_2, ap_C, ap_V, ap_VB, ap_Tup, ap_Lst, ap_If, ap_Not, ap_Nx, ap_Exp, ap_Par, ap_ParF, ap_Wh, ap_For, ap_IfS, ap_bN, ap_bT, ap_bC, ap_b0, ix0, ix1, gAdd_eq, gSub_eq, List.map_cons, List.map_nil, List.length_cons, List.length_nil, List.cons_append, List.nil_append, List.replicate, List.getElem?_cons_zero, List.getElem?_cons_succ, List.set_cons_zero, List.set_cons_succ, bind_s, Option.map_some, if_true, Nat.reduceAdd, Nat.reduceSub, Nat.reduceLeDiff, reduceIte] at e2
    simp only [mkF, startD, ap_Seq, back_ret, ap_Set, ap_SetF, ap_Call, ap_CB, ap_Cons, ap_Nil, ap_2, ap_C, ap_V, ap_VB, ap_Tup, ap_Lst, ap_If, ap_Not, ap_Nx, ap_Exp, ap_Par, ap_ParF, ap_Wh, ap_For, ap_IfS, ap_bN, ap_bT, ap_bC, ap_b0, ix0, ix1, gAdd_eq, gSub_eq, List.map_cons, List.map_nil, List.length_cons, List.length_nil, List.cons_append, List.nil_append, List.replicate, List.getElem?_cons_zero, List.getElem?_cons_succ, List.set_cons_zero, List.set_cons_succ, bind_s, Option.map_some, if_true, Nat.reduceAdd, Nat.reduceSub, Nat.reduceLeDiff, reduceIte, gInt_eq, en8, mMod_eq (show (0 : Int) < 2 by decide), em, elc, e2, ene, mMod_eq (show (0 : Int) < 10 by decide), gTup_lst, ap_App, List.length_map, if_pos (show acc.length < 1000 by omega)]
    simp only [wkD, List.map_cons, List.map_nil] at e ⊢
    exact e
end
--PART7
end K01

set_option maxHeartbeats 1000000
namespace K01
open PySem PySem.Spec PyProof.Rows L2 DL
theorem rng_nat (n : Nat) : rngD 0 n = (List.range n).map fun k => D.int (k : Nat) := by
  unfold rngD
  rw [show ((n : Int) - 0).toNat = n by omega]
  apply List.map_congr_left
  intro j _
  show D.int (0 + (j : Int)) = _
  rw [Int.zero_add]
theorem iR1_nat {f : DE1} {ρ : DEnv} {n : Nat} (h : f ρ = some (.int n)) (l : n ≤ 1000) : iR1 f ρ = some ((List.range n).map fun k => D.int (k : Nat)) := by
  rw [ap_iR1, h]
  simp only
  rw [if_pos (by unfold rngOk; apply decide_eq_true; omega), rng_nat]
section
variable (c : Addr) (ns : List Int) (h : ns.length ≤ 63)
include h
theorem F_job_ex {idx : Int} (i0 : 0 ≤ idx) (i1 : idx ≤ 1000) : ∃ ws wk, Valid ws wk ∧ F_u_law_job c [.scr ns, .int idx] = some (packD ws wk) := by
  obtain ⟨n1, e1⟩ := F_num c ns h (i := idx) i0 (by omega)
  obtain ⟨n2, e2⟩ := F_num c ns h (i := idx + 1) (by omega) (by omega)
  have b1 := emod_lt' n1 (show (0 : Int) < 3 by decide)
  have b2 := emod_lt' n2 (show (0 : Int) < 3 by decide)
  obtain ⟨m, hm⟩ : ∃ m : Nat, 2 + n1 % 3 = (m : Int) := ⟨(2 + n1 % 3).toNat, by omega⟩
  obtain ⟨k, hk⟩ : ∃ k : Nat, 2 + n2 % 3 = (k : Int) := ⟨(2 + n2 % 3).toNat, by omega⟩
  obtain ⟨ws, s6, ew, lw, hw⟩ := worths_loop c ns h i0 i1 (some (false, .int m)) (some (false, .int k)) (some (true, .lst [])) none none none (List.range m) [] none (fun x hx => by rw [List.mem_range] at hx; omega) (by simp; omega) (fun x hx => by cases hx)
  obtain ⟨wk, a6, a7, a8, a9, ek, lk, hkk⟩ := works_loop c ns h i0 i1 (many := m) (by omega) (by omega) (some (false, .int k)) (some (true, .lst (ws.map .int))) (List.range k) [] s6 none none none (fun x hx => by rw [List.mem_range] at hx; omega) (by simp; omega) (fun x hx => by cases hx)
  simp only [List.length_nil, List.length_range, Nat.zero_add] at lw lk
  refine ⟨ws, wk, ⟨by omega, by omega, hw, by omega, by omega, fun p hp => by rw [lw]; exact hkk p hp⟩, ?_⟩
  have r1 := iR1_nat (f := eV 2) (ρ := [some (false, .scr ns), some (false, .int idx), some (false, .int m), some (false, .int k), some (true, .lst []), some (true, .lst []), none, none, none, none]) (n := m) rfl (by omega)
  have r2 := iR1_nat (f := eV 3) (ρ := [some (false, .scr ns), some (false, .int idx), some (false, .int m), some (false, .int k), some (true, .lst (ws.map .int)), some (true, .lst []), s6, none, none, none]) (n := k) rfl (by omega)
  simp only [List.map_nil] at ew ek
  simp only [List.map_cons, List.map_nil] at ek
  simp only [F_u_law_job, g_u_law_job, mkF, startD, ap_Seq, back_ret, ap_Set, ap_SetF, ap_Call, ap_CB, ap_Cons, ap_Nil, ap_2, ap_C, ap_V, ap_VB, ap_Tup, ap_Lst, ap_If, ap_Not, ap_Nx, ap_Exp, ap_Par, ap_ParF, ap_Wh, ap_For, ap_IfS, ap_bN, ap_bT, ap_bC, ap_b0, ix0, ix1, gAdd_eq, gSub_eq, List.map_cons, List.map_nil, List.length_cons, List.length_nil, List.cons_append, List.nil_append, List.replicate, List.getElem?_cons_zero, List.getElem?_cons_succ, List.set_cons_zero, List.set_cons_succ, bind_s, Option.map_some, if_true, Nat.reduceAdd, Nat.reduceSub, Nat.reduceLeDiff, reduceIte, gInt_eq, e1, e2, mMod_eq (show (0 : Int) < 3 by decide), hm, hk, r1, ew, r2, ek, gTup_lst]
  rfl
theorem pick4 (n : Int) : ∃ m : Int, (0 < m ∧ m ≤ 900) ∧ gIx (.tup [.int 1, .int 4, .int 30, .int 900]) (.int (n % 4)) = some (.int m) := by
  have := emod_lt' n (show (0 : Int) < 4 by decide)
  rcases (show n % 4 = 0 ∨ n % 4 = 1 ∨ n % 4 = 2 ∨ n % 4 = 3 by omega) with e | e | e | e
  · exact ⟨1, by decide, by rw [e]; rfl⟩
  · exact ⟨4, by decide, by rw [e]; rfl⟩
  · exact ⟨30, by decide, by rw [e]; rfl⟩
  · exact ⟨900, by decide, by rw [e]; rfl⟩
theorem pick3 (n : Int) : ∃ m : Int, (0 < m ∧ m ≤ 40) ∧ gIx (.tup [.int 1, .int 5, .int 40]) (.int (n % 3)) = some (.int m) := by
  have := emod_lt' n (show (0 : Int) < 3 by decide)
  rcases (show n % 3 = 0 ∨ n % 3 = 1 ∨ n % 3 = 2 by omega) with e | e | e
  · exact ⟨1, by decide, by rw [e]; rfl⟩
  · exact ⟨5, by decide, by rw [e]; rfl⟩
  · exact ⟨40, by decide, by rw [e]; rfl⟩
theorem pay_loop {idx : Int} (i0 : 0 ≤ idx) (i1 : idx ≤ 1000) (M : DL.Slot) : ∀ (ks : List Nat) (acc : List Qp) (s4 s5 s6 s7 : DL.Slot), (∀ k ∈ ks, k ≤ 10) → acc.length + ks.length ≤ 10 → (∀ p ∈ acc, Ok 10 p ∧ 0 ≤ p.1) →
    ∃ (acc' : List Qp) (s4' s5' s6' s7' : DL.Slot), forL (bN 4)
  (gSeq (gSet 5 (eCall 2 (F_u_law_number c) (aCons (eV 0) (aCons (DL.e2 gAddI (eVB 1) (eVB 4)) aNil))))
  (gSeq (gPar 6 7 (aCons (DL.e2 gIx (eTup (aCons (eC (.int 1)) (aCons (eC (.int 4)) (aCons (eC (.int 30)) (aCons (eC (.int 900)) aNil))))) (DL.e2 gModI (eCB gInt (aCons (DL.e2 gDivI (eVB 5) (eC (.int 7))) aNil)) (eC (.int 4)))) (aCons (DL.e2 gIx (eTup (aCons (eC (.int 1)) (aCons (eC (.int 5)) (aCons (eC (.int 40)) aNil)))) (DL.e2 gModI (eCB gInt (aCons (DL.e2 gDivI (eVB 5) (eC (.int 90))) aNil)) (eC (.int 3)))) aNil)))
  (gApp 3 (eCall 2 (F_u_law_lowest c) (aCons (DL.e2 gModI (eCB gInt (aCons (eVB 5) aNil)) (eVB 6)) (aCons (DL.e2 gAddI (eC (.int 1)) (DL.e2 gModI (eCB gInt (aCons (DL.e2 gDivI (eVB 5) (eC (.int 50))) aNil)) (eVB 7))) aNil))))))
      (ks.map fun k => D.int (k : Nat)) [some (false, .scr ns), some (false, .int idx), M, some (true, .lst (acc.map qd)), s4, s5, s6, s7]
      = .nx [some (false, .scr ns), some (false, .int idx), M, some (true, .lst (acc'.map qd)), s4', s5', s6', s7'] ∧ acc'.length = acc.length + ks.length ∧ ∀ p ∈ acc', Ok 10 p ∧ 0 ≤ p.1
  | [], acc, s4, s5, s6, s7, _, _, ha => ⟨acc, s4, s5, s6, s7, rfl, rfl, ha⟩
  | k :: ks, acc, s4, s5, s6, s7, hk, hl, ha => by
    have k10 := hk k List.mem_cons_self
    rw [List.length_cons] at hl
    obtain ⟨n, en⟩ := F_num c ns h (i := idx + (k : Int)) (by omega) (by omega)
    obtain ⟨t, ht, et⟩ := pick4 ns h (n / 7)
    obtain ⟨b, hb, eb⟩ := pick3 ns h (n / 90)
    have d7 : sz 7 = true := by decide
    have d90 : sz 90 = true := by decide
    have d50 : sz 50 = true := by decide
    have x1 := emod_lt' n ht.1
    have x2 := emod_lt' (n / 50) hb.1
    have hbot : (0 : Int) < 1 + n / 50 % b := by omega
    have el := F_lowest_eq c (t := n % t) (b := 1 + n / 50 % b) hbot (sz_of (n := 10) (by omega) (by omega))
    have hq : Ok 10 (low (n % t) (1 + n / 50 % b)) ∧ 0 ≤ (low (n % t) (1 + n / 50 % b)).1 := ⟨low_ok hbot (by omega) (by omega), by
      show 0 ≤ n % t / _
      exact Int.ediv_nonneg x1.1 (by omega)⟩
    obtain ⟨acc', a4, a5, a6, a7, e, hl', ha'⟩ := pay_loop i0 i1 M ks (acc ++ [low (n % t) (1 + n / 50 % b)]) (some (false, .int k)) (some (false, .int n)) (some (false, .int t)) (some (false, .int b)) (fun x hx => hk x (List.mem_cons_of_mem _ hx)) (by simp; omega) (fun x hx => by
      rcases List.mem_append.mp hx with q | q
      · exact ha x q
      · rw [List.mem_singleton] at q; subst q; exact hq)
    refine ⟨acc', a4, a5, a6, a7, ?_, by simp at hl'; simp; omega, ha'⟩
    rw [List.map_cons (l := ks)]
    unfold forL
    rw [List.map_append] at e
    simp only [mkF, startD, ap_Seq, back_ret, ap_Set, ap_SetF, ap_Call, ap_CB, ap_Cons, ap_Nil, ap_2, ap_C, ap_V, ap_VB, ap_Tup, ap_Lst, ap_If, ap_Not, ap_Nx, ap_Exp, ap_Par, ap_ParF, ap_Wh, ap_For, ap_IfS, ap_bN, ap_bT, ap_bC, ap_b0, ix0, ix1, gAdd_eq, gSub_eq, List.map_cons, List.map_nil, List.length_cons, List.length_nil, List.cons_append, List.nil_append, List.replicate, List.getElem?_cons_zero, List.getElem?_cons_succ, List.set_cons_zero, List.set_cons_succ, bind_s, Option.map_some, if_true, Nat.reduceAdd, Nat.reduceSub, Nat.reduceLeDiff, reduceIte, ap_App, en, gInt_eq, mDiv_eq (show (0 : Int) < 7 by decide) d7, mDiv_eq (show (0 : Int) < 90 by decide) d90, mDiv_eq (show (0 : Int) < 50 by decide) d50, mMod_eq (show (0 : Int) < 4 by decide), mMod_eq (show (0 : Int) < 3 by decide), et, eb, mMod_eq ht.1, mMod_eq hb.1, el, List.length_map, if_pos (show acc.length < 1000 by omega)] at e ⊢
    exact e
theorem F_pay_ex {idx : Int} (i0 : 0 ≤ idx) (i1 : idx ≤ 1000) {m : Nat} (hm : m ≤ 4) : ∃ as, PayOk m as ∧ F_u_law_pay c [.scr ns, .int idx, .int m] = some (payD as) := by
  obtain ⟨as, s4, s5, s6, s7, e, l, ha⟩ := pay_loop c ns h i0 i1 (some (false, .int m)) (List.range m) [] none none none none (fun x hx => by rw [List.mem_range] at hx; omega) (by simp; omega) (fun x hx => by cases hx)
  simp only [List.length_nil, List.length_range, Nat.zero_add] at l
  refine ⟨as, ⟨l, fun p hp => (ha p hp).1, fun p hp => (ha p hp).2⟩, ?_⟩
  have r1 := iR1_nat (f := eV 2) (ρ := [some (false, .scr ns), some (false, .int idx), some (false, .int m), some (true, .lst []), none, none, none, none]) (n := m) rfl (by omega)
  simp only [List.map_nil] at e
  simp only [F_u_law_pay, g_u_law_pay, mkF, startD, ap_Seq, back_ret, ap_Set, ap_SetF, ap_Call, ap_CB, ap_Cons, ap_Nil, ap_2, ap_C, ap_V, ap_VB, ap_Tup, ap_Lst, ap_If, ap_Not, ap_Nx, ap_Exp, ap_Par, ap_ParF, ap_Wh, ap_For, ap_IfS, ap_bN, ap_bT, ap_bC, ap_b0, ix0, ix1, gAdd_eq, gSub_eq, List.map_cons, List.map_nil, List.length_cons, List.length_nil, List.cons_append, List.nil_append, List.replicate, List.getElem?_cons_zero, List.getElem?_cons_succ, List.set_cons_zero, List.set_cons_succ, bind_s, Option.map_some, if_true, Nat.reduceAdd, Nat.reduceSub, Nat.reduceLeDiff, reduceIte, r1, e, gTup_lst]
  rfl
end
--PART8
end K01

set_option maxHeartbeats 1000000
namespace K01
open PySem PySem.Spec PyProof.Rows L2 DL
/-! ### the law's answers -/
/-- nothing but None, ints, tuples of ints, and tuples of these -/
inductive Smp : Nat → D → Prop
  | non {n : Nat} : Smp n .non
  | int {n : Nat} (i : Int) : Smp n (.int i)
  | tup {n : Nat} {l : List D} (h : ∀ d ∈ l, Smp n d) : Smp (n + 1) (.tup l)
  | lst {n : Nat} {l : List D} (h : ∀ d ∈ l, Smp n d) : Smp (n + 1) (.lst l)
theorem Smps.py {n : Nat} (ih : ∀ d, Smp n d → ∃ p, toPy d = some p ∧ p.canLay0 = true ∧ p.depth ≤ n) : ∀ l : List D, (∀ d ∈ l, Smp n d) → ∃ ps, toPys l = some ps ∧ PyData.canLayAll0 ps = true ∧ PyData.depthAll ps ≤ n
  | [], _ => ⟨[], rfl, rfl, Nat.zero_le _⟩
  | d :: l, h => by
    obtain ⟨p, e1, c1, d1⟩ := ih d (h d List.mem_cons_self)
    obtain ⟨ps, e2, c2, d2⟩ := Smps.py ih l fun x hx => h x (List.mem_cons_of_mem _ hx)
    refine ⟨p :: ps, ?_, ?_, ?_⟩
    · simp only [toPys, e1, e2, bind_s, Option.map_some]
    · show (p.canLay0 && PyData.canLayAll0 ps) = true
      rw [c1, c2]; rfl
    · show max p.depth (PyData.depthAll ps) ≤ n
      omega
theorem Smp.py : ∀ (n : Nat) (d : D), Smp n d → ∃ p, toPy d = some p ∧ p.canLay0 = true ∧ p.depth ≤ n
  | n, _, .non => ⟨.none, rfl, rfl, Nat.zero_le _⟩
  | n, _, .int i => ⟨.int i, rfl, rfl, Nat.zero_le _⟩
  | n + 1, _, .tup h => by
    obtain ⟨ps, e, c, d⟩ := Smps.py (Smp.py n) _ h
    exact ⟨.tuple ps, by simp only [toPy, e, Option.map_some], c, Nat.succ_le_succ d⟩
  | n + 1, _, .lst h => by
    obtain ⟨ps, e, c, d⟩ := Smps.py (Smp.py n) _ h
    exact ⟨.list ps, by simp only [toPy, e, Option.map_some], c, Nat.succ_le_succ d⟩
theorem eqD_self {n : Nat} {d : D} (h : Smp n d) (l : n ≤ 60) (b : Bool) : eqD b d d = some (.bl (!b)) := by
  obtain ⟨p, e, c, dp⟩ := h.py
  have hs : SeqAt.shaped p = true := by
    unfold SeqAt.shaped
    rw [c, decide_eq_true (show p.depth ≤ 64 by omega)]; rfl
  have hr := SeqAt.eqv_refl p c
  unfold eqD
  rw [e]
  simp only [bind_s, hs, hr, Bool.and_self, if_true]
  cases b <;> rfl
theorem smp_ws (ws : List Int) : Smp 1 (wsD ws) := .tup fun d hd => by
  obtain ⟨x, _, rfl⟩ := List.mem_map.mp hd
  exact .int x
theorem smp_wk (p : Int × List Int) : Smp 2 (wkD p) := .tup fun d hd => by
  simp only [List.mem_cons, List.not_mem_nil, or_false] at hd
  rcases hd with rfl | rfl
  · exact .int _
  · exact smp_ws p.2
theorem smp_wks (wk : List (Int × List Int)) : Smp 3 (wksD wk) := .tup fun d hd => by
  obtain ⟨x, _, rfl⟩ := List.mem_map.mp hd
  exact smp_wk x
theorem compL_prs {α : Type} {b : D → DEnv → Option DEnv} {f : DE1} {ρ : DEnv} {u v : α → D} : ∀ zs : List α, (∀ z ∈ zs, (b (u z) ρ).bind f = some (v z)) → compL b (eC (.bl true)) f ρ (zs.map u) = some (zs.map v)
  | [], _ => rfl
  | z :: zs, H => by
    have h1 := H z List.mem_cons_self
    have ih := compL_prs zs fun x hx => H x (List.mem_cons_of_mem _ hx)
    rw [List.map_cons]
    unfold compL
    cases e : b (u z) ρ with
    | none => rw [e] at h1; cases h1
    | some ρ1 =>
      rw [e] at h1
      have h1 : f ρ1 = some (v z) := h1
      simp only [eC, h1, ih, Option.map_some, List.map_cons]
theorem eLc_prs {α : Type} {it : DEnv → Option (List D)} {vs : List Nat} {b : D → DEnv → Option DEnv} {f : DE1} {ρ : DEnv} {u v : α → D} (zs : List α) (hi : it ρ = some (zs.map u)) (hl : zs.length ≤ 1000) (H : ∀ z ∈ zs, (b (u z) (wipeD ρ vs)).bind f = some (v z)) :
    eLc it vs b (eC (.bl true)) f ρ = some (.lst (zs.map v)) := by
  unfold eLc
  rw [hi]
  simp only [List.length_map, hl, if_true, compL_prs zs H, Option.map_some]
theorem eLc_fil {α : Type} {it : DEnv → Option (List D)} {vs : List Nat} {b : D → DEnv → Option DEnv} {t f : DE1} {ρ : DEnv} {u v : α → D} {p : α → Bool} (zs : List α) (hi : it ρ = some (zs.map u)) (hl : zs.length ≤ 1000) (H : ∀ z ∈ zs, ∃ ρ1, b (u z) (wipeD ρ vs) = some ρ1 ∧ t ρ1 = some (.bl (p z)) ∧ f ρ1 = some (v z)) :
    eLc it vs b t f ρ = some (.lst ((zs.filter p).map v)) := by
  unfold eLc
  rw [hi]
  simp only [List.length_map, hl, if_true, compL_fil zs H, Option.map_some]
theorem gAny_map {α : Type} (l : List α) (p : α → Bool) : gAny [.lst (l.map fun x => D.bl (p x))] = some (.bl (l.any p)) := by
  have e : (l.map fun x => D.bl (p x)) = (l.map p).map D.bl := by rw [List.map_map]; rfl
  show (blsOf _).map _ = _
  rw [e, blsOf_map]
  show some (D.bl ((l.map p).any id)) = _
  rw [List.any_map]
  rfl
theorem zip_prs {α : Type} (u v : α → D) : ∀ l : List α, zipD (l.map u) (l.map v) = l.map fun x => .tup [u x, v x]
  | [] => rfl
  | x :: l => by rw [List.map_cons, List.map_cons, List.map_cons, ← zip_prs u v l]; rfl
theorem gCat_eq {x y : List D} (h : x.length + y.length ≤ 1000) : gCat (.lst x) (.lst y) = some (.lst (x ++ y)) := by
  show (if x.length + y.length ≤ 1000 then _ else _) = _
  rw [if_pos h]
section
variable (c : Addr) {ws : List Int} {wk : List (Int × List Int)} (V : Valid ws wk) {as : List Qp} (ha : PayOk ws.length as)
include V ha
theorem right_loop : ∀ (zs : List ((Int × List Int) × Nat)) (s5 s6 s7 s8 s9 : DL.Slot), (∀ z ∈ zs, wk[z.2]? = some z.1) →
    ∃ s5' s6' : DL.Slot, forL (bN 5)
  (gSeq (gIf (DL.e2 (eqD true) (eCall 3 (F_gain c) (aCons (eV 2) (aCons (eV 5) (aCons (eV 1) aNil)))) (DL.e2 gIx (eVB 4) (DL.e2 gAddI (eVB 5) (eC (.int 1))))) (gRet (eC (.bl false))) gNx)
  (gSeq (gSet 6 (eCall 2 (F_u_law_sum c) (aCons (DL.e2 gIx (eVB 4) (DL.e2 gAddI (eVB 5) (eC (.int 1)))) (aCons (eTup (aCons (DL.e2 gIx (DL.e2 gIx (DL.e2 gIx (eVB 0) (eC (.int 1))) (eVB 5)) (eC (.int 0))) (aCons (eC (.int 1)) aNil))) aNil))))
  (gIf (DL.e2 (eqD true) (eCall 3 (F_profit c) (aCons (eV 2) (aCons (eV 5) (aCons (eV 1) aNil)))) (eCall 2 (F_u_law_less c) (aCons (eCall 2 (F_u_law_worth c) (aCons (eV 0) (aCons (eV 5) aNil))) (aCons (eV 6) aNil)))) (gRet (eC (.bl false))) gNx)))
      (zs.map fun z => D.int (z.2 : Nat)) [some (false, packD ws wk), some (false, payD as), some (false, jobD c ws wk), some (false, .lst ((allG as wk).map (·.1))), some (false, .lst ((allG as wk).map fun x => qd x.2)), s5, s6, s7, s8, s9]
      = .nx [some (false, packD ws wk), some (false, payD as), some (false, jobD c ws wk), some (false, .lst ((allG as wk).map (·.1))), some (false, .lst ((allG as wk).map fun x => qd x.2)), s5', s6', s7, s8, s9]
  | [], s5, s6, s7, s8, s9, _ => ⟨s5, s6, rfl⟩
  | (p, i) :: zs, s5, s6, s7, s8, s9, H => by
    have hp : wk[i]? = some p := H (p, i) List.mem_cons_self
    have hm := List.mem_of_getElem? hp
    have hk := V.k p hm
    have eg : F_gain c [jobD c ws wk, .int (i : Nat), payD as] = some (qd (gnQ as p)) := F_gain_eq c V hp ha
    have hz : (wk.zipIdx 0)[i]? = some (p, i) := by rw [List.getElem?_zipIdx, hp]; simp
    have hg : (allG as wk)[i + 1]? = some (D.int (i : Nat), gnQ as p) := by
      unfold allG
      rw [List.getElem?_cons_succ, List.getElem?_map, hz]
      rfl
    have ex : gIx (.lst ((allG as wk).map fun x => qd x.2)) (.int ((i : Int) + 1)) = some (qd (gnQ as p)) := by
      have := ix_lst_map (f := fun x : D × Qp => qd x.2) hg
      exact this
    have hgo := gnQ_ok V ha hm
    have ho := one1_ok hk.e0 (show p.1 ≤ 20 by have := hk.e1; omega)
    have hav := avQ_ok hk V.l2 ha.ok
    have hw : ∀ q ∈ ws.map one1, Ok 10 q := fun q hq => by
      obtain ⟨x, hx, rfl⟩ := List.mem_map.mp hq
      exact one1_ok (V.w x hx).1 (V.w x hx).2
    have hawo := avQ_ok hk V.l2 hw
    have es : F_u_law_sum c [qd (gnQ as p), qd (one1 p.1)] = some (qd (avQ p as)) := by
      rw [F_lsum_eq c hgo ho (by omega)]
      unfold gnQ
      rw [sub_add hav ho]
    have eW : gIx (wksD wk) (.int (i : Nat)) = some (wkD p) := ix_tup_map hp
    have eo : (D.tup [.int p.1, .int 1]) = qd (one1 p.1) := rfl
    have epr := F_profit_eq c V hp ha
    have elw := F_lworth c V hp
    have ell := F_lless_eq c hawo hav (by omega)
    have n1 : eqD true (qd (gnQ as p)) (qd (gnQ as p)) = some (.bl false) := by rw [neD_qd, decide_eq_true rfl]; rfl
    have n2 : ∀ q : Qp, eqD true (qd q) (qd q) = some (.bl false) := fun q => by rw [neD_qd, decide_eq_true rfl]; rfl
    obtain ⟨s5', s6', e⟩ := right_loop zs (some (false, .int i)) (some (false, qd (avQ p as))) s7 s8 s9 fun x hx => H x (List.mem_cons_of_mem _ hx)
    refine ⟨s5', s6', ?_⟩
    rw [List.map_cons (l := zs)]
    unfold forL
    simp only [mkF, startD, ap_Seq, back_ret, ap_Set, ap_SetF, ap_Call, ap_CB, ap_Cons, ap_Nil, ap_2, ap_C, ap_V, ap_VB, ap_Tup, ap_Lst, ap_If, ap_Not, ap_Nx, ap_Exp, ap_Par, ap_ParF, ap_Wh, ap_For, ap_IfS, ap_bN, ap_bT, ap_bC, ap_b0, ix0, ix1, gAdd_eq, gSub_eq, List.map_cons, List.map_nil, List.length_cons, List.length_nil, List.cons_append, List.nil_append, List.replicate, List.getElem?_cons_zero, List.getElem?_cons_succ, List.set_cons_zero, List.set_cons_succ, bind_s, Option.map_some, if_true, Nat.reduceAdd, Nat.reduceSub, Nat.reduceLeDiff, reduceIte, eg, ex, n1, ix_pk1, eW, ix_wk0, eo, es, epr, elw, ell, n2, e]
theorem F_right : F_u_law_pay_right c [packD ws wk, payD as] = some (.bl true) := by
  have hk2 := V.k2
  have hlen : (allG as wk).length ≤ 5 := by unfold allG; rw [List.length_cons, List.length_map, List.length_zipIdx]; omega
  have e1 := make_eq c V (fs := aCons (DL.e2 gIx (eVB 0) (eC (.int 0))) (aCons (DL.e2 gIx (eVB 0) (eC (.int 1))) aNil)) (ρ := [some (false, packD ws wk), some (false, payD as), none, none, none, none, none, none, none, none]) rfl
  have el : gLen [wksD wk] = some (.int wk.length) := by unfold wksD; rw [gLen_tup, List.length_map]
  have ez : (wk.zipIdx 0).map (fun x => D.int (x.2 : Nat)) = (List.range wk.length).map fun k => D.int (k : Nat) := by
    have : (wk.zipIdx 0).map (fun x => D.int (x.2 : Nat)) = ((wk.zipIdx 0).map (·.2)).map fun k => D.int (k : Nat) := by rw [List.map_map]; rfl
    rw [this, List.zipIdx_map_snd]
    rw [List.range_eq_range']
  have eG1 : (allG as wk).map (·.1) = .non :: (List.range wk.length).map fun k => D.int (k : Nat) := by
    unfold allG
    rw [List.map_cons, List.map_map, ← ez]
    rfl
  have elr : eLr (eCB gLen (aCons (DL.e2 gIx (eVB 0) (eC (.int 1))) aNil)) [some (false, packD ws wk), some (false, payD as), none, none, none, none, none, none, none, none] = some (.lst ((List.range wk.length).map fun k => D.int (k : Nat))) := by
    unfold eLr
    simp only [mkF, startD, ap_Seq, back_ret, ap_Set, ap_SetF, ap_Call, ap_CB, ap_Cons, ap_Nil, ap_2, ap_C, ap_V, ap_VB, ap_Tup, ap_Lst, ap_If, ap_Not, ap_Nx, ap_Exp, ap_Par, ap_ParF, ap_Wh, ap_For, ap_IfS, ap_bN, ap_bT, ap_bC, ap_b0, ix0, ix1, gAdd_eq, gSub_eq, List.map_cons, List.map_nil, List.length_cons, List.length_nil, List.cons_append, List.nil_append, List.replicate, List.getElem?_cons_zero, List.getElem?_cons_succ, List.set_cons_zero, List.set_cons_succ, bind_s, Option.map_some, if_true, Nat.reduceAdd, Nat.reduceSub, Nat.reduceLeDiff, reduceIte, ix_pk1, el]
    rw [if_pos (by unfold rngOk; apply decide_eq_true; omega), rng_nat]
  have ecat : gCat (.lst [.non]) (.lst ((List.range wk.length).map fun k => D.int (k : Nat))) = some (.lst ((allG as wk).map (·.1))) := by
    rw [gCat_eq (by simp; omega), eG1]
    rfl
  have eg : eLc (iL (eV 3)) [5] (bN 5) (eC (.bl true)) (eCall 3 (F_u_law_gain c) (aCons (eV 0) (aCons (eV 5) (aCons (eV 1) aNil)))) [some (false, packD ws wk), some (false, payD as), some (false, jobD c ws wk), some (false, .lst ((allG as wk).map (·.1))), none, none, none, none, none, none] = some (.lst ((allG as wk).map fun x => qd x.2)) := by
    refine eLc_prs (allG as wk) rfl (by omega) fun z hz => ?_
    rcases List.mem_cons.mp hz with q | q
    · subst q
      simp only [wipeD, mkF, startD, ap_Seq, back_ret, ap_Set, ap_SetF, ap_Call, ap_CB, ap_Cons, ap_Nil, ap_2, ap_C, ap_V, ap_VB, ap_Tup, ap_Lst, ap_If, ap_Not, ap_Nx, ap_Exp, ap_Par, ap_ParF, ap_Wh, ap_For, ap_IfS, ap_bN, ap_bT, ap_bC, ap_b0, ix0, ix1, gAdd_eq, gSub_eq, List.map_cons, List.map_nil, List.length_cons, List.length_nil, List.cons_append, List.nil_append, List.replicate, List.getElem?_cons_zero, List.getElem?_cons_succ, List.set_cons_zero, List.set_cons_succ, bind_s, Option.map_some, if_true, Nat.reduceAdd, Nat.reduceSub, Nat.reduceLeDiff, reduceIte, F_lgain0]
    · obtain ⟨⟨p, i⟩, hpi, rfl⟩ := List.mem_map.mp q
      have hp : wk[i]? = some p := List.mk_mem_zipIdx_iff_getElem?.mp hpi
      have := F_lgain c V hp ha
      simp only [wipeD, mkF, startD, ap_Seq, back_ret, ap_Set, ap_SetF, ap_Call, ap_CB, ap_Cons, ap_Nil, ap_2, ap_C, ap_V, ap_VB, ap_Tup, ap_Lst, ap_If, ap_Not, ap_Nx, ap_Exp, ap_Par, ap_ParF, ap_Wh, ap_For, ap_IfS, ap_bN, ap_bT, ap_bC, ap_b0, ix0, ix1, gAdd_eq, gSub_eq, List.map_cons, List.map_nil, List.length_cons, List.length_nil, List.cons_append, List.nil_append, List.replicate, List.getElem?_cons_zero, List.getElem?_cons_succ, List.set_cons_zero, List.set_cons_succ, bind_s, Option.map_some, if_true, Nat.reduceAdd, Nat.reduceSub, Nat.reduceLeDiff, reduceIte, this]
      rfl
  have esl : eSl (eVB 3) (oSome (eC (.int 1))) oNone [some (false, packD ws wk), some (false, payD as), some (false, jobD c ws wk), some (false, .lst ((allG as wk).map (·.1))), some (false, .lst ((allG as wk).map fun x => qd x.2)), none, none, none, none, none] = some (.lst ((wk.zipIdx 0).map fun x => D.int (x.2 : Nat))) := by
    show some (D.lst (DL.cutD ((allG as wk).map (·.1)) (some 1) none)) = _
    rw [eG1, ez]
    unfold DL.cutD
    rw [HT.sIx_none, show HT.sIx (D.non :: (List.range wk.length).map fun k => D.int (k : Nat)).length 0 (some 1) = min 1 (D.non :: (List.range wk.length).map fun k => D.int (k : Nat)).length from HT.sIx_nat _ _ 1]
    rw [show min 1 (D.non :: (List.range wk.length).map fun k => D.int (k : Nat)).length = 1 by rw [List.length_cons]; omega]
    show some (D.lst (List.take _ ((List.range wk.length).map fun k => D.int (k : Nat)))) = _
    rw [List.take_of_length_le (by simp)]
  obtain ⟨s5, s6, elp⟩ := right_loop c V ha (wk.zipIdx 0) none none none none none (fun z hz => List.mk_mem_zipIdx_iff_getElem?.mp hz)
  have edue : ∀ s5 s6 : DL.Slot, eLc (iZX (eV 3) (eV 4)) [5, 8] (bT (bCons (bN 5) (bCons (bN 8) bNil))) (eNot (eCB gAny (aCons (eLc (iL (eV 4)) [9] (bN 9) (eC (.bl true)) (eCall 2 (F_u_law_below c) (aCons (eV 8) (aCons (eV 9) aNil)))) aNil))) (eV 5) [some (false, packD ws wk), some (false, payD as), some (false, jobD c ws wk), some (false, .lst ((allG as wk).map (·.1))), some (false, .lst ((allG as wk).map fun x => qd x.2)), s5, s6, none, none, none] = some (.lst (dueD (allG as wk))) := fun s5 s6 => by
    refine eLc_fil (u := fun x : D × Qp => .tup [x.1, qd x.2]) (v := fun x => x.1) (p := fun x => !(allG as wk).any fun y => qlt x.2 y.2) (allG as wk) ?_ (by omega) fun z hz => ?_
    · simp only [ap_iZX, mkF, startD, ap_Seq, back_ret, ap_Set, ap_SetF, ap_Call, ap_CB, ap_Cons, ap_Nil, ap_2, ap_C, ap_V, ap_VB, ap_Tup, ap_Lst, ap_If, ap_Not, ap_Nx, ap_Exp, ap_Par, ap_ParF, ap_Wh, ap_For, ap_IfS, ap_bN, ap_bT, ap_bC, ap_b0, ix0, ix1, gAdd_eq, gSub_eq, List.map_cons, List.map_nil, List.length_cons, List.length_nil, List.cons_append, List.nil_append, List.replicate, List.getElem?_cons_zero, List.getElem?_cons_succ, List.set_cons_zero, List.set_cons_succ, bind_s, Option.map_some, if_true, Nat.reduceAdd, Nat.reduceSub, Nat.reduceLeDiff, reduceIte]
      show some (zipD ((allG as wk).map (·.1)) ((allG as wk).map fun x => qd x.2)) = _
      rw [zip_prs]
    · have hzo := allG_ok V ha z hz
      refine ⟨_, rfl, ?_, rfl⟩
      have ein : ∀ ρ : DEnv, ρ[4]? = some (some (false, .lst ((allG as wk).map fun x => qd x.2))) → ρ[8]? = some (some (false, qd z.2)) → ρ.length = 10 → eLc (iL (eV 4)) [9] (bN 9) (eC (.bl true)) (eCall 2 (F_u_law_below c) (aCons (eV 8) (aCons (eV 9) aNil))) ρ = some (.lst ((allG as wk).map fun y => .bl (qlt z.2 y.2))) := fun ρ h4 h8 hl => by
        refine eLc_prs (u := fun y : D × Qp => qd y.2) (allG as wk) (by rw [ap_iL, ap_V, h4]) (by omega) fun y hy => ?_
        have hyo := allG_ok V ha y hy
        have hb := F_below_eq c hzo hyo (by omega)
        have g8 : ((wipeD ρ [9]).set 9 (some (false, qd y.2)))[8]? = some (some (false, qd z.2)) := by
          simp only [wipeD]
          rw [List.getElem?_set_ne (by decide), List.getElem?_set_ne (by decide), h8]
        have g9 : ((wipeD ρ [9]).set 9 (some (false, qd y.2)))[9]? = some (some (false, qd y.2)) := List.getElem?_set_self (by simp [wipeD, hl])
        simp only [ap_bN, bind_s, ap_Call, ap_Cons, ap_V, ap_Nil, g8, g9, Option.map_some, List.length_cons, List.length_nil, Nat.reduceAdd, if_true, hb]
      rw [ap_Not, ap_CB, ap_Cons, ein _ rfl rfl rfl]
      simp only [ap_Nil, bind_s, Option.map_some, gAny_map]
  have ew := F_wanted_eq c V ha
  have hsm : Smp 1 (.lst (dueD (allG as wk))) := .lst fun d hd => by
    unfold dueD at hd
    obtain ⟨x, hx, rfl⟩ := List.mem_map.mp hd
    have hx := (List.mem_filter.mp hx).1
    rcases List.mem_cons.mp hx with q | q
    · subst q; exact .non
    · obtain ⟨⟨p, i⟩, _, rfl⟩ := List.mem_map.mp q
      exact .int _
  have eqq := eqD_self hsm (by decide) false
  simp only [F_u_law_pay_right, g_u_law_pay_right, mkF, startD, ap_Seq, back_ret, ap_Set, ap_SetF, ap_Call, ap_CB, ap_Cons, ap_Nil, ap_2, ap_C, ap_V, ap_VB, ap_Tup, ap_Lst, ap_If, ap_Not, ap_Nx, ap_Exp, ap_Par, ap_ParF, ap_Wh, ap_For, ap_IfS, ap_bN, ap_bT, ap_bC, ap_b0, ix0, ix1, gAdd_eq, gSub_eq, List.map_cons, List.map_nil, List.length_cons, List.length_nil, List.cons_append, List.nil_append, List.replicate, List.getElem?_cons_zero, List.getElem?_cons_succ, List.set_cons_zero, List.set_cons_succ, bind_s, Option.map_some, if_true, Nat.reduceAdd, Nat.reduceSub, Nat.reduceLeDiff, reduceIte, e1, elr, ecat, eg, ap_iL, esl, elp, edue, ew, eqq]
  rfl
end
--PART9
end K01

set_option maxHeartbeats 1000000
namespace K01
open PySem PySem.Spec PyProof.Rows L2 DL
theorem gRepT_pay (p : Qp) {n : Nat} (h : 2 ≤ n) (l : n ≤ 4) : gRepT (.tup [qd p]) (.int n) = some (payD (List.replicate n p)) := by
  show (if decide ((2 : Int) ≤ n ∧ (n : Int) ≤ 1000) && decide (([] : List D).length ≤ 900) then some (D.tup (List.replicate (n : Int).toNat (qd p :: [])).flatten) else none) = _
  rw [decide_eq_true (show (2 : Int) ≤ n ∧ (n : Int) ≤ 1000 by omega)]
  have : ∀ k : Nat, (List.replicate k (qd p :: [])).flatten = (List.replicate k p).map qd := fun k => by
    induction k with
    | zero => rfl
    | succ k ih => rw [List.replicate_succ, List.flatten_cons, ih, List.replicate_succ, List.map_cons]; rfl
  show some (D.tup (List.replicate (n : Int).toNat (qd p :: [])).flatten) = _
  rw [Int.toNat_natCast, this]
  rfl
theorem flat_ok {p : Qp} (n : Nat) (h : Ok 10 p) (h0 : 0 ≤ p.1) : PayOk n (List.replicate n p) := ⟨List.length_replicate, fun q hq => by rw [List.eq_of_mem_replicate hq]; exact h, fun q hq => by rw [List.eq_of_mem_replicate hq]; exact h0⟩
section
variable (c : Addr) (ns : List Int) (h : ns.length ≤ 63)
include h
theorem turn_loop {num : Int} (n0 : 0 ≤ num) (n1 : num ≤ 5) {ws : List Int} {wk : List (Int × List Int)} (V : Valid ws wk) (s3 s6 : DL.Slot) : ∀ (ks : List Nat) (s4 s5 : DL.Slot), (∀ k ∈ ks, k ≤ 10) →
    ∃ s4' s5' : DL.Slot, forL (bN 4)
  (gSeq (gSet 5 (eCall 3 (F_u_law_pay c) (aCons (eV 0) (aCons (DL.e2 gAddI (DL.e2 gAddI (eC (.int 200)) (DL.e2 gMulI (eC (.int 20)) (eVB 1))) (DL.e2 gMulI (eC (.int 5)) (eVB 4))) (aCons (eCB gLen (aCons (DL.e2 gIx (eVB 2) (eC (.int 0))) aNil)) aNil)))))
  (gIf (eNot (eCall 2 (F_u_law_pay_right c) (aCons (eV 2) (aCons (eV 5) aNil)))) (gRet (eC (.bl false))) gNx)) (ks.map fun k => D.int (k : Nat)) [some (false, .scr ns), some (false, .int num), some (false, packD ws wk), s3, s4, s5, s6]
      = .nx [some (false, .scr ns), some (false, .int num), some (false, packD ws wk), s3, s4', s5', s6]
  | [], s4, s5, _ => ⟨s4, s5, rfl⟩
  | k :: ks, s4, s5, hk => by
    have k10 := hk k List.mem_cons_self
    have z1 : sz 20 = true := by decide
    have z2 : sz num = true := sz_of (n := 10) (by omega) (by omega)
    have z3 : sz 5 = true := by decide
    have z4 : sz (k : Int) = true := sz_of (n := 10) (by omega) (by omega)
    have el : gLen [wsD ws] = some (.int ws.length) := by unfold wsD; rw [gLen_tup, List.length_map]
    obtain ⟨as, ha, ep⟩ := F_pay_ex c ns h (idx := 200 + 20 * num + 5 * (k : Int)) (by omega) (by omega) V.l2
    have er := F_right c V ha
    obtain ⟨s4', s5', e⟩ := turn_loop n0 n1 V s3 s6 ks (some (false, .int k)) (some (false, payD as)) fun x hx => hk x (List.mem_cons_of_mem _ hx)
    refine ⟨s4', s5', ?_⟩
    rw [List.map_cons (l := ks)]
    unfold forL
    simp only [mkF, startD, ap_Seq, back_ret, ap_Set, ap_SetF, ap_Call, ap_CB, ap_Cons, ap_Nil, ap_2, ap_C, ap_V, ap_VB, ap_Tup, ap_Lst, ap_If, ap_Not, ap_Nx, ap_Exp, ap_Par, ap_ParF, ap_Wh, ap_For, ap_IfS, ap_bN, ap_bT, ap_bC, ap_b0, ix0, ix1, gAdd_eq, gSub_eq, List.map_cons, List.map_nil, List.length_cons, List.length_nil, List.cons_append, List.nil_append, List.replicate, List.getElem?_cons_zero, List.getElem?_cons_succ, List.set_cons_zero, List.set_cons_succ, bind_s, Option.map_some, if_true, Nat.reduceAdd, Nat.reduceSub, Nat.reduceLeDiff, reduceIte, mMul_eq z1 z2, mMul_eq z3 z4, ix_pk0, el, ep, er, Bool.not_true, e]
theorem all_loop : ∀ (ks : List Nat) (s1 s2 s3 s4 s5 s6 : DL.Slot), (∀ k ∈ ks, k ≤ 5) →
    ∃ s1' s2' s3' s4' s5' s6' : DL.Slot, forL (bN 1)
  (gSeq (gSet 2 (eCall 2 (F_u_law_job c) (aCons (eV 0) (aCons (DL.e2 gAddI (eC (.int 10)) (DL.e2 gMulI (eC (.int 50)) (eVB 1))) aNil))))
  (gSeq (gSet 3 (eMake c 2 (F_JobD_initD c) (aCons (DL.e2 gIx (eVB 2) (eC (.int 0))) (aCons (DL.e2 gIx (eVB 2) (eC (.int 1))) aNil))))
  (gSeq (gIf (eOr (DL.e2 (eqD true) (eProp c (F_Job_worths c) (eV 3)) (DL.e2 gIx (eVB 2) (eC (.int 0)))) (eOr (DL.e2 (eqD true) (eProp c (F_Job_works c) (eV 3)) (DL.e2 gIx (eVB 2) (eC (.int 1)))) (DL.e2 (eqD true) (eCB (fun x => (gLen x).or (gLenO c (F_JobD_lenD c) x)) (aCons (eVB 3) aNil)) (eCB gLen (aCons (DL.e2 gIx (eVB 2) (eC (.int 1))) aNil))))) (gRet (eC (.bl false))) gNx)
  (gSeq (gFor (iR1 (eC (.int 3))) (bN 4)
  (gSeq (gSet 5 (eCall 3 (F_u_law_pay c) (aCons (eV 0) (aCons (DL.e2 gAddI (DL.e2 gAddI (eC (.int 200)) (DL.e2 gMulI (eC (.int 20)) (eVB 1))) (DL.e2 gMulI (eC (.int 5)) (eVB 4))) (aCons (eCB gLen (aCons (DL.e2 gIx (eVB 2) (eC (.int 0))) aNil)) aNil)))))
  (gIf (eNot (eCall 2 (F_u_law_pay_right c) (aCons (eV 2) (aCons (eV 5) aNil)))) (gRet (eC (.bl false))) gNx)))
  (gSeq (gSet 6 (DL.e2 gRepT (eTup (aCons (eTup (aCons (DL.e2 gIx (DL.e2 gIx (DL.e2 gIx (eVB 2) (eC (.int 1))) (eC (.int 0))) (eC (.int 0))) (aCons (eC (.int 1)) aNil))) aNil)) (eCB gLen (aCons (DL.e2 gIx (eVB 2) (eC (.int 0))) aNil))))
  (gIf (eOr (eNot (eCall 2 (F_u_law_pay_right c) (aCons (eV 2) (aCons (eV 6) aNil)))) (eNot (eCall 2 (F_u_law_pay_right c) (aCons (eV 2) (aCons (DL.e2 gRepT (eTup (aCons (eTup (aCons (eC (.int 0)) (aCons (eC (.int 1)) aNil))) aNil)) (eCB gLen (aCons (DL.e2 gIx (eVB 2) (eC (.int 0))) aNil))) aNil))))) (gRet (eC (.bl false))) gNx))))))
      (ks.map fun k => D.int (k : Nat)) [some (false, .scr ns), s1, s2, s3, s4, s5, s6] = .nx [some (false, .scr ns), s1', s2', s3', s4', s5', s6']
  | [], s1, s2, s3, s4, s5, s6, _ => ⟨s1, s2, s3, s4, s5, s6, rfl⟩
  | k :: ks, s1, s2, s3, s4, s5, s6, hk => by
    have k10 := hk k List.mem_cons_self
    have z1 : sz 50 = true := by decide
    have z2 : sz (k : Int) = true := sz_of (n := 10) (by omega) (by omega)
    obtain ⟨ws, wk, V, ej⟩ := F_job_ex c ns h (idx := 10 + 50 * (k : Int)) (by omega) (by omega)
    have hl1 := V.l1; have hl2 := V.l2; have hk2 := V.k2; have hk1 := V.k1
    have el : gLen [wsD ws] = some (.int ws.length) := by unfold wsD; rw [gLen_tup, List.length_map]
    have elk : gLen [wksD wk] = some (.int wk.length) := by unfold wksD; rw [gLen_tup, List.length_map]
    have em := make_eq c V (fs := aCons (DL.e2 gIx (eVB 2) (eC (.int 0))) (aCons (DL.e2 gIx (eVB 2) (eC (.int 1))) aNil)) (ρ := [some (false, .scr ns), some (false, .int k), some (false, packD ws wk), s3, s4, s5, s6]) rfl
    have ep1 := prop_worths c ws wk (eV 3) [some (false, .scr ns), some (false, .int k), some (false, packD ws wk), some (false, jobD c ws wk), s4, s5, s6] rfl
    have ep2 := prop_works c ws wk (eV 3) [some (false, .scr ns), some (false, .int k), some (false, packD ws wk), some (false, jobD c ws wk), s4, s5, s6] rfl
    have q1 := eqD_self (smp_ws ws) (by decide) true
    have q2 := eqD_self (smp_wks wk) (by decide) true
    have q3 : eqD true (.int wk.length) (.int wk.length) = some (.bl false) := by rw [eqD_int, beq_self_eq_true]; rfl
    have r3 := iR1_nat (f := eC (.int 3)) (ρ := [some (false, .scr ns), some (false, .int k), some (false, packD ws wk), some (false, jobD c ws wk), s4, s5, s6]) (n := 3) rfl (by decide)
    obtain ⟨t4, t5, et⟩ := turn_loop c ns h (num := (k : Int)) (by omega) (by omega) V (some (false, jobD c ws wk)) s6 (List.range 3) s4 s5 (fun x hx => by rw [List.mem_range] at hx; omega)
    obtain ⟨p, hp⟩ : ∃ p, wk[0]? = some p := ⟨_, List.getElem?_eq_getElem (by omega)⟩
    have hkp := V.k p (List.mem_of_getElem? hp)
    have ew0 : gIx (wksD wk) (.int 0) = some (wkD p) := ix_tup_map (i := 0) hp
    have eo : (D.tup [.int p.1, .int 1]) = qd (one1 p.1) := rfl
    have eo0 : (D.tup [.int 0, .int 1]) = qd (one1 0) := rfl
    have f1 := gRepT_pay (one1 p.1) hl1 hl2
    have f2 := gRepT_pay (one1 0) hl1 hl2
    have g1 := F_right c V (flat_ok ws.length (one1_ok hkp.e0 (by have := hkp.e1; omega)) hkp.e0)
    have g2 := F_right c V (flat_ok ws.length (one1_ok (n := 0) (by decide) (by decide)) (by show (0 : Int) ≤ 0; decide))
    obtain ⟨a1, a2, a3, a4, a5, a6, e⟩ := all_loop ks (some (false, .int k)) (some (false, packD ws wk)) (some (false, jobD c ws wk)) t4 t5 (some (false, payD (List.replicate ws.length (one1 p.1)))) fun x hx => hk x (List.mem_cons_of_mem _ hx)
    refine ⟨a1, a2, a3, a4, a5, a6, ?_⟩
    rw [List.map_cons (l := ks)]
    unfold forL
    simp only [mkF, startD, ap_Seq, back_ret, ap_Set, ap_SetF, ap_Call, ap_CB, ap_Cons, ap_Nil, ap_2, ap_C, ap_V, ap_VB, ap_Tup, ap_Lst, ap_If, ap_Not, ap_Nx, ap_Exp, ap_Par, ap_ParF, ap_Wh, ap_For, ap_IfS, ap_bN, ap_bT, ap_bC, ap_b0, ix0, ix1, gAdd_eq, gSub_eq, List.map_cons, List.map_nil, List.length_cons, List.length_nil, List.cons_append, List.nil_append, List.replicate, List.getElem?_cons_zero, List.getElem?_cons_succ, List.set_cons_zero, List.set_cons_succ, bind_s, Option.map_some, if_true, Nat.reduceAdd, Nat.reduceSub, Nat.reduceLeDiff, reduceIte, ap_Or, mMul_eq z1 z2, ej, em, ep1, ep2, ix_pk0, ix_pk1, q1, q2, len_job c V, elk, q3, Bool.not_true, r3, et, ew0, ix_wk0, eo, eo0, el, f1, f2, g1, g2]
    exact e
theorem all_true : F_u_law_all_right c [.scr ns] = some (.bl true) := by
  obtain ⟨a1, a2, a3, a4, a5, a6, e⟩ := all_loop c ns h (List.range 3) none none none none none none (fun x hx => by rw [List.mem_range] at hx; omega)
  have r3 := iR1_nat (f := eC (.int 3)) (ρ := [some (false, .scr ns), none, none, none, none, none, none]) (n := 3) rfl (by decide)
  simp only [F_u_law_all_right, g_u_law_all_right, mkF, startD, ap_Seq, back_ret, ap_Set, ap_SetF, ap_Call, ap_CB, ap_Cons, ap_Nil, ap_2, ap_C, ap_V, ap_VB, ap_Tup, ap_Lst, ap_If, ap_Not, ap_Nx, ap_Exp, ap_Par, ap_ParF, ap_Wh, ap_For, ap_IfS, ap_bN, ap_bT, ap_bC, ap_b0, ix0, ix1, gAdd_eq, gSub_eq, List.map_cons, List.map_nil, List.length_cons, List.length_nil, List.cons_append, List.nil_append, List.replicate, List.getElem?_cons_zero, List.getElem?_cons_succ, List.set_cons_zero, List.set_cons_succ, bind_s, Option.map_some, if_true, Nat.reduceAdd, Nat.reduceSub, Nat.reduceLeDiff, reduceIte, r3, e]
end
end K01

set_option maxHeartbeats 8000000
namespace K01
open PySem PySem.Spec PyProof.Rows L2 DL
theorem kit_self (K : PySem.W.Frag) (C : Addr) : PySem.W.kitOne K (.ref C) (.ref C) = some true := by
  unfold PySem.W.kitOne
  rw [if_pos]
  simp
def spLaw (K : PySem.W.Frag) : Sp := fun vs H Q _ => ∃ (a : Addr) (ns : List Int), vs = [.ref a] ∧ SqL K H a (ns.map V.int) ∧ ns.length ≤ 63 ∧ ∀ H', Q (.bl true) H'
abbrev s_law : Stmt := topS 57
theorem sc_law : FnScope ["script"] ["script"] (defScope s_law) := ⟨rfl, rfl, rfl, by decide +kernel, rfl, by decide +kernel, by decide +kernel⟩
section
variable {P : Program} {w : World} {K : PySem.W.Frag} {mg : Str → Option Value} {base : Heap}
theorem ok_law {f : Addr} {fd : FuncData} (F : Fun K "law" "law" s_law f fd) (T : Txt K mg) {CP : Addr} (gP : mg "PayError" = some (.ref CP)) (hall : ∀ ns : List Int, ns.length ≤ 63 → F_u_law_all_right T.c_Job [.scr ns] = some (.bl true)) : FnOk P w K mg base CX0 10 f fd ["script"] (spLaw K) := by
  refine F.ok sc_law (fun vs H Q E h => ?_) (fun cdv A outer s H vs Q E hr h => ?_)
  · obtain ⟨a, ns, rfl, _⟩ := h
    rfl
  · obtain ⟨a, ns, rfl, hS, hl, k⟩ := h
    have go : ∀ Q' : L2.VK, (∀ H', Q' (.bl true) H') → spD K 1 (F_u_law_all_right T.c_Job) [.ref a] H Q' E0 := fun Q' k' => ⟨rfl, fun _ => False, [.scr ns], fun _ z => z.elim, .cons (.scr (L2.Same.seq (fun b o q => hide_some.mpr ⟨fun z => z, q⟩) hS)) .nil, _, hall ns hl, fun v H' _ r => by cases r; exact k' H'⟩
    refine ⟨_, pss_one (ps_try_only rfl rfl ⟨rfl, by decide, .inl gP⟩ takes0 (fun W pn xe tk _ => pss_one (ps_ret (pe_call (ok_u_law_all_right T) (hr.mono (by decide)) (by rfl) T.m_u_law_all_right T.fun_u_law_all_right.kp T.b_u_law_all_right .nil pass0 (pa_cons (pv 0) pa_nil)))) (fun a oe cls d pn _ _ => pss_one (ps_ret pe_bl))), ?_⟩
    exact ⟨.ref a, rfl, go _ k⟩
end
theorem all_mk {l : PySem.W.OpenLaw} {w : World} {K : PySem.W.Frag} {h : Heap} {mg : Str → Option Value} {fa : Addr} (X : K.In h) (G : h.Ns mainGlobals mg) (hfa : mg "law" = some (.ref fa))
    {C_Job : Addr}
    {f0 : Addr} {od0 an0 : Option Addr} {sl0 : Array (Option Value)} {oc0 kV0 dc0 pm0 cd0 ct0 : Value}
    {f1 : Addr} {od1 an1 : Option Addr} {sl1 : Array (Option Value)} {oc1 kV1 dc1 pm1 cd1 ct1 : Value}
    {f2 : Addr} {od2 an2 : Option Addr} {sl2 : Array (Option Value)} {oc2 kV2 dc2 pm2 cd2 ct2 : Value}
    {f3 : Addr} {od3 an3 : Option Addr} {sl3 : Array (Option Value)} {oc3 kV3 dc3 pm3 cd3 ct3 : Value}
    {f4 : Addr} {od4 an4 : Option Addr} {sl4 : Array (Option Value)} {oc4 kV4 dc4 pm4 cd4 ct4 : Value}
    {f5 : Addr} {od5 an5 : Option Addr} {sl5 : Array (Option Value)} {oc5 kV5 dc5 pm5 cd5 ct5 : Value}
    {f6 : Addr} {od6 an6 : Option Addr} {sl6 : Array (Option Value)} {oc6 kV6 dc6 pm6 cd6 ct6 : Value}
    {f7 : Addr} {od7 an7 : Option Addr} {sl7 : Array (Option Value)} {oc7 kV7 dc7 pm7 cd7 ct7 : Value}
    {f8 : Addr} {od8 an8 : Option Addr} {sl8 : Array (Option Value)} {oc8 kV8 dc8 pm8 cd8 ct8 : Value}
    {f9 : Addr} {od9 an9 : Option Addr} {sl9 : Array (Option Value)} {oc9 kV9 dc9 pm9 cd9 ct9 : Value}
    {f10 : Addr} {od10 an10 : Option Addr} {sl10 : Array (Option Value)} {oc10 kV10 dc10 pm10 cd10 ct10 : Value}
    {f11 : Addr} {od11 an11 : Option Addr} {sl11 : Array (Option Value)} {oc11 kV11 dc11 pm11 cd11 ct11 : Value}
    {f12 : Addr} {od12 an12 : Option Addr} {sl12 : Array (Option Value)} {oc12 kV12 dc12 pm12 cd12 ct12 : Value}
    {f13 : Addr} {od13 an13 : Option Addr} {sl13 : Array (Option Value)} {oc13 kV13 dc13 pm13 cd13 ct13 : Value}
    {f14 : Addr} {od14 an14 : Option Addr} {sl14 : Array (Option Value)} {oc14 kV14 dc14 pm14 cd14 ct14 : Value}
    {f15 : Addr} {od15 an15 : Option Addr} {sl15 : Array (Option Value)} {oc15 kV15 dc15 pm15 cd15 ct15 : Value}
    {f16 : Addr} {od16 an16 : Option Addr} {sl16 : Array (Option Value)} {oc16 kV16 dc16 pm16 cd16 ct16 : Value}
    {f17 : Addr} {od17 an17 : Option Addr} {sl17 : Array (Option Value)} {oc17 kV17 dc17 pm17 cd17 ct17 : Value}
    {p17 : Addr} {rs17 : List Value}
    {f18 : Addr} {od18 an18 : Option Addr} {sl18 : Array (Option Value)} {oc18 kV18 dc18 pm18 cd18 ct18 : Value}
    {p18 : Addr} {rs18 : List Value}
    {f19 : Addr} {od19 an19 : Option Addr} {sl19 : Array (Option Value)} {oc19 kV19 dc19 pm19 cd19 ct19 : Value}
    {f20 : Addr} {od20 an20 : Option Addr} {sl20 : Array (Option Value)} {oc20 kV20 dc20 pm20 cd20 ct20 : Value}
    {f21 : Addr} {od21 an21 : Option Addr} {sl21 : Array (Option Value)} {oc21 kV21 dc21 pm21 cd21 ct21 : Value}
    {f22 : Addr} {od22 an22 : Option Addr} {sl22 : Array (Option Value)} {oc22 kV22 dc22 pm22 cd22 ct22 : Value}
    {f23 : Addr} {od23 an23 : Option Addr} {sl23 : Array (Option Value)} {oc23 kV23 dc23 pm23 cd23 ct23 : Value}
    {f24 : Addr} {od24 an24 : Option Addr} {sl24 : Array (Option Value)} {oc24 kV24 dc24 pm24 cd24 ct24 : Value}
    {f25 : Addr} {od25 an25 : Option Addr} {sl25 : Array (Option Value)} {oc25 kV25 dc25 pm25 cd25 ct25 : Value}
    {f26 : Addr} {od26 an26 : Option Addr} {sl26 : Array (Option Value)} {oc26 kV26 dc26 pm26 cd26 ct26 : Value}
    {f27 : Addr} {od27 an27 : Option Addr} {sl27 : Array (Option Value)} {oc27 kV27 dc27 pm27 cd27 ct27 : Value}
    {f28 : Addr} {od28 an28 : Option Addr} {sl28 : Array (Option Value)} {oc28 kV28 dc28 pm28 cd28 ct28 : Value}
    {f29 : Addr} {od29 an29 : Option Addr} {sl29 : Array (Option Value)} {oc29 kV29 dc29 pm29 cd29 ct29 : Value}
    {f30 : Addr} {od30 an30 : Option Addr} {sl30 : Array (Option Value)} {oc30 kV30 dc30 pm30 cd30 ct30 : Value}
    {f31 : Addr} {od31 an31 : Option Addr} {sl31 : Array (Option Value)} {oc31 kV31 dc31 pm31 cd31 ct31 : Value}
    {f32 : Addr} {od32 an32 : Option Addr} {sl32 : Array (Option Value)} {oc32 kV32 dc32 pm32 cd32 ct32 : Value}
    {f33 : Addr} {od33 an33 : Option Addr} {sl33 : Array (Option Value)} {oc33 kV33 dc33 pm33 cd33 ct33 : Value}
    {f34 : Addr} {od34 an34 : Option Addr} {sl34 : Array (Option Value)} {oc34 kV34 dc34 pm34 cd34 ct34 : Value}
    {f35 : Addr} {od35 an35 : Option Addr} {sl35 : Array (Option Value)} {oc35 kV35 dc35 pm35 cd35 ct35 : Value}
    {f36 : Addr} {od36 an36 : Option Addr} {sl36 : Array (Option Value)} {oc36 kV36 dc36 pm36 cd36 ct36 : Value}
    {f37 : Addr} {od37 an37 : Option Addr} {sl37 : Array (Option Value)} {oc37 kV37 dc37 pm37 cd37 ct37 : Value}
    {f38 : Addr} {od38 an38 : Option Addr} {sl38 : Array (Option Value)} {oc38 kV38 dc38 pm38 cd38 ct38 : Value}
    {f39 : Addr} {od39 an39 : Option Addr} {sl39 : Array (Option Value)} {oc39 kV39 dc39 pm39 cd39 ct39 : Value}
    {f40 : Addr} {od40 an40 : Option Addr} {sl40 : Array (Option Value)} {oc40 kV40 dc40 pm40 cd40 ct40 : Value}
    {f41 : Addr} {od41 an41 : Option Addr} {sl41 : Array (Option Value)} {oc41 kV41 dc41 pm41 cd41 ct41 : Value}
    {f42 : Addr} {od42 an42 : Option Addr} {sl42 : Array (Option Value)} {oc42 kV42 dc42 pm42 cd42 ct42 : Value}
    {f43 : Addr} {od43 an43 : Option Addr} {sl43 : Array (Option Value)} {oc43 kV43 dc43 pm43 cd43 ct43 : Value}
    {f44 : Addr} {od44 an44 : Option Addr} {sl44 : Array (Option Value)} {oc44 kV44 dc44 pm44 cd44 ct44 : Value}
    {t_FEWEST : Tok}
    {t_MOST : Tok}
    {t_MOST_EFFORT : Tok}
    {t_MOST_PART : Tok}
    {t_MOST_WORTH : Tok}
    {a_ZERO : Addr} {dd_ZERO : Option Addr} {nn_ZERO : Nat} {ss_ZERO : Array (Option Value)} {u_ZERO_0 u_ZERO_1 : Tok}
    {CP : Addr}
    {fl : Addr} {odl anl : Option Addr} {sll : Array (Option Value)} {ocl kVl dcl pml cdl ctl : Value}
    (aC_Job : PySem.W.nsIn K mainGlobals "Job" = some (some (.ref C_Job)))
    (a0 : PySem.W.nsIn K mainGlobals "is_integer" = some (some (.ref f0)))
    (l0 : K.lookup f0 = some ⟨oc0, od0, .func (PySem.W.fnOf "is_integer" "is_integer" (defArgs (topS 8)) (defBody (topS 8)) (defScope (topS 8)) .none kV0 dc0 pm0 an0 cd0 ct0), sl0⟩)
    (c0 : PySem.W.codeIn K cd0 "is_integer" = true)
    (k0 : PySem.W.keepIn K (.ref f0) = true)
    (a1 : PySem.W.nsIn K mainGlobals "is_integer_within" = some (some (.ref f1)))
    (l1 : K.lookup f1 = some ⟨oc1, od1, .func (PySem.W.fnOf "is_integer_within" "is_integer_within" (defArgs (topS 9)) (defBody (topS 9)) (defScope (topS 9)) .none kV1 dc1 pm1 an1 cd1 ct1), sl1⟩)
    (c1 : PySem.W.codeIn K cd1 "is_integer_within" = true)
    (k1 : PySem.W.keepIn K (.ref f1) = true)
    (a2 : PySem.W.nsIn K mainGlobals "is_fraction" = some (some (.ref f2)))
    (l2 : K.lookup f2 = some ⟨oc2, od2, .func (PySem.W.fnOf "is_fraction" "is_fraction" (defArgs (topS 10)) (defBody (topS 10)) (defScope (topS 10)) .none kV2 dc2 pm2 an2 cd2 ct2), sl2⟩)
    (c2 : PySem.W.codeIn K cd2 "is_fraction" = true)
    (k2 : PySem.W.keepIn K (.ref f2) = true)
    (a3 : PySem.W.nsIn K mainGlobals "is_amount" = some (some (.ref f3)))
    (l3 : K.lookup f3 = some ⟨oc3, od3, .func (PySem.W.fnOf "is_amount" "is_amount" (defArgs (topS 11)) (defBody (topS 11)) (defScope (topS 11)) .none kV3 dc3 pm3 an3 cd3 ct3), sl3⟩)
    (c3 : PySem.W.codeIn K cd3 "is_amount" = true)
    (k3 : PySem.W.keepIn K (.ref f3) = true)
    (a4 : PySem.W.nsIn K mainGlobals "ratio" = some (some (.ref f4)))
    (l4 : K.lookup f4 = some ⟨oc4, od4, .func (PySem.W.fnOf "ratio" "ratio" (defArgs (topS 12)) (defBody (topS 12)) (defScope (topS 12)) .none kV4 dc4 pm4 an4 cd4 ct4), sl4⟩)
    (c4 : PySem.W.codeIn K cd4 "ratio" = true)
    (k4 : PySem.W.keepIn K (.ref f4) = true)
    (a5 : PySem.W.nsIn K mainGlobals "plus" = some (some (.ref f5)))
    (l5 : K.lookup f5 = some ⟨oc5, od5, .func (PySem.W.fnOf "plus" "plus" (defArgs (topS 13)) (defBody (topS 13)) (defScope (topS 13)) .none kV5 dc5 pm5 an5 cd5 ct5), sl5⟩)
    (c5 : PySem.W.codeIn K cd5 "plus" = true)
    (k5 : PySem.W.keepIn K (.ref f5) = true)
    (a6 : PySem.W.nsIn K mainGlobals "negative" = some (some (.ref f6)))
    (l6 : K.lookup f6 = some ⟨oc6, od6, .func (PySem.W.fnOf "negative" "negative" (defArgs (topS 14)) (defBody (topS 14)) (defScope (topS 14)) .none kV6 dc6 pm6 an6 cd6 ct6), sl6⟩)
    (c6 : PySem.W.codeIn K cd6 "negative" = true)
    (k6 : PySem.W.keepIn K (.ref f6) = true)
    (a7 : PySem.W.nsIn K mainGlobals "minus" = some (some (.ref f7)))
    (l7 : K.lookup f7 = some ⟨oc7, od7, .func (PySem.W.fnOf "minus" "minus" (defArgs (topS 15)) (defBody (topS 15)) (defScope (topS 15)) .none kV7 dc7 pm7 an7 cd7 ct7), sl7⟩)
    (c7 : PySem.W.codeIn K cd7 "minus" = true)
    (k7 : PySem.W.keepIn K (.ref f7) = true)
    (a8 : PySem.W.nsIn K mainGlobals "times" = some (some (.ref f8)))
    (l8 : K.lookup f8 = some ⟨oc8, od8, .func (PySem.W.fnOf "times" "times" (defArgs (topS 16)) (defBody (topS 16)) (defScope (topS 16)) .none kV8 dc8 pm8 an8 cd8 ct8), sl8⟩)
    (c8 : PySem.W.codeIn K cd8 "times" = true)
    (k8 : PySem.W.keepIn K (.ref f8) = true)
    (a9 : PySem.W.nsIn K mainGlobals "is_less" = some (some (.ref f9)))
    (l9 : K.lookup f9 = some ⟨oc9, od9, .func (PySem.W.fnOf "is_less" "is_less" (defArgs (topS 17)) (defBody (topS 17)) (defScope (topS 17)) .none kV9 dc9 pm9 an9 cd9 ct9), sl9⟩)
    (c9 : PySem.W.codeIn K cd9 "is_less" = true)
    (k9 : PySem.W.keepIn K (.ref f9) = true)
    (a10 : PySem.W.nsIn K mainGlobals "total" = some (some (.ref f10)))
    (l10 : K.lookup f10 = some ⟨oc10, od10, .func (PySem.W.fnOf "total" "total" (defArgs (topS 18)) (defBody (topS 18)) (defScope (topS 18)) .none kV10 dc10 pm10 an10 cd10 ct10), sl10⟩)
    (c10 : PySem.W.codeIn K cd10 "total" = true)
    (k10 : PySem.W.keepIn K (.ref f10) = true)
    (a11 : PySem.W.nsIn K mainGlobals "weighted" = some (some (.ref f11)))
    (l11 : K.lookup f11 = some ⟨oc11, od11, .func (PySem.W.fnOf "weighted" "weighted" (defArgs (topS 19)) (defBody (topS 19)) (defScope (topS 19)) .none kV11 dc11 pm11 an11 cd11 ct11), sl11⟩)
    (c11 : PySem.W.codeIn K cd11 "weighted" = true)
    (k11 : PySem.W.keepIn K (.ref f11) = true)
    (a12 : PySem.W.nsIn K mainGlobals "_are_parts" = some (some (.ref f12)))
    (l12 : K.lookup f12 = some ⟨oc12, od12, .func (PySem.W.fnOf "_are_parts" "_are_parts" (defArgs (topS 30)) (defBody (topS 30)) (defScope (topS 30)) .none kV12 dc12 pm12 an12 cd12 ct12), sl12⟩)
    (c12 : PySem.W.codeIn K cd12 "_are_parts" = true)
    (k12 : PySem.W.keepIn K (.ref f12) = true)
    (a13 : PySem.W.nsIn K mainGlobals "is_work" = some (some (.ref f13)))
    (l13 : K.lookup f13 = some ⟨oc13, od13, .func (PySem.W.fnOf "is_work" "is_work" (defArgs (topS 29)) (defBody (topS 29)) (defScope (topS 29)) .none kV13 dc13 pm13 an13 cd13 ct13), sl13⟩)
    (c13 : PySem.W.codeIn K cd13 "is_work" = true)
    (k13 : PySem.W.keepIn K (.ref f13) = true)
    (a14 : PySem.W.nsIn K mainGlobals "_are_works" = some (some (.ref f14)))
    (l14 : K.lookup f14 = some ⟨oc14, od14, .func (PySem.W.fnOf "_are_works" "_are_works" (defArgs (topS 28)) (defBody (topS 28)) (defScope (topS 28)) .none kV14 dc14 pm14 an14 cd14 ct14), sl14⟩)
    (c14 : PySem.W.codeIn K cd14 "_are_works" = true)
    (k14 : PySem.W.keepIn K (.ref f14) = true)
    (a15 : PySem.W.nsIn K mainGlobals "are_worths" = some (some (.ref f15)))
    (l15 : K.lookup f15 = some ⟨oc15, od15, .func (PySem.W.fnOf "are_worths" "are_worths" (defArgs (topS 27)) (defBody (topS 27)) (defScope (topS 27)) .none kV15 dc15 pm15 an15 cd15 ct15), sl15⟩)
    (c15 : PySem.W.codeIn K cd15 "are_worths" = true)
    (k15 : PySem.W.keepIn K (.ref f15) = true)
    (a16 : PySem.W.findIn K (.ref C_Job) "__init__" = some (some (.ref f16)))
    (i16 : PySem.W.isFn K (.ref f16) = true)
    (l16 : K.lookup f16 = some ⟨oc16, od16, .func (PySem.W.fnOf "__init__" "Job.__init__" (defArgs (inClass (topS 26) 0)) (defBody (inClass (topS 26) 0)) (defScope (inClass (topS 26) 0)) .none kV16 dc16 pm16 an16 cd16 ct16), sl16⟩)
    (c16 : PySem.W.codeIn K cd16 "Job.__init__" = true)
    (k16 : PySem.W.keepIn K (.ref f16) = true)
    (p1_17 : PySem.W.findIn K (.ref C_Job) "worths" = some (some (.ref p17)))
    (p4_17 : PySem.W.recIn K p17 "property" = some (.ref f17 :: rs17))
    (p2_17 : PySem.W.specialIn K (.ref p17) "__get__" = some (some (.builtin "property.__get__")))
    (p3_17 : PySem.W.takesIn K (.ref p17) = some true)
    (l17 : K.lookup f17 = some ⟨oc17, od17, .func (PySem.W.fnOf "worths" "Job.worths" (defArgs (inClass (topS 26) 1)) (defBody (inClass (topS 26) 1)) (defScope (inClass (topS 26) 1)) .none kV17 dc17 pm17 an17 cd17 ct17), sl17⟩)
    (c17 : PySem.W.codeIn K cd17 "Job.worths" = true)
    (k17 : PySem.W.keepIn K (.ref f17) = true)
    (p1_18 : PySem.W.findIn K (.ref C_Job) "works" = some (some (.ref p18)))
    (p4_18 : PySem.W.recIn K p18 "property" = some (.ref f18 :: rs18))
    (p2_18 : PySem.W.specialIn K (.ref p18) "__get__" = some (some (.builtin "property.__get__")))
    (p3_18 : PySem.W.takesIn K (.ref p18) = some true)
    (l18 : K.lookup f18 = some ⟨oc18, od18, .func (PySem.W.fnOf "works" "Job.works" (defArgs (inClass (topS 26) 2)) (defBody (inClass (topS 26) 2)) (defScope (inClass (topS 26) 2)) .none kV18 dc18 pm18 an18 cd18 ct18), sl18⟩)
    (c18 : PySem.W.codeIn K cd18 "Job.works" = true)
    (k18 : PySem.W.keepIn K (.ref f18) = true)
    (a19 : PySem.W.findIn K (.ref C_Job) "__len__" = some (some (.ref f19)))
    (i19 : PySem.W.isFn K (.ref f19) = true)
    (l19 : K.lookup f19 = some ⟨oc19, od19, .func (PySem.W.fnOf "__len__" "Job.__len__" (defArgs (inClass (topS 26) 3)) (defBody (inClass (topS 26) 3)) (defScope (inClass (topS 26) 3)) .none kV19 dc19 pm19 an19 cd19 ct19), sl19⟩)
    (c19 : PySem.W.codeIn K cd19 "Job.__len__" = true)
    (k19 : PySem.W.keepIn K (.ref f19) = true)
    (a20 : PySem.W.nsIn K mainGlobals "check_job" = some (some (.ref f20)))
    (l20 : K.lookup f20 = some ⟨oc20, od20, .func (PySem.W.fnOf "check_job" "check_job" (defArgs (topS 31)) (defBody (topS 31)) (defScope (topS 31)) .none kV20 dc20 pm20 an20 cd20 ct20), sl20⟩)
    (c20 : PySem.W.codeIn K cd20 "check_job" = true)
    (k20 : PySem.W.keepIn K (.ref f20) = true)
    (a21 : PySem.W.nsIn K mainGlobals "check_work" = some (some (.ref f21)))
    (l21 : K.lookup f21 = some ⟨oc21, od21, .func (PySem.W.fnOf "check_work" "check_work" (defArgs (topS 32)) (defBody (topS 32)) (defScope (topS 32)) .none kV21 dc21 pm21 an21 cd21 ct21), sl21⟩)
    (c21 : PySem.W.codeIn K cd21 "check_work" = true)
    (k21 : PySem.W.keepIn K (.ref f21) = true)
    (a22 : PySem.W.nsIn K mainGlobals "is_pay" = some (some (.ref f22)))
    (l22 : K.lookup f22 = some ⟨oc22, od22, .func (PySem.W.fnOf "is_pay" "is_pay" (defArgs (topS 33)) (defBody (topS 33)) (defScope (topS 33)) .none kV22 dc22 pm22 an22 cd22 ct22), sl22⟩)
    (c22 : PySem.W.codeIn K cd22 "is_pay" = true)
    (k22 : PySem.W.keepIn K (.ref f22) = true)
    (a23 : PySem.W.nsIn K mainGlobals "check_pay" = some (some (.ref f23)))
    (l23 : K.lookup f23 = some ⟨oc23, od23, .func (PySem.W.fnOf "check_pay" "check_pay" (defArgs (topS 34)) (defBody (topS 34)) (defScope (topS 34)) .none kV23 dc23 pm23 an23 cd23 ct23), sl23⟩)
    (c23 : PySem.W.codeIn K cd23 "check_pay" = true)
    (k23 : PySem.W.keepIn K (.ref f23) = true)
    (a24 : PySem.W.nsIn K mainGlobals "work_efforts" = some (some (.ref f24)))
    (l24 : K.lookup f24 = some ⟨oc24, od24, .func (PySem.W.fnOf "work_efforts" "work_efforts" (defArgs (topS 35)) (defBody (topS 35)) (defScope (topS 35)) .none kV24 dc24 pm24 an24 cd24 ct24), sl24⟩)
    (c24 : PySem.W.codeIn K cd24 "work_efforts" = true)
    (k24 : PySem.W.keepIn K (.ref f24) = true)
    (a25 : PySem.W.nsIn K mainGlobals "work_chances" = some (some (.ref f25)))
    (l25 : K.lookup f25 = some ⟨oc25, od25, .func (PySem.W.fnOf "work_chances" "work_chances" (defArgs (topS 36)) (defBody (topS 36)) (defScope (topS 36)) .none kV25 dc25 pm25 an25 cd25 ct25), sl25⟩)
    (c25 : PySem.W.codeIn K cd25 "work_chances" = true)
    (k25 : PySem.W.keepIn K (.ref f25) = true)
    (a26 : PySem.W.nsIn K mainGlobals "average_pay" = some (some (.ref f26)))
    (l26 : K.lookup f26 = some ⟨oc26, od26, .func (PySem.W.fnOf "average_pay" "average_pay" (defArgs (topS 37)) (defBody (topS 37)) (defScope (topS 37)) .none kV26 dc26 pm26 an26 cd26 ct26), sl26⟩)
    (c26 : PySem.W.codeIn K cd26 "average_pay" = true)
    (k26 : PySem.W.keepIn K (.ref f26) = true)
    (a27 : PySem.W.nsIn K mainGlobals "average_worth" = some (some (.ref f27)))
    (l27 : K.lookup f27 = some ⟨oc27, od27, .func (PySem.W.fnOf "average_worth" "average_worth" (defArgs (topS 38)) (defBody (topS 38)) (defScope (topS 38)) .none kV27 dc27 pm27 an27 cd27 ct27), sl27⟩)
    (c27 : PySem.W.codeIn K cd27 "average_worth" = true)
    (k27 : PySem.W.keepIn K (.ref f27) = true)
    (a28 : PySem.W.nsIn K mainGlobals "gain" = some (some (.ref f28)))
    (l28 : K.lookup f28 = some ⟨oc28, od28, .func (PySem.W.fnOf "gain" "gain" (defArgs (topS 39)) (defBody (topS 39)) (defScope (topS 39)) .none kV28 dc28 pm28 an28 cd28 ct28), sl28⟩)
    (c28 : PySem.W.codeIn K cd28 "gain" = true)
    (k28 : PySem.W.keepIn K (.ref f28) = true)
    (a29 : PySem.W.nsIn K mainGlobals "profit" = some (some (.ref f29)))
    (l29 : K.lookup f29 = some ⟨oc29, od29, .func (PySem.W.fnOf "profit" "profit" (defArgs (topS 40)) (defBody (topS 40)) (defScope (topS 40)) .none kV29 dc29 pm29 an29 cd29 ct29), sl29⟩)
    (c29 : PySem.W.codeIn K cd29 "profit" = true)
    (k29 : PySem.W.keepIn K (.ref f29) = true)
    (a30 : PySem.W.nsIn K mainGlobals "wanted" = some (some (.ref f30)))
    (l30 : K.lookup f30 = some ⟨oc30, od30, .func (PySem.W.fnOf "wanted" "wanted" (defArgs (topS 41)) (defBody (topS 41)) (defScope (topS 41)) .none kV30 dc30 pm30 an30 cd30 ct30), sl30⟩)
    (c30 : PySem.W.codeIn K cd30 "wanted" = true)
    (k30 : PySem.W.keepIn K (.ref f30) = true)
    (a31 : PySem.W.nsIn K mainGlobals "_law_number" = some (some (.ref f31)))
    (l31 : K.lookup f31 = some ⟨oc31, od31, .func (PySem.W.fnOf "_law_number" "_law_number" (defArgs (topS 43)) (defBody (topS 43)) (defScope (topS 43)) .none kV31 dc31 pm31 an31 cd31 ct31), sl31⟩)
    (c31 : PySem.W.codeIn K cd31 "_law_number" = true)
    (k31 : PySem.W.keepIn K (.ref f31) = true)
    (a32 : PySem.W.nsIn K mainGlobals "_law_lowest" = some (some (.ref f32)))
    (l32 : K.lookup f32 = some ⟨oc32, od32, .func (PySem.W.fnOf "_law_lowest" "_law_lowest" (defArgs (topS 44)) (defBody (topS 44)) (defScope (topS 44)) .none kV32 dc32 pm32 an32 cd32 ct32), sl32⟩)
    (c32 : PySem.W.codeIn K cd32 "_law_lowest" = true)
    (k32 : PySem.W.keepIn K (.ref f32) = true)
    (a33 : PySem.W.nsIn K mainGlobals "_law_sum" = some (some (.ref f33)))
    (l33 : K.lookup f33 = some ⟨oc33, od33, .func (PySem.W.fnOf "_law_sum" "_law_sum" (defArgs (topS 45)) (defBody (topS 45)) (defScope (topS 45)) .none kV33 dc33 pm33 an33 cd33 ct33), sl33⟩)
    (c33 : PySem.W.codeIn K cd33 "_law_sum" = true)
    (k33 : PySem.W.keepIn K (.ref f33) = true)
    (a34 : PySem.W.nsIn K mainGlobals "_law_less" = some (some (.ref f34)))
    (l34 : K.lookup f34 = some ⟨oc34, od34, .func (PySem.W.fnOf "_law_less" "_law_less" (defArgs (topS 46)) (defBody (topS 46)) (defScope (topS 46)) .none kV34 dc34 pm34 an34 cd34 ct34), sl34⟩)
    (c34 : PySem.W.codeIn K cd34 "_law_less" = true)
    (k34 : PySem.W.keepIn K (.ref f34) = true)
    (a35 : PySem.W.nsIn K mainGlobals "_law_product" = some (some (.ref f35)))
    (l35 : K.lookup f35 = some ⟨oc35, od35, .func (PySem.W.fnOf "_law_product" "_law_product" (defArgs (topS 47)) (defBody (topS 47)) (defScope (topS 47)) .none kV35 dc35 pm35 an35 cd35 ct35), sl35⟩)
    (c35 : PySem.W.codeIn K cd35 "_law_product" = true)
    (k35 : PySem.W.keepIn K (.ref f35) = true)
    (a36 : PySem.W.nsIn K mainGlobals "_law_below" = some (some (.ref f36)))
    (l36 : K.lookup f36 = some ⟨oc36, od36, .func (PySem.W.fnOf "_law_below" "_law_below" (defArgs (topS 48)) (defBody (topS 48)) (defScope (topS 48)) .none kV36 dc36 pm36 an36 cd36 ct36), sl36⟩)
    (c36 : PySem.W.codeIn K cd36 "_law_below" = true)
    (k36 : PySem.W.keepIn K (.ref f36) = true)
    (a37 : PySem.W.nsIn K mainGlobals "_law_dot" = some (some (.ref f37)))
    (l37 : K.lookup f37 = some ⟨oc37, od37, .func (PySem.W.fnOf "_law_dot" "_law_dot" (defArgs (topS 49)) (defBody (topS 49)) (defScope (topS 49)) .none kV37 dc37 pm37 an37 cd37 ct37), sl37⟩)
    (c37 : PySem.W.codeIn K cd37 "_law_dot" = true)
    (k37 : PySem.W.keepIn K (.ref f37) = true)
    (a38 : PySem.W.nsIn K mainGlobals "_law_job" = some (some (.ref f38)))
    (l38 : K.lookup f38 = some ⟨oc38, od38, .func (PySem.W.fnOf "_law_job" "_law_job" (defArgs (topS 50)) (defBody (topS 50)) (defScope (topS 50)) .none kV38 dc38 pm38 an38 cd38 ct38), sl38⟩)
    (c38 : PySem.W.codeIn K cd38 "_law_job" = true)
    (k38 : PySem.W.keepIn K (.ref f38) = true)
    (a39 : PySem.W.nsIn K mainGlobals "_law_chances" = some (some (.ref f39)))
    (l39 : K.lookup f39 = some ⟨oc39, od39, .func (PySem.W.fnOf "_law_chances" "_law_chances" (defArgs (topS 51)) (defBody (topS 51)) (defScope (topS 51)) .none kV39 dc39 pm39 an39 cd39 ct39), sl39⟩)
    (c39 : PySem.W.codeIn K cd39 "_law_chances" = true)
    (k39 : PySem.W.keepIn K (.ref f39) = true)
    (a40 : PySem.W.nsIn K mainGlobals "_law_gain" = some (some (.ref f40)))
    (l40 : K.lookup f40 = some ⟨oc40, od40, .func (PySem.W.fnOf "_law_gain" "_law_gain" (defArgs (topS 52)) (defBody (topS 52)) (defScope (topS 52)) .none kV40 dc40 pm40 an40 cd40 ct40), sl40⟩)
    (c40 : PySem.W.codeIn K cd40 "_law_gain" = true)
    (k40 : PySem.W.keepIn K (.ref f40) = true)
    (a41 : PySem.W.nsIn K mainGlobals "_law_worth" = some (some (.ref f41)))
    (l41 : K.lookup f41 = some ⟨oc41, od41, .func (PySem.W.fnOf "_law_worth" "_law_worth" (defArgs (topS 53)) (defBody (topS 53)) (defScope (topS 53)) .none kV41 dc41 pm41 an41 cd41 ct41), sl41⟩)
    (c41 : PySem.W.codeIn K cd41 "_law_worth" = true)
    (k41 : PySem.W.keepIn K (.ref f41) = true)
    (a42 : PySem.W.nsIn K mainGlobals "_law_pay" = some (some (.ref f42)))
    (l42 : K.lookup f42 = some ⟨oc42, od42, .func (PySem.W.fnOf "_law_pay" "_law_pay" (defArgs (topS 54)) (defBody (topS 54)) (defScope (topS 54)) .none kV42 dc42 pm42 an42 cd42 ct42), sl42⟩)
    (c42 : PySem.W.codeIn K cd42 "_law_pay" = true)
    (k42 : PySem.W.keepIn K (.ref f42) = true)
    (a43 : PySem.W.nsIn K mainGlobals "_law_pay_right" = some (some (.ref f43)))
    (l43 : K.lookup f43 = some ⟨oc43, od43, .func (PySem.W.fnOf "_law_pay_right" "_law_pay_right" (defArgs (topS 55)) (defBody (topS 55)) (defScope (topS 55)) .none kV43 dc43 pm43 an43 cd43 ct43), sl43⟩)
    (c43 : PySem.W.codeIn K cd43 "_law_pay_right" = true)
    (k43 : PySem.W.keepIn K (.ref f43) = true)
    (a44 : PySem.W.nsIn K mainGlobals "_law_all_right" = some (some (.ref f44)))
    (l44 : K.lookup f44 = some ⟨oc44, od44, .func (PySem.W.fnOf "_law_all_right" "_law_all_right" (defArgs (topS 56)) (defBody (topS 56)) (defScope (topS 56)) .none kV44 dc44 pm44 an44 cd44 ct44), sl44⟩)
    (c44 : PySem.W.codeIn K cd44 "_law_all_right" = true)
    (k44 : PySem.W.keepIn K (.ref f44) = true)
    (pg_Job : PySem.W.plainGet K C_Job Str.empty = true)
    (hd_Job : PySem.W.hasDictIn K C_Job = true)
    (po_Job : PySem.W.plainOver K C_Job = true)
    (sa_Job : PySem.W.findIn K (.ref C_Job) "__setattr__" = some (some (.builtin "object.__setattr__")))
    (mk_Job : PySem.W.makesIn K C_Job = true)
    (kc_Job : PySem.W.keepIn K (.ref C_Job) = true)
    (k1_Job : PySem.W.findIn K (.ref C_Job) "__class__" = some (some (.builtin "object.__class__")))
    (k4_Job : PySem.W.mroIn K C_Job (.type "object") = some true)
    (na_Job_worths : PySem.W.findIn K (.ref C_Job) "_worths" = some none)
    (na_Job_works : PySem.W.findIn K (.ref C_Job) "_works" = some none)
    (z_abs : PySem.W.nsIn K mainGlobals "abs" = some none)
    (z_all : PySem.W.nsIn K mainGlobals "all" = some none)
    (z_any : PySem.W.nsIn K mainGlobals "any" = some none)
    (z_bool : PySem.W.nsIn K mainGlobals "bool" = some none)
    (z_int : PySem.W.nsIn K mainGlobals "int" = some none)
    (z_isinstance : PySem.W.nsIn K mainGlobals "isinstance" = some none)
    (z_len : PySem.W.nsIn K mainGlobals "len" = some none)
    (z_list : PySem.W.nsIn K mainGlobals "list" = some none)
    (z_range : PySem.W.nsIn K mainGlobals "range" = some none)
    (z_sum : PySem.W.nsIn K mainGlobals "sum" = some none)
    (z_tuple : PySem.W.nsIn K mainGlobals "tuple" = some none)
    (z_zip : PySem.W.nsIn K mainGlobals "zip" = some none)
    (m_FEWEST : PySem.W.nsIn K mainGlobals "FEWEST" = some (some (.int 2 t_FEWEST)))
    (m_MOST : PySem.W.nsIn K mainGlobals "MOST" = some (some (.int 4 t_MOST)))
    (m_MOST_EFFORT : PySem.W.nsIn K mainGlobals "MOST_EFFORT" = some (some (.int 9 t_MOST_EFFORT)))
    (m_MOST_PART : PySem.W.nsIn K mainGlobals "MOST_PART" = some (some (.int 6 t_MOST_PART)))
    (m_MOST_WORTH : PySem.W.nsIn K mainGlobals "MOST_WORTH" = some (some (.int 20 t_MOST_WORTH)))
    (m_ZERO : PySem.W.nsIn K mainGlobals "ZERO" = some (some (.ref a_ZERO)))
    (l_ZERO : K.lookup a_ZERO = some ⟨.type "tuple", dd_ZERO, .seq #[.int 0 u_ZERO_0, .int 1 u_ZERO_1] nn_ZERO, ss_ZERO⟩)
    (m_gcd : PySem.W.nsIn K mainGlobals "gcd" = some (some (.builtin "math.gcd")))
    (kk2 : PySem.W.specialIn K (.builtin "object.__class__") "__get__" = some (some (.builtin "getset_descriptor.__get__")))
    (kk3 : PySem.W.takesIn K (.builtin "object.__class__") = some true)
    (aP : PySem.W.nsIn K mainGlobals "PayError" = some (some (.ref CP)))
    (al : PySem.W.nsIn K mainGlobals "law" = some (some (.ref fl)))
    (ll : K.lookup fl = some ⟨ocl, odl, .func (PySem.W.fnOf "law" "law" (defArgs s_law) (defBody s_law) (defScope s_law) .none kVl dcl pml anl cdl ctl), sll⟩)
    (cl : PySem.W.codeIn K cdl "law" = true)
    (kl : PySem.W.keepIn K (.ref fl) = true) :
    ∃ fd : FuncData, (∀ (s : Shared) (v : Value), BindsTo s fd ⟨[v], []⟩ [("script", v)]) ∧ ∀ base : Heap, K.In base → base.Ns mainGlobals mg → FnOk l.prog w K mg base CX0 10 fa fd ["script"] (spLaw K) := by
  have e := hfa.symm.trans (PySem.W.mg_of X G al)
  cases e
  have F0 := fun_mk (st := topS 8) l0 c0 k0
  have F1 := fun_mk (st := topS 9) l1 c1 k1
  have F2 := fun_mk (st := topS 10) l2 c2 k2
  have F3 := fun_mk (st := topS 11) l3 c3 k3
  have F4 := fun_mk (st := topS 12) l4 c4 k4
  have F5 := fun_mk (st := topS 13) l5 c5 k5
  have F6 := fun_mk (st := topS 14) l6 c6 k6
  have F7 := fun_mk (st := topS 15) l7 c7 k7
  have F8 := fun_mk (st := topS 16) l8 c8 k8
  have F9 := fun_mk (st := topS 17) l9 c9 k9
  have F10 := fun_mk (st := topS 18) l10 c10 k10
  have F11 := fun_mk (st := topS 19) l11 c11 k11
  have F12 := fun_mk (st := topS 30) l12 c12 k12
  have F13 := fun_mk (st := topS 29) l13 c13 k13
  have F14 := fun_mk (st := topS 28) l14 c14 k14
  have F15 := fun_mk (st := topS 27) l15 c15 k15
  have F16 := fun_mk (st := inClass (topS 26) 0) l16 c16 k16
  have F17 := fun_mk (st := inClass (topS 26) 1) l17 c17 k17
  have F18 := fun_mk (st := inClass (topS 26) 2) l18 c18 k18
  have F19 := fun_mk (st := inClass (topS 26) 3) l19 c19 k19
  have F20 := fun_mk (st := topS 31) l20 c20 k20
  have F21 := fun_mk (st := topS 32) l21 c21 k21
  have F22 := fun_mk (st := topS 33) l22 c22 k22
  have F23 := fun_mk (st := topS 34) l23 c23 k23
  have F24 := fun_mk (st := topS 35) l24 c24 k24
  have F25 := fun_mk (st := topS 36) l25 c25 k25
  have F26 := fun_mk (st := topS 37) l26 c26 k26
  have F27 := fun_mk (st := topS 38) l27 c27 k27
  have F28 := fun_mk (st := topS 39) l28 c28 k28
  have F29 := fun_mk (st := topS 40) l29 c29 k29
  have F30 := fun_mk (st := topS 41) l30 c30 k30
  have F31 := fun_mk (st := topS 43) l31 c31 k31
  have F32 := fun_mk (st := topS 44) l32 c32 k32
  have F33 := fun_mk (st := topS 45) l33 c33 k33
  have F34 := fun_mk (st := topS 46) l34 c34 k34
  have F35 := fun_mk (st := topS 47) l35 c35 k35
  have F36 := fun_mk (st := topS 48) l36 c36 k36
  have F37 := fun_mk (st := topS 49) l37 c37 k37
  have F38 := fun_mk (st := topS 50) l38 c38 k38
  have F39 := fun_mk (st := topS 51) l39 c39 k39
  have F40 := fun_mk (st := topS 52) l40 c40 k40
  have F41 := fun_mk (st := topS 53) l41 c41 k41
  have F42 := fun_mk (st := topS 54) l42 c42 k42
  have F43 := fun_mk (st := topS 55) l43 c43 k43
  have F44 := fun_mk (st := topS 56) l44 c44 k44
  have Fl := fun_mk (st := s_law) ll cl kl
  have T : Txt K mg := {
    f_is_integer := f0,
    d_is_integer := _,
    fun_is_integer := F0,
    b_is_integer := F0.binds (ps := ["thing"]) fun _ _ _ _ _ _ us hl => match us, hl with | [_], _ => rfl,
    m_is_integer := PySem.W.mg_of X G a0,
    f_is_integer_within := f1,
    d_is_integer_within := _,
    fun_is_integer_within := F1,
    b_is_integer_within := F1.binds (ps := ["thing", "least", "most"]) fun _ _ _ _ _ _ us hl => match us, hl with | [_, _, _], _ => rfl,
    m_is_integer_within := PySem.W.mg_of X G a1,
    f_is_fraction := f2,
    d_is_fraction := _,
    fun_is_fraction := F2,
    b_is_fraction := F2.binds (ps := ["thing"]) fun _ _ _ _ _ _ us hl => match us, hl with | [_], _ => rfl,
    m_is_fraction := PySem.W.mg_of X G a2,
    f_is_amount := f3,
    d_is_amount := _,
    fun_is_amount := F3,
    b_is_amount := F3.binds (ps := ["thing"]) fun _ _ _ _ _ _ us hl => match us, hl with | [_], _ => rfl,
    m_is_amount := PySem.W.mg_of X G a3,
    f_ratio := f4,
    d_ratio := _,
    fun_ratio := F4,
    b_ratio := F4.binds (ps := ["top", "bottom"]) fun _ _ _ _ _ _ us hl => match us, hl with | [_, _], _ => rfl,
    m_ratio := PySem.W.mg_of X G a4,
    f_plus := f5,
    d_plus := _,
    fun_plus := F5,
    b_plus := F5.binds (ps := ["one", "other"]) fun _ _ _ _ _ _ us hl => match us, hl with | [_, _], _ => rfl,
    m_plus := PySem.W.mg_of X G a5,
    f_negative := f6,
    d_negative := _,
    fun_negative := F6,
    b_negative := F6.binds (ps := ["one"]) fun _ _ _ _ _ _ us hl => match us, hl with | [_], _ => rfl,
    m_negative := PySem.W.mg_of X G a6,
    f_minus := f7,
    d_minus := _,
    fun_minus := F7,
    b_minus := F7.binds (ps := ["one", "other"]) fun _ _ _ _ _ _ us hl => match us, hl with | [_, _], _ => rfl,
    m_minus := PySem.W.mg_of X G a7,
    f_times := f8,
    d_times := _,
    fun_times := F8,
    b_times := F8.binds (ps := ["one", "other"]) fun _ _ _ _ _ _ us hl => match us, hl with | [_, _], _ => rfl,
    m_times := PySem.W.mg_of X G a8,
    f_is_less := f9,
    d_is_less := _,
    fun_is_less := F9,
    b_is_less := F9.binds (ps := ["one", "other"]) fun _ _ _ _ _ _ us hl => match us, hl with | [_, _], _ => rfl,
    m_is_less := PySem.W.mg_of X G a9,
    f_total := f10,
    d_total := _,
    fun_total := F10,
    b_total := F10.binds (ps := ["amounts"]) fun _ _ _ _ _ _ us hl => match us, hl with | [_], _ => rfl,
    m_total := PySem.W.mg_of X G a10,
    f_weighted := f11,
    d_weighted := _,
    fun_weighted := F11,
    b_weighted := F11.binds (ps := ["weights", "amounts"]) fun _ _ _ _ _ _ us hl => match us, hl with | [_, _], _ => rfl,
    m_weighted := PySem.W.mg_of X G a11,
    f_u_are_parts := f12,
    d_u_are_parts := _,
    fun_u_are_parts := F12,
    b_u_are_parts := F12.binds (ps := ["parts", "outcomes"]) fun _ _ _ _ _ _ us hl => match us, hl with | [_, _], _ => rfl,
    m_u_are_parts := PySem.W.mg_of X G a12,
    f_u_is_work := f13,
    d_u_is_work := _,
    fun_u_is_work := F13,
    b_u_is_work := F13.binds (ps := ["work", "outcomes"]) fun _ _ _ _ _ _ us hl => match us, hl with | [_, _], _ => rfl,
    m_u_is_work := PySem.W.mg_of X G a13,
    f_u_are_works := f14,
    d_u_are_works := _,
    fun_u_are_works := F14,
    b_u_are_works := F14.binds (ps := ["works", "outcomes"]) fun _ _ _ _ _ _ us hl => match us, hl with | [_, _], _ => rfl,
    m_u_are_works := PySem.W.mg_of X G a14,
    f_u_are_worths := f15,
    d_u_are_worths := _,
    fun_u_are_worths := F15,
    b_u_are_worths := F15.binds (ps := ["worths"]) fun _ _ _ _ _ _ us hl => match us, hl with | [_], _ => rfl,
    m_u_are_worths := PySem.W.mg_of X G a15,
    f_JobD_initD := f16,
    d_JobD_initD := _,
    fun_JobD_initD := F16,
    b_JobD_initD := F16.binds (ps := ["self", "worths", "works"]) fun _ _ _ _ _ _ us hl => match us, hl with | [_, _, _], _ => rfl,
    f_Job_worths := f17,
    d_Job_worths := _,
    fun_Job_worths := F17,
    b_Job_worths := F17.binds (ps := ["self"]) fun _ _ _ _ _ _ us hl => match us, hl with | [_], _ => rfl,
    p_Job_worths := p17,
    pr_Job_worths := ⟨p1_17, p2_17, p3_17, rs17, p4_17⟩,
    f_Job_works := f18,
    d_Job_works := _,
    fun_Job_works := F18,
    b_Job_works := F18.binds (ps := ["self"]) fun _ _ _ _ _ _ us hl => match us, hl with | [_], _ => rfl,
    p_Job_works := p18,
    pr_Job_works := ⟨p1_18, p2_18, p3_18, rs18, p4_18⟩,
    f_JobD_lenD := f19,
    d_JobD_lenD := _,
    fun_JobD_lenD := F19,
    b_JobD_lenD := F19.binds (ps := ["self"]) fun _ _ _ _ _ _ us hl => match us, hl with | [_], _ => rfl,
    me_JobD_lenD := ⟨a19, i19, k19⟩,
    f_check_job := f20,
    d_check_job := _,
    fun_check_job := F20,
    b_check_job := F20.binds (ps := ["job"]) fun _ _ _ _ _ _ us hl => match us, hl with | [_], _ => rfl,
    m_check_job := PySem.W.mg_of X G a20,
    f_check_work := f21,
    d_check_work := _,
    fun_check_work := F21,
    b_check_work := F21.binds (ps := ["job", "work"]) fun _ _ _ _ _ _ us hl => match us, hl with | [_, _], _ => rfl,
    m_check_work := PySem.W.mg_of X G a21,
    f_is_pay := f22,
    d_is_pay := _,
    fun_is_pay := F22,
    b_is_pay := F22.binds (ps := ["job", "pay"]) fun _ _ _ _ _ _ us hl => match us, hl with | [_, _], _ => rfl,
    m_is_pay := PySem.W.mg_of X G a22,
    f_check_pay := f23,
    d_check_pay := _,
    fun_check_pay := F23,
    b_check_pay := F23.binds (ps := ["job", "pay"]) fun _ _ _ _ _ _ us hl => match us, hl with | [_, _], _ => rfl,
    m_check_pay := PySem.W.mg_of X G a23,
    f_work_efforts := f24,
    d_work_efforts := _,
    fun_work_efforts := F24,
    b_work_efforts := F24.binds (ps := ["job"]) fun _ _ _ _ _ _ us hl => match us, hl with | [_], _ => rfl,
    m_work_efforts := PySem.W.mg_of X G a24,
    f_work_chances := f25,
    d_work_chances := _,
    fun_work_chances := F25,
    b_work_chances := F25.binds (ps := ["job", "work"]) fun _ _ _ _ _ _ us hl => match us, hl with | [_, _], _ => rfl,
    m_work_chances := PySem.W.mg_of X G a25,
    f_average_pay := f26,
    d_average_pay := _,
    fun_average_pay := F26,
    b_average_pay := F26.binds (ps := ["job", "work", "pay"]) fun _ _ _ _ _ _ us hl => match us, hl with | [_, _, _], _ => rfl,
    m_average_pay := PySem.W.mg_of X G a26,
    f_average_worth := f27,
    d_average_worth := _,
    fun_average_worth := F27,
    b_average_worth := F27.binds (ps := ["job", "work"]) fun _ _ _ _ _ _ us hl => match us, hl with | [_, _], _ => rfl,
    m_average_worth := PySem.W.mg_of X G a27,
    f_gain := f28,
    d_gain := _,
    fun_gain := F28,
    b_gain := F28.binds (ps := ["job", "work", "pay"]) fun _ _ _ _ _ _ us hl => match us, hl with | [_, _, _], _ => rfl,
    m_gain := PySem.W.mg_of X G a28,
    f_profit := f29,
    d_profit := _,
    fun_profit := F29,
    b_profit := F29.binds (ps := ["job", "work", "pay"]) fun _ _ _ _ _ _ us hl => match us, hl with | [_, _, _], _ => rfl,
    m_profit := PySem.W.mg_of X G a29,
    f_wanted := f30,
    d_wanted := _,
    fun_wanted := F30,
    b_wanted := F30.binds (ps := ["job", "pay"]) fun _ _ _ _ _ _ us hl => match us, hl with | [_, _], _ => rfl,
    m_wanted := PySem.W.mg_of X G a30,
    f_u_law_number := f31,
    d_u_law_number := _,
    fun_u_law_number := F31,
    b_u_law_number := F31.binds (ps := ["script", "index"]) fun _ _ _ _ _ _ us hl => match us, hl with | [_, _], _ => rfl,
    m_u_law_number := PySem.W.mg_of X G a31,
    f_u_law_lowest := f32,
    d_u_law_lowest := _,
    fun_u_law_lowest := F32,
    b_u_law_lowest := F32.binds (ps := ["top", "bottom"]) fun _ _ _ _ _ _ us hl => match us, hl with | [_, _], _ => rfl,
    m_u_law_lowest := PySem.W.mg_of X G a32,
    f_u_law_sum := f33,
    d_u_law_sum := _,
    fun_u_law_sum := F33,
    b_u_law_sum := F33.binds (ps := ["one", "other"]) fun _ _ _ _ _ _ us hl => match us, hl with | [_, _], _ => rfl,
    m_u_law_sum := PySem.W.mg_of X G a33,
    f_u_law_less := f34,
    d_u_law_less := _,
    fun_u_law_less := F34,
    b_u_law_less := F34.binds (ps := ["one", "other"]) fun _ _ _ _ _ _ us hl => match us, hl with | [_, _], _ => rfl,
    m_u_law_less := PySem.W.mg_of X G a34,
    f_u_law_product := f35,
    d_u_law_product := _,
    fun_u_law_product := F35,
    b_u_law_product := F35.binds (ps := ["one", "other"]) fun _ _ _ _ _ _ us hl => match us, hl with | [_, _], _ => rfl,
    m_u_law_product := PySem.W.mg_of X G a35,
    f_u_law_below := f36,
    d_u_law_below := _,
    fun_u_law_below := F36,
    b_u_law_below := F36.binds (ps := ["one", "other"]) fun _ _ _ _ _ _ us hl => match us, hl with | [_, _], _ => rfl,
    m_u_law_below := PySem.W.mg_of X G a36,
    f_u_law_dot := f37,
    d_u_law_dot := _,
    fun_u_law_dot := F37,
    b_u_law_dot := F37.binds (ps := ["row", "other"]) fun _ _ _ _ _ _ us hl => match us, hl with | [_, _], _ => rfl,
    m_u_law_dot := PySem.W.mg_of X G a37,
    f_u_law_job := f38,
    d_u_law_job := _,
    fun_u_law_job := F38,
    b_u_law_job := F38.binds (ps := ["script", "index"]) fun _ _ _ _ _ _ us hl => match us, hl with | [_, _], _ => rfl,
    m_u_law_job := PySem.W.mg_of X G a38,
    f_u_law_chances := f39,
    d_u_law_chances := _,
    fun_u_law_chances := F39,
    b_u_law_chances := F39.binds (ps := ["pack", "work"]) fun _ _ _ _ _ _ us hl => match us, hl with | [_, _], _ => rfl,
    m_u_law_chances := PySem.W.mg_of X G a39,
    f_u_law_gain := f40,
    d_u_law_gain := _,
    fun_u_law_gain := F40,
    b_u_law_gain := F40.binds (ps := ["pack", "work", "pay"]) fun _ _ _ _ _ _ us hl => match us, hl with | [_, _, _], _ => rfl,
    m_u_law_gain := PySem.W.mg_of X G a40,
    f_u_law_worth := f41,
    d_u_law_worth := _,
    fun_u_law_worth := F41,
    b_u_law_worth := F41.binds (ps := ["pack", "work"]) fun _ _ _ _ _ _ us hl => match us, hl with | [_, _], _ => rfl,
    m_u_law_worth := PySem.W.mg_of X G a41,
    f_u_law_pay := f42,
    d_u_law_pay := _,
    fun_u_law_pay := F42,
    b_u_law_pay := F42.binds (ps := ["script", "index", "many"]) fun _ _ _ _ _ _ us hl => match us, hl with | [_, _, _], _ => rfl,
    m_u_law_pay := PySem.W.mg_of X G a42,
    f_u_law_pay_right := f43,
    d_u_law_pay_right := _,
    fun_u_law_pay_right := F43,
    b_u_law_pay_right := F43.binds (ps := ["pack", "pay"]) fun _ _ _ _ _ _ us hl => match us, hl with | [_, _], _ => rfl,
    m_u_law_pay_right := PySem.W.mg_of X G a43,
    f_u_law_all_right := f44,
    d_u_law_all_right := _,
    fun_u_law_all_right := F44,
    b_u_law_all_right := F44.binds (ps := ["script"]) fun _ _ _ _ _ _ us hl => match us, hl with | [_], _ => rfl,
    m_u_law_all_right := PySem.W.mg_of X G a44,
    c_Job := C_Job,
    cl_Job := ⟨pg_Job, hd_Job, po_Job, sa_Job⟩,
    mc_Job := PySem.W.mg_of X G aC_Job,
    k1_Job := k1_Job,
    k4_Job := k4_Job,
    k5_Job := kit_self _ _,
    mk_Job := ⟨mk_Job, a16, i16, kc_Job⟩,
    na_Job_worths := na_Job_worths,
    na_Job_works := na_Job_works,
    n_abs := PySem.W.mg_none_of X G z_abs,
    n_all := PySem.W.mg_none_of X G z_all,
    n_any := PySem.W.mg_none_of X G z_any,
    n_bool := PySem.W.mg_none_of X G z_bool,
    n_int := PySem.W.mg_none_of X G z_int,
    n_isinstance := PySem.W.mg_none_of X G z_isinstance,
    n_len := PySem.W.mg_none_of X G z_len,
    n_list := PySem.W.mg_none_of X G z_list,
    n_range := PySem.W.mg_none_of X G z_range,
    n_sum := PySem.W.mg_none_of X G z_sum,
    n_tuple := PySem.W.mg_none_of X G z_tuple,
    n_zip := PySem.W.mg_none_of X G z_zip,
    t_FEWEST := t_FEWEST,
    m_FEWEST := PySem.W.mg_of X G m_FEWEST,
    t_MOST := t_MOST,
    m_MOST := PySem.W.mg_of X G m_MOST,
    t_MOST_EFFORT := t_MOST_EFFORT,
    m_MOST_EFFORT := PySem.W.mg_of X G m_MOST_EFFORT,
    t_MOST_PART := t_MOST_PART,
    m_MOST_PART := PySem.W.mg_of X G m_MOST_PART,
    t_MOST_WORTH := t_MOST_WORTH,
    m_MOST_WORTH := PySem.W.mg_of X G m_MOST_WORTH,
    a_ZERO := a_ZERO,
    m_ZERO := PySem.W.mg_of X G m_ZERO,
    r_ZERO := fun H => .tup (vs := [V.int 0, V.int 1]) (.inr ⟨_, _, _, l_ZERO, rfl, rfl, (by show 2 ≤ sizeLine; decide), (.cons ⟨_, rfl⟩ (.cons ⟨_, rfl⟩ .nil))⟩) (.cons (.int 0) (.cons (.int 1) .nil)),
    m_gcd := PySem.W.mg_of X G m_gcd,
    k2 := kk2,
    k3 := kk3 }
  exact ⟨_, fun s v => .of_eq rfl, fun base _ _ => ok_law Fl T (PySem.W.mg_of X G aP) (all_true T.c_Job)⟩
theorem walk {l : PySem.W.OpenLaw} {q : Program} {loose : List Str} {XP : (Str → Option Value) → Heap → Prop} {YP : World → Heap → Prop} {d : DefRec} {K : Params → PySem.W.Frag} (hn : l.most = some 63) (hdf : d.params.defaults = [])
    (hY : ∀ (w : World) (h : Heap), YP w h → (K w.params).In h) (F : ∀ (w : World) (mg : Str → Option Value) (fa : Addr) (h : Heap), (K w.params).In h → h.Ns mainGlobals mg → mg d.name = some (.ref fa) →
      ∃ fd : FuncData, (∀ (s : Shared) (u : Value), BindsTo s fd ⟨[u], []⟩ [("script", u)]) ∧ ∀ base : Heap, (K w.params).In base → base.Ns mainGlobals mg → FnOk l.prog w (K w.params) mg base CX0 10 fa fd ["script"] (spLaw (K w.params))) :
    PySem.W.WalkO q loose XP YP l.row.toRowW d [] (fun f vs => PySem.call f vs) :=
  L2.walk_of (n := 63) (k := 10) (x := "script") (CX := fun _ => CX0) (sp := fun w => spLaw (K w.params)) hn (by decide) hdf ⟨rfl, by decide, by decide⟩ hY F (fun _ _ a ns hl _ hS => ⟨a, ns, rfl, hS, hl, fun _ => rfl⟩) fun _ _ _ _ _ z => z
end K01
open PySem PySem.W PyProof.Rows
set_option maxHeartbeats 0 in
theorem PySem.Challenge.cw_outcomepay_k01_whole_jobs_holds : PySem.Challenge.rw_outcomepay_k01_whole_jobs.Holds := by
  w_on; o_law; k_head; (case hw => w_witness2)
  k_fill
  refine K01.walk (l := PySem.Challenge.rw_outcomepay_k01_whole_jobs) rfl rfl (fun w h Y => PySem.W.kIn_of Y) ?F
  case F =>
    intro w mg fa h KX G hmg
    refine' K01.all_mk KX G hmg ?aC_Job ?a0 ?l0 ?c0 ?k0 ?a1 ?l1 ?c1 ?k1 ?a2 ?l2 ?c2 ?k2 ?a3 ?l3 ?c3 ?k3 ?a4 ?l4 ?c4 ?k4 ?a5 ?l5 ?c5 ?k5 ?a6 ?l6 ?c6 ?k6 ?a7 ?l7 ?c7 ?k7 ?a8 ?l8 ?c8 ?k8 ?a9 ?l9 ?c9 ?k9 ?a10 ?l10 ?c10 ?k10 ?a11 ?l11 ?c11 ?k11 ?a12 ?l12 ?c12 ?k12 ?a13 ?l13 ?c13 ?k13 ?a14 ?l14 ?c14 ?k14 ?a15 ?l15 ?c15 ?k15 ?a16 ?i16 ?l16 ?c16 ?k16 ?p1_17 ?p4_17 ?p2_17 ?p3_17 ?l17 ?c17 ?k17 ?p1_18 ?p4_18 ?p2_18 ?p3_18 ?l18 ?c18 ?k18 ?a19 ?i19 ?l19 ?c19 ?k19 ?a20 ?l20 ?c20 ?k20 ?a21 ?l21 ?c21 ?k21 ?a22 ?l22 ?c22 ?k22 ?a23 ?l23 ?c23 ?k23 ?a24 ?l24 ?c24 ?k24 ?a25 ?l25 ?c25 ?k25 ?a26 ?l26 ?c26 ?k26 ?a27 ?l27 ?c27 ?k27 ?a28 ?l28 ?c28 ?k28 ?a29 ?l29 ?c29 ?k29 ?a30 ?l30 ?c30 ?k30 ?a31 ?l31 ?c31 ?k31 ?a32 ?l32 ?c32 ?k32 ?a33 ?l33 ?c33 ?k33 ?a34 ?l34 ?c34 ?k34 ?a35 ?l35 ?c35 ?k35 ?a36 ?l36 ?c36 ?k36 ?a37 ?l37 ?c37 ?k37 ?a38 ?l38 ?c38 ?k38 ?a39 ?l39 ?c39 ?k39 ?a40 ?l40 ?c40 ?k40 ?a41 ?l41 ?c41 ?k41 ?a42 ?l42 ?c42 ?k42 ?a43 ?l43 ?c43 ?k43 ?a44 ?l44 ?c44 ?k44 ?pg_Job ?hd_Job ?po_Job ?sa_Job ?mk_Job ?kc_Job ?k1_Job ?k4_Job ?na_Job_worths ?na_Job_works ?z_abs ?z_all ?z_any ?z_bool ?z_int ?z_isinstance ?z_len ?z_list ?z_range ?z_sum ?z_tuple ?z_zip ?m_FEWEST ?m_MOST ?m_MOST_EFFORT ?m_MOST_PART ?m_MOST_WORTH ?m_ZERO ?l_ZERO ?m_gcd ?kk2 ?kk3 ?aP ?al ?ll ?cl ?kl
    (case aC_Job => k_is)
    (case a0 => k_is)
    (case l0 => k_is)
    (case c0 => k_is)
    (case k0 => k_is)
    (case a1 => k_is)
    (case l1 => k_is)
    (case c1 => k_is)
    (case k1 => k_is)
    (case a2 => k_is)
    (case l2 => k_is)
    (case c2 => k_is)
    (case k2 => k_is)
    (case a3 => k_is)
    (case l3 => k_is)
    (case c3 => k_is)
    (case k3 => k_is)
    (case a4 => k_is)
    (case l4 => k_is)
    (case c4 => k_is)
    (case k4 => k_is)
    (case a5 => k_is)
    (case l5 => k_is)
    (case c5 => k_is)
    (case k5 => k_is)
    (case a6 => k_is)
    (case l6 => k_is)
    (case c6 => k_is)
    (case k6 => k_is)
    (case a7 => k_is)
    (case l7 => k_is)
    (case c7 => k_is)
    (case k7 => k_is)
    (case a8 => k_is)
    (case l8 => k_is)
    (case c8 => k_is)
    (case k8 => k_is)
    (case a9 => k_is)
    (case l9 => k_is)
    (case c9 => k_is)
    (case k9 => k_is)
    (case a10 => k_is)
    (case l10 => k_is)
    (case c10 => k_is)
    (case k10 => k_is)
    (case a11 => k_is)
    (case l11 => k_is)
    (case c11 => k_is)
    (case k11 => k_is)
    (case a12 => k_is)
    (case l12 => k_is)
    (case c12 => k_is)
    (case k12 => k_is)
    (case a13 => k_is)
    (case l13 => k_is)
    (case c13 => k_is)
    (case k13 => k_is)
    (case a14 => k_is)
    (case l14 => k_is)
    (case c14 => k_is)
    (case k14 => k_is)
    (case a15 => k_is)
    (case l15 => k_is)
    (case c15 => k_is)
    (case k15 => k_is)
    (case a16 => k_is)
    (case i16 => k_is)
    (case l16 => k_is)
    (case c16 => k_is)
    (case k16 => k_is)
    (case p1_17 => k_is)
    (case p4_17 => k_is)
    (case p2_17 => k_is)
    (case p3_17 => k_is)
    (case l17 => k_is)
    (case c17 => k_is)
    (case k17 => k_is)
    (case p1_18 => k_is)
    (case p4_18 => k_is)
    (case p2_18 => k_is)
    (case p3_18 => k_is)
    (case l18 => k_is)
    (case c18 => k_is)
    (case k18 => k_is)
    (case a19 => k_is)
    (case i19 => k_is)
    (case l19 => k_is)
    (case c19 => k_is)
    (case k19 => k_is)
    (case a20 => k_is)
    (case l20 => k_is)
    (case c20 => k_is)
    (case k20 => k_is)
    (case a21 => k_is)
    (case l21 => k_is)
    (case c21 => k_is)
    (case k21 => k_is)
    (case a22 => k_is)
    (case l22 => k_is)
    (case c22 => k_is)
    (case k22 => k_is)
    (case a23 => k_is)
    (case l23 => k_is)
    (case c23 => k_is)
    (case k23 => k_is)
    (case a24 => k_is)
    (case l24 => k_is)
    (case c24 => k_is)
    (case k24 => k_is)
    (case a25 => k_is)
    (case l25 => k_is)
    (case c25 => k_is)
    (case k25 => k_is)
    (case a26 => k_is)
    (case l26 => k_is)
    (case c26 => k_is)
    (case k26 => k_is)
    (case a27 => k_is)
    (case l27 => k_is)
    (case c27 => k_is)
    (case k27 => k_is)
    (case a28 => k_is)
    (case l28 => k_is)
    (case c28 => k_is)
    (case k28 => k_is)
    (case a29 => k_is)
    (case l29 => k_is)
    (case c29 => k_is)
    (case k29 => k_is)
    (case a30 => k_is)
    (case l30 => k_is)
    (case c30 => k_is)
    (case k30 => k_is)
    (case a31 => k_is)
    (case l31 => k_is)
    (case c31 => k_is)
    (case k31 => k_is)
    (case a32 => k_is)
    (case l32 => k_is)
    (case c32 => k_is)
    (case k32 => k_is)
    (case a33 => k_is)
    (case l33 => k_is)
    (case c33 => k_is)
    (case k33 => k_is)
    (case a34 => k_is)
    (case l34 => k_is)
    (case c34 => k_is)
    (case k34 => k_is)
    (case a35 => k_is)
    (case l35 => k_is)
    (case c35 => k_is)
    (case k35 => k_is)
    (case a36 => k_is)
    (case l36 => k_is)
    (case c36 => k_is)
    (case k36 => k_is)
    (case a37 => k_is)
    (case l37 => k_is)
    (case c37 => k_is)
    (case k37 => k_is)
    (case a38 => k_is)
    (case l38 => k_is)
    (case c38 => k_is)
    (case k38 => k_is)
    (case a39 => k_is)
    (case l39 => k_is)
    (case c39 => k_is)
    (case k39 => k_is)
    (case a40 => k_is)
    (case l40 => k_is)
    (case c40 => k_is)
    (case k40 => k_is)
    (case a41 => k_is)
    (case l41 => k_is)
    (case c41 => k_is)
    (case k41 => k_is)
    (case a42 => k_is)
    (case l42 => k_is)
    (case c42 => k_is)
    (case k42 => k_is)
    (case a43 => k_is)
    (case l43 => k_is)
    (case c43 => k_is)
    (case k43 => k_is)
    (case a44 => k_is)
    (case l44 => k_is)
    (case c44 => k_is)
    (case k44 => k_is)
    (case pg_Job => k_is)
    (case hd_Job => k_is)
    (case po_Job => k_is)
    (case sa_Job => k_is)
    (case mk_Job => k_is)
    (case kc_Job => k_is)
    (case k1_Job => k_is)
    (case k4_Job => k_is)
    (case na_Job_worths => k_is)
    (case na_Job_works => k_is)
    (case z_abs => k_is)
    (case z_all => k_is)
    (case z_any => k_is)
    (case z_bool => k_is)
    (case z_int => k_is)
    (case z_isinstance => k_is)
    (case z_len => k_is)
    (case z_list => k_is)
    (case z_range => k_is)
    (case z_sum => k_is)
    (case z_tuple => k_is)
    (case z_zip => k_is)
    (case m_FEWEST => k_is)
    (case m_MOST => k_is)
    (case m_MOST_EFFORT => k_is)
    (case m_MOST_PART => k_is)
    (case m_MOST_WORTH => k_is)
    (case m_ZERO => k_is)
    (case l_ZERO => k_is)
    (case m_gcd => k_is)
    (case kk2 => k_is)
    (case kk3 => k_is)
    (case aP => k_is)
    (case al => k_is)
    (case ll => k_is)
    (case cl => k_is)
    (case kl => k_is)

