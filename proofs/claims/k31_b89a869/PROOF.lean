import PyProof.Rows.All
import Wide.All
import OpenK.AllK
import Wide.FinOn
import PySem.Challenge.RW_hamperlot_k31_lumps_of_bills
import HandS.ForMost
import HandS.Exc
import HandS.TryOnly
import HandS.ExcInit
import HandS.ExcField
import HandS.WordsExc
import HandS.Lambda
import HandS.EndTab
import HandS.IsInst
import HandS.TupMul
import HandS.TupAny
import HandS.Walk
import HandS.Defaults
import KE.KTupSum
import KE.DatumOrd
import KE.GoesEnum
import HandS.TryMany
import HandS.Wide
import HandS.Zip
import HandS.SortInts
import HandS.Conv
import HandS.SortRule
import HandS.Deep
import HandS.Finally
import KE.KDictCopyH
import HandS.Style
import KE.KEqSeq
import HandS.Rev
import KE.SortKeyHeap
import KE.KSortKey
import KE.SortData
import KE.DataFind
import HandS.SetFor
import KE.KNestM
set_option Elab.async false
set_option linter.all false
set_option maxRecDepth 100000
set_option maxHeartbeats 4000000
/-! Rules of one's own beside the layer's: sum, max, min of a tuple of ints; enumerate of a tuple; a tuple times 1. -/
namespace HL
open PySem PySem.Spec PyProof.Rows L2
section
variable {X : Cx}
theorem tupI {pins : List (Addr × Obj)} {σ : L2.St} {H : Hp} {s : Shared} {a : Addr} {ns : List Int} (I : Inv X pins σ H s) (h : SqT X.K H a (ns.map V.int)) :
    ∃ its : List Value, IntsAre its ns ∧ s.heap.IsTuple a its.toArray := by
  obtain ⟨its, rv, ⟨o, ho, hc, n, hd⟩, _⟩ := I.tuple h
  exact ⟨its, rv.ints, o, ho, hc, n, hd⟩
/-- sum(t) -/
def rSumT (K : PySem.W.Frag) : List V → Hp → VK → Prop := fun vs H Q =>
  ∃ (a : Addr) (ns : List Int), vs = [V.ref a] ∧ SqT K H a (ns.map V.int) ∧ Q (.int ns.sum) H
theorem cr_sumT (hc : X.calm = true) : CallR X (.builtin "sum") (rSumT X.K) := by
  intro pins s σ H vs us Q I r h
  obtain ⟨a, ns, rfl, hs, q⟩ := h
  obtain ⟨its, hi, hl⟩ := tupI I hs
  rw [Vals.ref1 r]
  obtain ⟨xs, e⟩ := hi.allInts.items
  have hn : numsOf (intItems xs).toList = ns := by
    rw [← e]
    exact hi.numsOf
  rw [nums_intItems] at hn
  rw [e] at hl
  refine PySem.W.ktm_sumG (I.ok.hd hc) hl fun h' tk t' hk => ?_
  rw [preSum_eq]
  rw [List.take_of_length_le (by simp), hn]
  exact ⟨.int _, H, I.kept hk, ⟨_, rfl⟩, q⟩
theorem maxOf_le (x : Int) (xs : List Int) : PySem.W.maxOf x xs ∈ x :: xs ∧ ∀ y ∈ x :: xs, y ≤ PySem.W.maxOf x xs := by
  induction xs generalizing x with
  | nil => exact ⟨List.mem_cons_self, fun y hy => by simp at hy; subst hy; exact Int.le_refl _⟩
  | cons z zs ih =>
    have e : PySem.W.maxOf x (z :: zs) = PySem.W.maxOf (if PySem.W.DatumOrd.lt x z = true then z else x) zs := rfl
    have d : (PySem.W.DatumOrd.lt x z = true) ↔ x < z := by
      show decide (x < z) = true ↔ x < z
      exact decide_eq_true_iff
    rw [e]
    by_cases c : x < z
    · rw [if_pos (d.mpr c)]
      obtain ⟨h1, h2⟩ := ih z
      refine ⟨List.mem_cons_of_mem _ h1, fun y hy => ?_⟩
      rcases List.mem_cons.mp hy with r | r
      · have := h2 z List.mem_cons_self
        omega
      · exact h2 y r
    · rw [if_neg (fun q => c (d.mp q))]
      obtain ⟨h1, h2⟩ := ih x
      refine ⟨?_, fun y hy => ?_⟩
      · rcases List.mem_cons.mp h1 with r | r
        · rw [r]; exact List.mem_cons_self
        · exact List.mem_cons_of_mem _ (List.mem_cons_of_mem _ r)
      · rcases List.mem_cons.mp hy with r | r
        · have := h2 x List.mem_cons_self
          omega
        · rcases List.mem_cons.mp r with r | r
          · have := h2 x List.mem_cons_self
            omega
          · exact h2 y (List.mem_cons_of_mem _ r)
theorem minOf_le (x : Int) (xs : List Int) : PySem.W.minOf x xs ∈ x :: xs ∧ ∀ y ∈ x :: xs, PySem.W.minOf x xs ≤ y := by
  induction xs generalizing x with
  | nil => exact ⟨List.mem_cons_self, fun y hy => by simp at hy; subst hy; exact Int.le_refl _⟩
  | cons z zs ih =>
    have e : PySem.W.minOf x (z :: zs) = PySem.W.minOf (if PySem.W.DatumOrd.lt z x = true then z else x) zs := rfl
    have d : (PySem.W.DatumOrd.lt z x = true) ↔ z < x := by
      show decide (z < x) = true ↔ z < x
      exact decide_eq_true_iff
    rw [e]
    by_cases c : z < x
    · rw [if_pos (d.mpr c)]
      obtain ⟨h1, h2⟩ := ih z
      refine ⟨List.mem_cons_of_mem _ h1, fun y hy => ?_⟩
      rcases List.mem_cons.mp hy with r | r
      · have := h2 z List.mem_cons_self
        omega
      · exact h2 y r
    · rw [if_neg (fun q => c (d.mp q))]
      obtain ⟨h1, h2⟩ := ih x
      refine ⟨?_, fun y hy => ?_⟩
      · rcases List.mem_cons.mp h1 with r | r
        · rw [r]; exact List.mem_cons_self
        · exact List.mem_cons_of_mem _ (List.mem_cons_of_mem _ r)
      · rcases List.mem_cons.mp hy with r | r
        · have := h2 x List.mem_cons_self
          omega
        · rcases List.mem_cons.mp r with r | r
          · have := h2 x List.mem_cons_self
            omega
          · exact h2 y (List.mem_cons_of_mem _ r)
/-- max(t), min(t) of ints -/
def rMaxT (K : PySem.W.Frag) : List V → Hp → VK → Prop := fun vs H Q =>
  ∃ (a : Addr) (ns : List Int), vs = [V.ref a] ∧ SqT K H a (ns.map V.int) ∧ 0 < ns.length ∧ ∀ m, m ∈ ns → (∀ y ∈ ns, y ≤ m) → Q (.int m) H
def rMinT (K : PySem.W.Frag) : List V → Hp → VK → Prop := fun vs H Q =>
  ∃ (a : Addr) (ns : List Int), vs = [V.ref a] ∧ SqT K H a (ns.map V.int) ∧ 0 < ns.length ∧ ∀ m, m ∈ ns → (∀ y ∈ ns, m ≤ y) → Q (.int m) H
theorem int_of_holds {h : Heap} {v : Value} {x : Int} (H : PySem.W.Holds h v x) : ∃ t, v = Value.int x t := by
  have z := PySem.W.HoldAll.toInts (PySem.W.HoldAll.cons H PySem.W.HoldAll.nil)
  cases z with
  | cons n t z => exact ⟨t, rfl⟩
theorem cr_maxT (hc : X.calm = true) (hu : X.A.units + 64 < cLine) : CallR X (.builtin "max") (rMaxT X.K) := by
  intro pins s σ H vs us Q I r h
  obtain ⟨a, ns, rfl, hs, hne, q⟩ := h
  obtain ⟨its, hi, hl⟩ := tupI I hs
  rw [Vals.ref1 r]
  cases ns with
  | nil => simp at hne
  | cons x xs =>
    refine PySem.W.max_tuple_datum (x := x) (xs := xs) (I.ok.hd hc) hl (PySem.W.HoldAll.of_ints (by simpa using hi)) (by show X.A.units + 1 + 0 < cLine; omega) fun i v h' tk _ hv hk => ?_
    obtain ⟨t, rfl⟩ := int_of_holds hv
    obtain ⟨h1, h2⟩ := maxOf_le x xs
    exact ⟨.int _, H, I.kept hk, ⟨_, rfl⟩, q _ h1 h2⟩
theorem cr_minT (hc : X.calm = true) (hu : X.A.units + 64 < cLine) : CallR X (.builtin "min") (rMinT X.K) := by
  intro pins s σ H vs us Q I r h
  obtain ⟨a, ns, rfl, hs, hne, q⟩ := h
  obtain ⟨its, hi, hl⟩ := tupI I hs
  rw [Vals.ref1 r]
  cases ns with
  | nil => simp at hne
  | cons x xs =>
    refine PySem.W.min_tuple_datum (x := x) (xs := xs) (I.ok.hd hc) hl (PySem.W.HoldAll.of_ints (by simpa using hi)) (by show X.A.units + 1 + 0 < cLine; omega) fun i v h' tk _ hv hk => ?_
    obtain ⟨t, rfl⟩ := int_of_holds hv
    obtain ⟨h1, h2⟩ := minOf_le x xs
    exact ⟨.int _, H, I.kept hk, ⟨_, rfl⟩, q _ h1 h2⟩
end
end HL

namespace HL
open PySem PySem.Spec PyProof.Rows L2
open AutoSeq1 (wpAny_loadPart')
/-! enumerate(t), t a tuple -/
abbrev oIt (t : Addr) : Obj := { cls := .type "tuple_iterator", data := .fields #[.ref t, .int 0 0] }
abbrev oEn (i : Addr) : Obj := { cls := .type "enumerate", data := .fields #[.none, .bool false, .ref i, rawInt 0, .none, .none] }
theorem meets_enumT (t : Addr) (items : Array Value) (o : Obj) (tyE : ∀ h : Heap, h.get? t = some o → h.IsTuple t items) :
    Meets (Builtin.«enumerate.__new__» ⟨[.type "enumerate", .ref t], []⟩)
      (fun _ R s => s.heap.get? t = some o ∧ R (.ok (.ret (.ref (s.heap.push (oIt t)).objs.size))) { s with heap := (s.heap.push (oIt t)).push (oEn s.heap.objs.size) }) :=
  .of_wp fun prog w A R s h => by
    obtain ⟨hp, g, d, tk, os⟩ := s
    obtain ⟨hl, h⟩ := h
    have hsub := sub_enumerate
    have hL : Heap.IsTuple (Shared.heap ⟨hp, g, d, tk, os⟩) t items := tyE _ hl
    wp_walk using wpAny_loadPart' hl
    refine wpAny_stack_any fun stk => wpAny_pure ?_
    split
    · rename_i c _ _ _ _ _
      cases (c == Value.type "enumerate") <;> (wp_walk using wpAny_loadPart' hl, wpAny_pyIter_tuple hL; exact ⟨_, rfl, h⟩)
    · wp_walk using wpAny_loadPart' hl, wpAny_pyIter_tuple hL
      exact ⟨_, rfl, h⟩
theorem call_enumT {prog : Program} {w : World} {A : Around} {E : Value → Shared → Prop} {s : Shared} {t : Addr} {items : Array Value} {Q : Value → Shared → Prop} (hL : s.heap.IsTuple t items)
    (h : ∀ h', IsEnum h' (s.heap.objs.size + 1) s.heap.objs.size 0 .none → h'.IsTupleIter s.heap.objs.size t 0 →
      (∀ b o, s.heap.get? b = some o → h'.get? b = some o) → Q (.ref (s.heap.objs.size + 1)) { s with heap := h' }) :
    wpAny (model prog w) A (call (.type "enumerate") [.ref t]) Q E s := by
  obtain ⟨o, hl, hc, n, hd⟩ := hL
  refine callType_new F.called_enumerate (by decide) (F.typeCall_enumerate_1 _) (F.newCall_enumerate_1 _) (fun obj => F.args_object_init_2 obj _) F.entry_enumerate_new
    (meets_enumT t items o fun h' e => ⟨o, e, hc, n, hd⟩) ⟨hl, ?_⟩
  have hz : (s.heap.push (oIt t)).objs.size = s.heap.objs.size + 1 := Heap.size_push ..
  show _ ∧ _
  rw [hz]
  have hen : IsEnum ((s.heap.push (oIt t)).push (oEn s.heap.objs.size)) (s.heap.objs.size + 1) s.heap.objs.size 0 .none := by
    have q := Heap.get?_push_size (s.heap.push (oIt t)) (o := oEn s.heap.objs.size) rfl
    rw [hz] at q
    exact q
  exact ⟨⟨_, hen, rfl⟩, h _ hen ⟨_, Heap.get?_push_of_some _ (Heap.get?_push_size _ rfl), rfl, rfl⟩ fun b o x => Heap.get?_push_of_some _ (Heap.get?_push_of_some _ x)⟩
theorem enum_endT {prog : Program} {w : World} {A : Around} {E : Value → Shared → Prop} {s : Shared} {e it t : Addr} {i : Nat} {items : Array Value} {old : Value} {Q : Option Value → Shared → Prop}
    (hh : A.handled = none) (hen : IsEnum s.heap e it i old) (hit : s.heap.IsTupleIter it t i) (hl : s.heap.IsTuple t items) (hx : items[i]? = none)
    (wish : ∀ h', Heap.ExtBut it s.heap h' → Q none { s with heap := h' }) : wpAny (model prog w) A (pyNext (.ref e)) Q E s := by
  have tyE : s.TypeIs (.ref e) "enumerate" := ⟨_, hen, rfl⟩
  unfold pyNext
  refine wpAny_bind (wpAny_attempt (wpAny_callSpecial?_slot (name := Str.ofString "__next__") tyE F.slot_enumerate_next (wpAny_call_entry F.slot_enumerate_next tyE F.entry_enumerate_next ?_ (F.args_enumerate_next_1 _))))
  show wpAny _ _ (field (.ref e) 2 >>= _) _ _ _
  refine wpAny_bind (wpAny_field hen rfl (x := .ref it) rfl (wpAny_bind (wpAny_nextOf_tuple_end hh hit hl hx fun h' x hen' hx' => ?_)))
  obtain ⟨o, ho, hc⟩ := hx'
  exact wpAny_bind (wpAny_isInstance (T := "StopIteration") (b := true) ⟨o, ho, hc⟩ isSubtype_stop (wpAny_pure (wish _ hen')))
/-- the tuple at a, each item in a new pair -/
def IteT (K : PySem.W.Frag) (a : Addr) : It where
  go := fun i H => ∃ (xs : List V) (x : V), SqT K H a xs ∧ xs[i]? = some x
  yld := fun i H v H' => ∃ T x, v = .ref T ∧ H T = none ∧ H' = upd H T (.tup [.int (i : Nat), x]) ∧ ∀ xs, SqT K H a xs → xs[i]? = some x
  stop := fun i H => ∃ xs : List V, SqT K H a xs ∧ xs.length ≤ i
theorem turn_enumT {P : Program} {w : World} {K : PySem.W.Frag} {elts : List Expr} {kk : Nat} {tpos : Pos} (a e it : Addr) (hai : a ≠ it) :
    Turn P w K (.Tuple elts kk tpos) (IteT K a) [e, it] e (fun i h => (∃ old, IsEnum h e it ((i : Nat) : Int) old) ∧ h.IsTupleIter it a i ∧ e ≠ it ∧ e ≠ a) where
  mem := by simp
  obj := fun i h sta b hb => by
    obtain ⟨⟨old, hen⟩, ⟨o, ho, hc, hd⟩, _⟩ := sta
    have e' : b = e ∨ b = it := by simpa using hb
    rcases e' with z | z
    · rw [z]
      exact ⟨_, hen, fun v q => nomatch q⟩
    · rw [z]
      exact ⟨o, ho, fun v q => by rw [hd] at q; cases q⟩
  keep := fun i h h' sta k => by
    obtain ⟨⟨old, hen⟩, hi, hne⟩ := sta
    exact ⟨⟨old, k e (by simp) _ hen⟩, hi.at fun o q => k it (by simp) o q, hne⟩
  item := by
    intro X hP hw hK hc i pins s σ H E I fpk sta hg
    subst hP hw hK
    obtain ⟨⟨old, hen⟩, hit, hne, hea⟩ := sta
    obtain ⟨xs, x, hq, hx⟩ := hg
    obtain ⟨its, rv, ⟨ot, hot, hct, nt, hdt⟩, hz⟩ := I.tuple hq
    have tyE : s.heap.IsTuple a its.toArray := ⟨ot, hot, hct, nt, hdt⟩
    obtain ⟨u, hu, ru⟩ := rv.get hx
    have hlt : i < its.toArray.size := by
      have := (List.getElem?_eq_some_iff.mp hu).1
      simpa using this
    have elt : e < s.heap.objs.size := Heap.lt_size hen
    have hil : it < s.heap.objs.size := by
      obtain ⟨_, q, _⟩ := hit
      exact Heap.lt_size q
    refine wpAny_pyNext_enum_itemD (Draws.tuple (A := X.A.in1) (I.ok.hd hc) it a hai its.toArray) hen ⟨hit, tyE⟩ hlt hne (by simp [hne, hea]) fun z h' tk hz' ho hit' hTn hsz kep => ?_
    have ez : z = u := by
      have q : its[i]? = some z := by simpa using hz'
      rw [hu] at q
      exact (Option.some.inj q).symm
    subst ez
    refine ⟨_, rfl, wpAny_letOwnedTupleGo_enum (s := { s with heap := h', toks := tk + 1 }) ho fun h'' hen' smb => ?_⟩
    have hT2 : h''.get? s.heap.objs.size = some { cls := .type "tuple", data := .seq #[.int i tk, z] } := (smb.2 _ (Nat.ne_of_gt elt)).trans hTn
    have new : ObjOk X.prog X.w (upd H s.heap.objs.size (.tup [.int (i : Nat), x])) h'' s.heap.objs.size (.tup [.int (i : Nat), x]) :=
      ⟨by show 2 ≤ sizeLine; decide, [.int i tk, z], .cons ⟨_, rfl⟩ (.cons ru .nil), ⟨_, hT2, rfl, _, rfl⟩⟩
    have I1 : Inv X pins σ (upd H s.heap.objs.size (.tup [.int (i : Nat), x])) { s with heap := h'', toks := tk + 1 } :=
      I.turnedNew (ch := [e, it]) (fun b ob hb q => (smb.2 b (fun z => hb (by simp [z]))).trans (kep b ob (fun z => hb (by simp [z])) (fun z => hb (by simp [z])) q)) fpk (Nat.le_refl _) new
    refine ⟨.ref s.heap.objs.size, _, I1, rfl, ⟨_, x, rfl, I.hok.fresh (Nat.le_refl _), rfl, fun ys hy => ?_⟩, ⟨⟨z, ?_⟩, hit'.1.at fun o q => (smb.2 it (Ne.symm hne)).trans q, hne, hea⟩, fun b hb => ?_⟩
    · rw [I.tuple_inj hy hq]
      exact hx
    · have eqi : ((i + 1 : Nat) : Int) = (i : Int) + 1 := by omega
      rw [eqi]
      exact hen'
    · have hb' : b < s.heap.objs.size := by
        have e' : b = e ∨ b = it := by simpa using hb
        rcases e' with z | z
        · rw [z]
          exact elt
        · rw [z]
          exact hil
      rw [upd_ne (Nat.ne_of_lt hb')]
      exact (fpk b hb).1
  done := by
    intro X hP hw hK hc i pins s σ H E I fpk sta hg
    subst hP hw hK
    obtain ⟨⟨old, hen⟩, hit, hne, hea⟩ := sta
    obtain ⟨xs, hq, hx⟩ := hg
    obtain ⟨its, rv, ⟨ot, hot, hct, nt, hdt⟩, hz⟩ := I.tuple hq
    obtain ⟨p0, p1, p2, p3, p4, p5⟩ := fpk it (by simp)
    have hl := rv.length
    refine enum_endT (I.ok.hd hc) hen hit ⟨ot, hot, hct, nt, hdt⟩ (by simp; omega) fun h' eb => ⟨rfl, I.turned (t' := s.toks) (fun b o hb q => eb b o hb q) p0 p1 p3 p4 p5⟩
  self := fun A i s Q E sta h => let ⟨⟨_, hen⟩, _⟩ := sta; wpAny_pyIter_enum hen h
def iEnumT (K : PySem.W.Frag) (ta : TA) : TI := fun σ H R => ta σ H fun vs H1 => ∃ a xs, vs = [.ref a] ∧ SqT K H1 a xs ∧ R (IteT K a) H1
theorem pi_enumT {X : Cx} {e : Expr} {ta : TA} {p pos tpos : Pos} {elts : List Expr} {kk : Nat} (hg : Gl X "enumerate") (hm : X.mg "enumerate" = none) (ha : PA X [e] ta)
    (hs : starEach [e] X.env = [(false, eval e X.env)] := by rfl) : PI X (.Tuple elts kk tpos) (.Call (.Name "enumerate" p) [e] [] pos) (iEnumT X.K ta) := by
  refine ⟨fun pins s σ H R I h => ?_⟩
  refine Call_ (ld_blt I hg hm boot_enumerate (PyProof.Rows.callWith_type1 (thn (ha.run pos pins s σ H _ I h) fun us sA ⟨vs, H1, I1, r1, q1⟩ => ?_) hs rfl))
  obtain ⟨a, xs, ex, hq, q⟩ := q1
  subst ex
  rw [Vals.ref1 r1]
  obtain ⟨its, rv, ⟨ot, hot, hct, nt, hdt⟩, hz⟩ := I1.tuple hq
  have hla : a < sA.heap.objs.size := Heap.lt_size hot
  refine call_enumT (items := its.toArray) ⟨ot, hot, hct, nt, hdt⟩ fun h' hen hit kep => wpAny_pyIter_enum hen ?_
  have JB : Inv X pins σ H1 { sA with heap := h' } := I1.kept (t' := sA.toks) kep
  refine ⟨sA.heap.objs.size + 1, [sA.heap.objs.size + 1, sA.heap.objs.size], _, _, H1, rfl, JB, turn_enumT a (sA.heap.objs.size + 1) sA.heap.objs.size (Nat.ne_of_lt hla),
    ⟨⟨.none, hen⟩, hit, Nat.succ_ne_self _, Nat.ne_of_gt (Nat.lt_succ_of_lt hla)⟩, fun b hb => ?_, q⟩
  have e' : b = sA.heap.objs.size + 1 ∨ b = sA.heap.objs.size := by simpa using hb
  have hle : sA.heap.objs.size ≤ b := by
    rcases e' with z | z
    · rw [z]
      exact Nat.le_add_right _ _
    · rw [z]
      exact Nat.le_refl _
  exact I1.fpOk hle (I1.hok.fresh hle)
end HL

namespace HL
open PySem PySem.Spec PyProof.Rows L2
open AutoSeq1 (wpAny_loadPart')
/-! t * k, k from 1 on: once is the tuple itself -/
theorem tuple_mul1 (l : Addr) (items : Array Value) (n : Nat) (dd : Option Addr) (sl : Array (Option Value)) (u : Tok) :
    Meets (Builtin.«tuple.__mul__» ⟨[.ref l, .int 1 u], []⟩)
      (fun _ R s => s.heap.get? l = some { cls := .type "tuple", dict := dd, data := .seq items n, slots := sl } ∧ R (.ok (.ret (.ref l))) s) :=
  .of_wp fun prog w A R s h => by
    obtain ⟨hp, g, d, tk, os⟩ := s
    obtain ⟨hl, h⟩ := h
    have f1 := AutoSeq1.idx_int
    have ht : Shared.TypeIs ⟨hp, g, d, tk, os⟩ (.ref l) "tuple" := ⟨_, hl, rfl⟩
    wp_walk using wpAny_loadPart' hl
    repeat (first
      | (refine wpAny_ite_false (by decide) ?_; wp_walk using wpAny_loadPart' hl)
      | (refine wpAny_ite_true (by cases items.isEmpty <;> decide) ?_; wp_walk using wpAny_loadPart' hl)
      | (refine wpAny_typeOf ht ?_; wp_walk using wpAny_loadPart' hl)
      | (refine wpAny_bind (wpAny_typeOf ht ?_); wp_walk using wpAny_loadPart' hl))
    exact ⟨_, rfl, h⟩
def rRepA (K : PySem.W.Frag) : R2 := fun x y H Q => ∃ l k xs, x = .ref l ∧ y = .int k ∧ SqT K H l xs ∧ xs ≠ [] ∧ 1 ≤ k ∧ k ≤ 1000 ∧ xs.length ≤ 1000 ∧
  (k = 1 → Q (.ref l) H) ∧ (k ≠ 1 → ∀ p, H p = none → Q (.ref p) (upd H p (.tup (List.replicate k.toNat xs).flatten)))
theorem op_repA {X : Cx} : OpR X (binaryOp .Mult) (rRepA X.K) := by
  intro pins s σ H x y v u Q I rx ry h
  obtain ⟨l, k, xs, rfl, rfl, hT, hne, h1, h2, hz, q1, q2⟩ := h
  by_cases hk : k = 1
  · subst hk
    have rx' := rx
    cases rx
    obtain ⟨t, rfl⟩ := ry
    obtain ⟨its, r, ⟨⟨cl, dd, dat, sl⟩, ho, hc, n, hd⟩, _⟩ := I.tuple hT
    simp only at hc hd
    subst hc hd
    exact wpAny_binaryOp_repeat_ref (T := "tuple") (U := "int") (by decide) ⟨_, ho, rfl⟩ (fun s' => typeIs_int s' 1 t) noFill_tuple_mul F.fills_int_mul F.slot_int_rmul repeat_tuple F.slot_int_index.lookup
      (call_meets F.slot_int_rmul (typeIs_int s 1 t) F.entry_int_rmul (F.args_int_rmul_2 _ _) (int_rmul_tuple 1 t l its.toArray n dd sl)
        ⟨ho, rfl, ⟨_, ho, rfl⟩, call_meets F.slot_tuple_mul ⟨_, ho, rfl⟩ F.entry_tuple_mul (F.args_tuple_mul_2 _ _) (tuple_mul1 l its.toArray n dd sl t) ⟨ho, ⟨.ref l, H, I, rfl, q1 rfl⟩⟩⟩)
  · exact op_repT pins s σ H _ _ v u Q I rx ry ⟨l, k, xs, rfl, rfl, hT, hne, by omega, h2, hz, q2 hk⟩
end HL

namespace HL
open PySem PySem.Spec PyProof.Rows L2
/-! several except clauses, each with a name -/
/-- behind a suite the name's slot is empty -/
abbrev offE (i : Nat) (D : Ends) : Ends := { nx := fun σ' H' => D.nx (σ'.set i none) H', rt := D.rt, bk := fun σ' H' => D.bk (σ'.set i none) H', ct := fun σ' H' => D.ct (σ'.set i none) H' }
def wManyA (K : PySem.W.Frag) (i : Nat) (Wout : WX) (D : Ends) : List (Value × (Addr → Value → Option Addr → TS)) → WX
  | [] => Wout
  | (c, ts) :: r => fun cls d σ H => ∃ b, PySem.W.exmOne K cls c = some b ∧ (b = true → ∀ a, H a = none → ts a cls d (offE i D) (σ.set i (some (.ref a))) H) ∧ (b = false → wManyA K i Wout D r cls d σ H)
inductive HdsA (X : Cx) (n : Str) : List ExceptHandler → List (Value × (Addr → Value → Option Addr → TS)) → Prop
  | nil : HdsA X n [] []
  | cons {x : Str} {c : Value} {ts : Addr → Value → Option Addr → TS} {b₀ : Stmt} {suite : List Stmt} {np pos' : Pos} {hds : List ExceptHandler} {l : List (Value × (Addr → Value → Option Addr → TS))} (hc : Names X x c)
      (hsu : ∀ (a : Addr) (oe : Obj) (cls : Value) (d : Option Addr) (pn : List (Addr × Obj)), Zc cls d oe → (∃ vs, oe.data = .fields vs) → PSs (X.suite a ((a, oe) :: pn)) (b₀ :: suite) (ts a cls d)) (r : HdsA X n hds l) :
      HdsA X n (.ExceptHandler (some (.Name x np)) (some n) (b₀ :: suite) pos' :: hds) ((c, ts) :: l)
section
variable {X : Cx} {n : Str} {i : Nat} {body : List Stmt} {h₀ : ExceptHandler} {hds : List ExceptHandler} {l : List (Value × (Addr → Value → Option Addr → TS))} {pos : Pos} {tb : WX → TS} {Wout : WX}
theorem ps_try_manyA (hs : X.stack = X.env :: X.outer) (hf : X.env.frame = some X.env.locals) (hN : X.N.Nodup) (hi : X.N[i]? = some n) (hln : X.env.kindOf n = some .local) (tk : Takes X Wout)
    (hb : ∀ (W : WX) (pn : List (Addr × Obj)) (xe : Value → Shared → Prop), Takes (X.tr pn xe) W → PassesOwn (model X.prog X.w) X.A X.env xe → PSs (X.tr pn xe) body (tb W)) (hh : HdsA X n (h₀ :: hds) l) :
    PS X (.Try body (h₀ :: hds) [] [] pos) (fun D σ H => tb (wManyA X.K i Wout D l) D σ H) := by
  refine ⟨fun pins s σ H D I hTB => ?_⟩
  have okI := I.ok
  have frA : X.A.frames = some (X.env :: X.outer) := by rw [okI.frames, hs]
  have locN : Loc X.env.scope n := .inl hln
  refine wpAny_Try_except (wpAny_mono ((hb (wManyA X.K i Wout D l) (X.pn ++ pins) (fun e sa => wpAny (model X.prog X.w) X.A (noteFrame e X.env) (fun _ sb => wpAny (model X.prog X.w) X.A (setFlight e none) (fun _ sc =>
    wpAny (model X.prog X.w) X.A (handleBy e X.env (h₀ :: hds)) (SP X pins D) X.xe sc) X.xe sb) X.xe sa) (fun u s' xx => ?_) PassesOwn.looking).run [] s σ H D (I.toTry _) hTB) (fun f sq hsp => ?_) (fun e sq he => he))
  · obtain ⟨a, B, sI, pins', σ', H', cls, d, rfl, J', nb, up, sky, na, os, ag, wsh⟩ := xx
    have J : Inv X pins σ' H' sI := J'.ofTry okI
    have skyE : Sky B (X.env :: X.outer) a (Zc cls d) X.env.locals s'.heap := by rw [← hs]; exact sky
    show wpAny (model X.prog X.w) X.A (noteFrame (.ref a) X.env) _ _ _
    refine Sky.land Zc.steady frA hf skyE fun hC flC upC => ?_
    have JC : Inv X pins σ' H' { s' with heap := hC } := J.landed nb flC.1 (up.trans upC) os ag
    obtain ⟨oC, vC, heC, hzC, hdC⟩ := flC.there
    have notFr : a ∉ frs (X.env :: X.outer) := fun hm => by
      obtain ⟨_, o', e', hnf⟩ := flC.2.2.1.mem hm
      rw [heC] at e'
      cases e'
      exact hnf _ hdC
    have nL : a ≠ X.env.locals := fun z => notFr (List.mem_filterMap.mpr ⟨X.env, List.mem_cons_self, by rw [hf, z]⟩)
    have nF : a ∉ X.fs := fun hm => by
      obtain ⟨e, he, q⟩ := List.mem_filterMap.mp hm
      exact notFr (List.mem_filterMap.mpr ⟨e, List.mem_cons_of_mem _ he, q⟩)
    have SC := JC.suite heC hdC na nL nF
    have go : ∀ {hd2 : List ExceptHandler} {l2 : List (Value × (Addr → Value → Option Addr → TS))}, HdsA X n hd2 l2 → wManyA X.K i Wout D l2 cls d σ' H' → wpAny (model X.prog X.w) X.A (handleBy (.ref a) X.env hd2) (SP X pins D) X.xe { s' with heap := hC } := by
      intro hd2 l2 hk
      induction hk with
      | nil =>
        intro wn
        refine wpAny_handleBy_nil ?_
        obtain ⟨k1, k2, k3, oe, vs, T, oT, ts', he, hz, hd, h1, hr⟩ := id flC
        unfold PySem.passOn
        refine wpAny_bind (wpAny_field he hd h1 ?_)
        rw [if_neg (show ¬ ((Value.ref T == Value.none) = true) from by simp)]
        have fin : wpAny (model X.prog X.w) X.A (setFlight (.ref a) X.env.frame) (fun _ sd => wpAny (model X.prog X.w) X.A (throw (.ref a) : Sem Flow) (SP X pins D) X.xe sd) X.xe { s' with heap := hC } := by
          rw [hf]
          refine HandSPX.setFlight_upZ flC fun hD hhD upD => wpAny_throw (tk _ _ ?_)
          exact ⟨a, B, sI, pins, σ', H', cls, d, rfl, J, nb, (up.trans upC).trans upD, .inr (.inr (by rw [hs]; exact hhD)), na, os, ag, wn⟩
        first
          | exact wpAny_bind (wpAny_pure (wpAny_bind fin))
          | exact wpAny_bind fin
      | @cons x c ts b₀ suite np pos' hd3 l3 hc hsu r ih =>
        intro wn
        obtain ⟨b, hb1, hyes, hno⟩ := wn
        refine wpAny_handleBy_cons (codeAny_handlers_test ?_) (by intro q; cases q)
        have LT : PySem.W.Looks (model X.prog X.w) hC (typeOf (.ref a)) cls := fun A Q E s k q => wpAny_typeOf_ref (k _ _ heC) (by rw [hzC.1]; exact q)
        have LM := PySem.W.exm_one (M := model X.prog X.w) (JC.kIn) LT hb1
        have look : ∀ {Q : Value → Shared → Prop} {E : Value → Shared → Prop}, Q c { s' with heap := hC } → wpAny (model X.prog X.w) (X.A.mark (some (.ref a))) (eval (.Name x np) X.env) Q E { s' with heap := hC } := fun {Q E} q => by
          obtain ⟨hg, hdbg, hm | ⟨hm, hv, hnn⟩⟩ := hc
          · exact ld_glob (X := X.suite a ((a, oC) :: (X.pn ++ pins))) SC hg hm q hdbg
          · exact ld_blt (X := X.suite a ((a, oC) :: (X.pn ++ pins))) SC hg hm hv q hnn hdbg
        refine look (LM.here ?_)
        cases b with
        | false =>
          show wpAny _ X.A (handleBy (.ref a) X.env hd3) _ _ _
          exact ih (hno rfl)
        | true =>
          refine codeAny_handlers_suite_as (HandSPX.lands_againZ flC fun hD flD upD => ?_)
          have JD : Inv X pins σ' H' { s' with heap := hD } := J.landed nb flD.1 ((up.trans upC).trans upD) os ag
          obtain ⟨oD, vD, heD, hzD, hdD⟩ := flD.there
          have SD := JD.suite heD hdD na nL nF
          refine store_ok (X := X.suite a ((a, oD) :: (X.pn ++ pins))) (v := .ref a) SD hN hi locN rfl (fun sE SE => ?_) (.inr hln)
          refine wpAny_mono ((hsu a oD cls d (X.pn ++ pins) hzD ⟨_, hdD⟩).run [] sE _ H' _ SE (hyes rfl a na)) (fun f sG hsp => ?_) (fun _ _ z => False.elim z)
          have off : ∀ {σG : L2.St} {HG : Hp} {Q : Shared → Prop}, Inv (X.suite a ((a, oD) :: (X.pn ++ pins))) [] σG HG sG → (∀ sH, Inv X pins (σG.set i none) HG sH → Q sH) →
              wpAny (model X.prog X.w) X.A (do bindName X.env n .none; unbindBehindTheSuite X.env n pos') (fun _ sH => Q sH) X.xe sG := fun {σG HG Q} SG hq => gone_ok (SG.unsuite okI) hN hi hln hq
          cases f with
          | ret u =>
            obtain ⟨vG, σG, HG, SG, rG, qG⟩ := hsp
            exact off SG fun sH JH => ⟨_, _, _, JH, rG, qG⟩
          | next =>
            obtain ⟨σG, HG, SG, qG⟩ := hsp
            exact off SG fun sH JH => ⟨_, _, JH, qG⟩
          | brk =>
            obtain ⟨σG, HG, SG, qG⟩ := hsp
            exact off SG fun sH JH => ⟨_, _, JH, qG⟩
          | cont =>
            obtain ⟨σG, HG, SG, qG⟩ := hsp
            exact off SG fun sH JH => ⟨_, _, JH, qG⟩
    exact go hh wsh
  · cases f with
    | ret u =>
      obtain ⟨v, σ', H', J', r, q⟩ := hsp
      exact ⟨v, σ', H', J'.ofTry okI, r, q⟩
    | next =>
      obtain ⟨σ', H', J', q⟩ := hsp
      exact wpAny_execs_nil ⟨σ', H', J'.ofTry okI, q⟩
    | brk =>
      obtain ⟨σ', H', J', q⟩ := hsp
      exact ⟨σ', H', J'.ofTry okI, q⟩
    | cont =>
      obtain ⟨σ', H', J', q⟩ := hsp
      exact ⟨σ', H', J'.ofTry okI, q⟩
end
end HL

namespace HL
open PySem PySem.Spec PyProof.Rows L2
open LamX (CodeO Tabs TabB ExtN LamS lamEnv lamCx lam_start2 lam_make2 run_ofS tLam)
/-! what a def got is asked, its own slots known where that raises -/
/-- the asking def's context, entered at s -/
abbrev gCx (X : Cx) (Ng : List Str) (q : Str) (sg : Scope) (g : Addr) (cd : Value) (s : Shared) (H : Hp) : Cx := cxOf C8.CX0 X.prog X.w X.K X.mg X.base Ng q sg g cd X.A X.stack s H C8.E0
/-- the lambda that was made -/
abbrev lamO (X : Cx) (ps : Arguments) (b : Expr) (sc : Scope) (pm : Value) (c' : Addr) (ct : Value) : Obj := PySem.W.kla_obj "<lambda>" (X.env.qual ++ "<lambda>") ps b sc (cloFrom X.env.cells sc.names []) pm c' ct
theorem act_at {X : Cx} {pins : List (Addr × Obj)} {σ : L2.St} {H : Hp} {s : Shared} {Ng : List Str} {q : Str} {sg : Scope} {g f c' : Addr} {cd pm ct : Value} {ps : Arguments} {b : Expr} {sc : Scope} {k i : Nat} {a : Str} {pn : List (Addr × Obj)} {xe : Value → Shared → Prop} {W : WX} {E : XK} {tb : TE} {p1 p2 : Pos} {σ0 : L2.St}
    (I : Inv X pins σ H s) (L : LamS X.env.scope sc) (hf : s.heap.get? f = some (lamO X ps b sc pm c' ct)) (hn : H f = none) (hfr : f ∉ frs X.stack)
    (hb : bindArgs (PySem.W.kla_fn "<lambda>" (X.env.qual ++ "<lambda>") ps b sc (cloFrom X.env.cells sc.names []) pm (.ref c') ct) ⟨[], []⟩ = pure [])
    (tk : Takes ((gCx X Ng q sg g cd s H).tr pn xe) W) (hW : ∀ cls d H', E cls d H' → W cls d σ0 H') (hr : Room (k + 1) (X.A.deeper (envOfC q sg s.heap.objs.size g cd)))
    (hbody : ∀ (A : Around) (o : List Env) (s : Shared) (H : Hp), Room k (A.deeper (lamEnv X sc s.heap.objs.size f c')) → PE (lamCx X A o s H E sc f c') b tb)
    (hN : Ng[i]? = some a) (hv : Vis sg a) (d1 : (a == ("__debug__" : Str)) = false) (d2 : (a == ("__classdict__" : Str)) = false) :
    PE ((gCx X Ng q sg g cd s H).tr pn xe) (.Call (.Name a p1) [] [] p2) (fun σZ HZ Q => σZ = σ0 ∧ σZ[i]? = some (some (.ref f)) ∧ HZ c' = some (CodeO c' (X.env.qual ++ "<lambda>")) ∧ tb σ HZ Q) := by
  refine ⟨fun pz sz σz hz Qz J ⟨eσ, h1, h2, h3⟩ => ?_⟩
  have nm := (pe_var (pos := p1) (i := i) hN hv d1 d2).run pz sz σz hz (fun v H1 => v = .ref f ∧ H1 = hz) J ⟨_, h1, rfl, rfl⟩
  refine wpAny_Call_Name_kw (thn nm ?_)
  rintro u s1 ⟨v, H1, J1, r1, ⟨ev, eh⟩⟩
  subst ev
  rw [eh] at J1
  obtain rfl : u = Value.ref f := r1
  have o1 : s1.heap.get? f = some (lamO X ps b sc pm c' ct) := J1.base.keep f _ hf hn hfr (fun y => List.not_mem_nil (show f ∈ ([] : List Addr) from y))
  have go : codeAny (model X.prog X.w) (X.A.deeper (envOfC q sg s.heap.objs.size g cd)) (.call (.ref f) ⟨[], []⟩) (CR (L2.CX X.prog X.w) (envOfC q sg s.heap.objs.size g cd :: X.stack) X.prog X.w hz s1 Qz E) s1 := by
    obtain ⟨⟨oc, vs, t, ho, hd, hc⟩, _, _⟩ := J1.hok c' _ h2
    refine PySem.W.kla_callFunE hr.depth o1 rfl L.co L.gen rfl ⟨c', oc, vs, t, rfl, ho, hd, hc⟩ ?_
    rw [hb]
    refine wpAny_pure (wpAny_newFunctionEnv (fun y hy => (L.own y hy).2) (fun y hy => absurd hy (by simp)) (fun h1' hns hsb => ⟨J1.nolimit.fresh _ hsb, ?_⟩) L.kind)
    show codeAny _ _ (.expr b (lamEnv X sc s1.heap.objs.size f c')) _ _
    have st : Inv (lamCx X (X.A.deeper (envOfC q sg s.heap.objs.size g cd)) (envOfC q sg s.heap.objs.size g cd :: X.stack) s1 hz E sc f c') [] σ hz { s1 with heap := h1', toks := s1.toks + ([] : List (Str × Value)).length } :=
      lam_start2 I L J1.env0 hr.hd J1.base hns (fun b' o' e' => hsb.extBut b' o' (Nat.ne_of_lt (Heap.lt_size e')) (Heap.get?_push_of_some _ e'))
    refine PySem.W.kla_codeExpr (wpAny_mono ((hbody _ _ s1 hz (hr.deeper _)).run [] _ _ hz Qz st h3) ?_ (fun _ _ x => x))
    rintro v' s' ⟨w', H', J', rv, qv⟩
    exact ⟨w', H', J'.os, J'.bare, J'.base, J'.hok, rv, qv⟩
  refine PySem.W.callWith_F0 ⟨_, _, _, _, o1⟩ (wpAny_call (codeAny_mono go ?_))
  intro r s' hq
  cases r with
  | error e =>
    refine tk e s' (XE.of_call J1 (fun cls d H' hE => ?_) hq)
    rw [eσ]
    exact hW cls d H' hE
  | ok fl =>
    cases fl with
    | ret u => exact J1.after hq
    | next => cases hq
    | brk => cases hq
    | cont => cases hq
/-- the def that asks: σ0 its slots where it asks -/
def AsksOf (X : Cx) (Ng : List Str) (x : Str) (sg : Scope) (g : Addr) (cd : Value) (bg : List Stmt) (a : Str) (q : Str) (TT : (XK → Hp → VK → Prop) → Hp → VK → Prop) : Prop :=
  ∀ (f c' : Addr) (s : Shared) (H : Hp) (Q : VK) (tl : XK → Hp → VK → Prop),
    (∀ (σ0 : L2.St) (W : WX) (pn : List (Addr × Obj)) (xe : Value → Shared → Prop) (E : XK) (p1 p2 : Pos), Takes ((gCx X Ng x sg g cd s H).tr pn xe) W → (∀ cls d H', E cls d H' → W cls d σ0 H') →
      PE ((gCx X Ng x sg g cd s H).tr pn xe) (.Call (.Name a p1) [] [] p2) (fun σZ HZ Q => σZ = σ0 ∧ σZ[0]? = some (some (.ref f)) ∧ HZ c' = some (CodeO c' q) ∧ tl E HZ Q)) →
    H c' = some (CodeO c' q) → TT tl H Q → ∃ t, PSs (gCx X Ng x sg g cd s H).nox bg t ∧ t { nx := fun _ H' => Q .non H', rt := Q } (L2.start Ng [.ref f]) H
theorem pe_askcall {X : Cx} {T : List (Addr × Str)} {TT : (XK → Hp → VK → Prop) → Hp → VK → Prop} {x a : Str} {g c P : Addr} {k : Nat} {pg : Arguments} {bg : List Stmt} {sg : Scope} {dV kV doc pm cdv ct oc : Value} {an od : Option Addr} {osl : Array (Option Value)} {Ng : List Str}
    {ps : Arguments} {b : Expr} {sc : Scope} {t : XK → TE} {p lp pos : Pos} (hg : Gl X x) (hm : X.mg x = some (.ref g)) (hk : PySem.W.keepIn X.K (.ref g) = true)
    (lk : X.K.lookup g = some ⟨oc, od, .func (PySem.W.fnOf x x pg bg sg dV kV doc pm an cdv ct), osl⟩) (hcg : PySem.W.codeIn X.K cdv x = true) (hbi : L2.Binds X.K (PySem.W.fnOf x x pg bg sg dV kV doc pm an cdv ct) [a] []) (Sg : FnScope Ng [a] sg) (hN : Ng[0]? = some a) (hv : Vis sg a)
    (hG : AsksOf X Ng x sg g cdv bg a (X.env.qual ++ "<lambda>") TT) (TB : TabB X.base X.mg c P) (hcode : X.env.code = .ref c) (hT : (P, X.env.qual ++ "<lambda>") ∈ T) (hu : ∀ p ∈ T, p.1 = P → p.2 = X.env.qual ++ "<lambda>") (hr : Room (k + 2) X.A) (L : LamS X.env.scope sc) (hdef : defaultsOf ps X.env = ([], []))
    (hb : ∀ (q : Str) (cl : List (Str × Addr)) (pm cv ctv : Value), bindArgs (PySem.W.kla_fn "<lambda>" q ps b sc cl pm cv ctv) ⟨[], []⟩ = pure [])
    (hbody : ∀ (A : Around) (o : List Env) (s : Shared) (H : Hp) (E : XK) (f c' : Addr), Room k (A.deeper (lamEnv X sc s.heap.objs.size f c')) → PE (lamCx X A o s H E sc f c') b (t E))
    (d0 : (x == ("__debug__" : Str)) = false := by decide) (d1 : (a == ("__debug__" : Str)) = false := by decide) (d2 : (a == ("__classdict__" : Str)) = false := by decide) :
    PE X (.Call (.Name x p) [.Lambda ps b sc lp] [] pos) (tLam T TT t) := by
  refine ⟨fun pins s σ H Q I ⟨hTt, h⟩ => wpAny_Call_Name_kw (ld_glob I hg hm (PySem.W.callWith_K (h₀ := X.base) I.ok.mod.kin hk ?_ (by rfl) (by rfl)) d0)⟩
  show wpAny _ _ (spliced ((false, eval (.Lambda ps b sc lp) X.env) :: backTo pos (starEach [] X.env))) _ _ s
  refine Calls.spliced_cons (lam_make2 I TB hcode hT hu hTt hdef (L.has I.ok) fun f c' pm' ctv H1 s' J eN T1 hf hfn hfr hco => Calls.spliced_nil ⟨J.kIn, ?_⟩)
  refine wpAny_call (codeAny_mono (R := CR C8.CX0 X.stack X.prog X.w H1 s' Q C8.E0) (run_ofS (N := Ng) (ps := [a]) (us := [.ref f]) (vs := [.ref f]) lk hcg Sg hr J.env0 (hbi s' [.ref f] J.kIn rfl) (.cons rfl .nil) rfl fun hr' => ?_) fun r s2 hq => ?_)
  · obtain ⟨t', ht, hq⟩ := hG f c' s' H1 Q (fun E H' Q' => t E σ H' Q') (fun σ0 W pn xe E p1 p2 tk hW => act_at (i := 0) J L hf hfn hfr (hb _ _ _ _ _) tk hW hr' (fun A o s H hr2 => hbody A o s H E f c' hr2) hN hv d1 d2) hco (h H1 eN T1)
    exact ⟨t', ht.nox, hq⟩
  · cases r with
    | error e => exact (show False from hq).elim
    | ok fl =>
      cases fl with
      | ret u => exact J.after hq
      | next => cases hq
      | brk => cases hq
      | cont => cases hq
end HL

/-! own exceptions over any built-in base, their __init__ walked as a def; made with any count of arguments -/
namespace HL
open PySem PySem.Spec PyProof.Rows L2
open PySem.Builtin PySem.Builtin.ObjectAttr PySem.HandSPX
section
variable {prog : Program} {w : World} {A : Around} {R : Result → Shared → Prop} {hp : Heap} {g : Array GenState} {d : Drawn} {t : Nat} {os : OsState} {K : PySem.W.Frag} {f : Str} {tk : Tok} {v : Value} {x C : Addr} {fv : Array Value} {cd : ClassData}
/-- what a store on an instance looks up, told of its class alone -/
structure Mro (cd : ClassData) : Prop where
  pass : ∀ self, refuseLoop self "__setattr__" cd.mro = pure ()
  obj : cd.mro.contains (.type "object") = true
  ne : cd.mro.isEmpty = false
  hd : cd.hasDict = true
theorem osaG {o : Obj} {od : Option Obj} (X : K.In hp) (I : PySem.W.InstAt hp x o C od) (hcd : PySem.W.clsIn K C = some cd) (M : Mro cd) (ha : PySem.W.findIn K (.ref C) f = some none)
    (hq : wpAny (model prog w) A.in1 (storeInOwnDict (.ref x) (.ref C) (.str f tk) f v false) (fun r s' => match r with | .done fl => R (.ok fl) s' | .again c' => c'.quiet = true ∧ codeAny (model prog w) A c' R s') (fun e s' => R (.error e) s') ⟨hp, g, d, t, os⟩) :
    codeAny (model prog w) A (.call (.builtin "object.__setattr__") ⟨[.ref x, .str f tk, v], []⟩) R ⟨hp, g, d, t, os⟩ := by
  have SF := F.store_object
  have sub : PySem.W.Looks (model prog w) hp (isInstance (.ref x) (.type "object")) true := I.type.andThen (PySem.W.looks_mroIn X (by unfold PySem.W.mroIn; rw [hcd, Option.bind_some, if_neg (by rw [M.ne]; decide), M.obj]))
  refine codeAny_call_builtin SF.slot.plain SF.entry (@PySem.W.check_slot (model prog w) _ _ ⟨hp, g, d, t, os⟩ "object.__setattr__" "object" "__setattr__" (.ref x) [.str f tk, v] [] _ SF.kind SF.split sub (SF.args (.ref x) (.str f tk) v) ?_)
  have hmr : PySem.W.Looks (model prog w) hp (mroOf (.ref C)) cd.mro := (PySem.W.looks_clsIn X hcd).andThen .now
  have L3 : PySem.W.Looks (model prog w) hp (storeTaker? none) none := .now
  rw [PySem.W.osa_eq, refuse_eq]
  refine wpAny_bind (wpAny_bind (I.type.at (wpAny_bind (hmr.at ?_))))
  rw [M.pass]
  refine wpAny_pure (wpAny_bind (I.type.at (wpAny_bind ((PySem.W.looks_findIn X ha).at (wpAny_bind (L3.at ?_))))))
  exact hq
/-- the first field of an instance -/
theorem store1 (X : K.In hp) (hx : hp.get? x = some { cls := .ref C, data := .fields fv }) (hcd : PySem.W.clsIn K C = some cd) (M : Mro cd) (ha : PySem.W.findIn K (.ref C) f = some none)
    (hq : ∀ h' tk' dx, (∀ b o, b ≠ x → hp.get? b = some o → h'.get? b = some o) → hp.objs.size ≤ dx → dx ≠ x → h'.get? x = some { cls := .ref C, dict := some dx, data := .fields fv } → h'.Ns1 dx (fun y => if y = f then some v else none) → R (.ok (.ret .none)) ⟨h', g, d, tk', os⟩) :
    codeAny (model prog w) A (.call (.builtin "object.__setattr__") ⟨[.ref x, .str f tk, v], []⟩) R ⟨hp, g, d, t, os⟩ := by
  have hxs : x ≠ hp.objs.size := Nat.ne_of_lt (Heap.lt_size hx)
  refine osaG (od := none) X ⟨hx, rfl, rfl, trivial⟩ hcd M ha ?_
  have hc : PySem.W.Looks (model prog w) hp (classData C) cd := PySem.W.looks_clsIn X hcd
  obtain ⟨_, _, _, hdt⟩ := M
  obtain ⟨nm, bs, mro, ns, qn, hd, sn, sb, ab, col, del⟩ := cd
  cases hdt
  unfold storeInOwnDict ownDictForStores
  repeat (first | with_reducible refine store_in_new ?_ ?_ | with_reducible refine wpAny_loadPart_at hx ?_ | with_reducible refine hc.at ?_ | wp_step)
  · have nothing : ∀ e ∈ (#[] : Array DictEntry).toList, False := fun e he => by simp at he
    exact ⟨_, #[], _, (Heap.get?_update_ne _ _ _ _ hxs.symm).trans (Heap.get?_push_at rfl rfl),
      rfl, fun e he => absurd he (by simp), fun _ => rfl⟩
  · intro h' tk' hn' hs
    refine hq h' tk' hp.objs.size ?_ (Nat.le_refl _) hxs.symm ?_ hn'
    · intro b o hb ho
      rw [hs.2 b (Nat.ne_of_lt (Heap.lt_size ho)), Heap.get?_update_ne _ _ _ _ hb]
      exact Heap.get?_push_of_some _ ho
    · rw [hs.2 x hxs]
      exact Heap.get?_update_self _ (Heap.get?_push_of_some _ hx) rfl
/-- a further field -/
theorem store2 {dx : Addr} {m0 : Str → Option Value} {nl : List Str} (X : K.In hp) (hx : hp.get? x = some { cls := .ref C, dict := some dx, data := .fields fv }) (hns : hp.Ns1 dx m0) (hw : Within m0 nl) (hz : nl.length ≤ 1000) (hcd : PySem.W.clsIn K C = some cd) (M : Mro cd) (ha : PySem.W.findIn K (.ref C) f = some none)
    (hq : ∀ h' tk', (∀ b o, b ≠ dx → hp.get? b = some o → h'.get? b = some o) → h'.Ns1 dx (fun y => if y = f then some v else m0 y) → R (.ok (.ret .none)) ⟨h', g, d, tk', os⟩) :
    codeAny (model prog w) A (.call (.builtin "object.__setattr__") ⟨[.ref x, .str f tk, v], []⟩) R ⟨hp, g, d, t, os⟩ := by
  obtain ⟨oD, _, _, hoD, _, _⟩ := hns.count hw
  refine osaG (od := some oD) X ⟨hx, rfl, rfl, hoD⟩ hcd M ha ?_
  have hc : PySem.W.Looks (model prog w) hp (classData C) cd := PySem.W.looks_clsIn X hcd
  obtain ⟨_, _, _, hdt⟩ := M
  obtain ⟨nm, bs, mro, ns, qn, hd, sn, sb, ab, col, del⟩ := cd
  cases hdt
  unfold storeInOwnDict ownDictForStores
  repeat (first | with_reducible refine PySem.OEX.store_in_old hns hw hz ?_ | with_reducible refine wpAny_loadPart_at hx ?_ | with_reducible refine hc.at ?_ | wp_step)
  exact fun h' tk' hn' hs => hq h' tk' (fun b o hb ho => by rw [hs.2 b hb]; exact ho) hn'
end
/-- what the written part says of an own class over a built-in base -/
structure OexB (K : PySem.W.Frag) (C : Addr) (nid : String) (bmB : List Value) : Prop where
  cls : ∃ nm q N bs bm sn sub ab col dd k0 k1 k2 k3 k5, K.lookup C = some (excClassObj nm q C N bs bm true sn sub ab col dd k0 k1 k2 k3 k5 nid) ∧ (∀ X : String, bm.contains (.type X) = bmB.contains (.type X)) ∧ ∀ self, refuseLoop self "__setattr__" (.ref C :: bm) = pure ()
  ob : bmB.contains (.type "object") = true
  sa : PySem.W.findIn K (.ref C) "__setattr__" = some (some (.builtin "object.__setattr__"))
  exC : PySem.W.subIn K (.ref C) (.type "BaseException") = some true
  tyC : PySem.W.typeIn K (.ref C) = some (.type "type")
  kC : PySem.W.keepIn K (.ref C) = true
theorem OexB.mro {K : PySem.W.Frag} {C : Addr} {nid : String} {bmB : List Value} (T : OexB K C nid bmB) : ∃ cd, PySem.W.clsIn K C = some cd ∧ Mro cd := by
  obtain ⟨nm, q, N, bs, bm, sn, sub, ab, col, dd, k0, k1, k2, k3, k5, hC, h1, h2⟩ := T.cls
  refine ⟨{ name := nm, bases := bs, mro := .ref C :: bm, ns := N, qualname := q, hasDict := true, slotNames := sn, subclasses := sub, abstract := ab, collection := col, hasDel := false }, by unfold PySem.W.clsIn; rw [hC] <;> rfl, h2, ?_, rfl, rfl⟩
  show (Value.ref C :: bm).contains (.type "object") = true
  rw [List.contains_cons, h1, T.ob, Bool.or_true]
section
variable {X : Cx} {nid : String} {bmB : List Value} {pins : List (Addr × Obj)} {σ : L2.St} {H : Hp} {s : Shared} {a C dx : Addr} {f : Str} {y : V} {u : Value} {fs : List (Str × V)} {Q : Unit → Shared → Prop} {E : Value → Shared → Prop} {A : Around}
theorem ostN (T : OexB X.K C nid bmB) (I : Inv X pins σ H s) (e : H a = some (exo a C none)) (hno : PySem.W.findIn X.K (.ref C) f = some none) (ry : RelV y u)
    (h : ∀ dx s', H dx = none → dx ≠ a → Inv X pins σ (upd (upd H dx (exd dx [(f, y)])) a (exo a C (some dx))) s' → Q () s') : wpAny (model X.prog X.w) A (setAttr (.ref a) f u) Q E s := by
  obtain ⟨cd, hcl, M⟩ := T.mro
  obtain ⟨t1, ho⟩ := exo_at I.hok e
  obtain ⟨hp, g, d, t, os⟩ := s
  refine PySem.W.set_plain (od := none) I.kIn ⟨ho, rfl, rfl, trivial⟩ T.sa (store1 I.kIn ho hcl M hno fun h' tk' dx k dn dne hx hn => ?_)
  have nH : H dx = none := I.hok.fresh dn
  have old : ∀ {b : Addr} {o : Obj}, hp.get? b = some o → b ≠ dx := fun {b o} q => Nat.ne_of_lt (Nat.lt_of_lt_of_le (Heap.lt_size q) dn)
  have off : ∀ {b : Addr}, H b = none → b ≠ a := fun {b} n z => by rw [z, e] at n; cases n
  have two : ∀ {b : Addr} {o : HO}, H b = some o → exo a C none ≠ o → upd (upd H dx (exd dx [(f, y)])) a (exo a C (some dx)) b = some o := fun {b o} q ne => by
    rw [upd_ne (at_ne e q ne), upd_ne (ne_of_none q nH)]
    exact q
  refine h dx _ nH dne (I.un (t' := tk') { keep := fun b o q n _ _ => k b o (off n) q, slot := fun b o q n _ _ => ⟨o.slots, k b o (off n) q⟩, free := ?fr, there := ?th, tups := fun b xs q => two q exo_tup, frzs := fun b o v q => two q exo_frz, tbls := fun b ps q => ⟨#[], by rw [two q exo_tbl]; simp⟩ } fun b o q => ?ok)
  case fr =>
    intro b o q n _
    rw [upd_ne (off n), upd_ne (old q)]
    exact n
  case th =>
    intro b o q _
    by_cases hb : b = a
    · rw [hb]
      exact ⟨_, hx⟩
    · exact ⟨o, k b o hb q⟩
  case ok =>
    by_cases hb : b = a
    · subst hb
      rw [upd_same] at q
      cases q
      exact exo_ok hx
    rw [upd_ne hb] at q
    by_cases hd : b = dx
    · subst hd
      rw [upd_same] at q
      cases q
      exact exd_ok hn (relO_put (fs := []) ry fun g => True.intro)
    rw [upd_ne hd] at q
    refine (I.hok b o q).stay (fun c v hc z => k c v ?_ z) (fun c hc => two hc exo_own) (fun c xs hc => two hc exo_tup)
    rcases hc with hc | hc
    · rw [hc]; exact hb
    · exact at_ne e hc exo_own
theorem ostO (T : OexB X.K C nid bmB) (I : Inv X pins σ H s) (e : H a = some (exo a C (some dx))) (ed : H dx = some (exd dx fs)) (hl : fs.length ≤ 900) (hno : PySem.W.findIn X.K (.ref C) f = some none) (ry : RelV y u)
    (h : ∀ s', Inv X pins σ (upd H dx (exd dx ((f, y) :: fs))) s' → Q () s') : wpAny (model X.prog X.w) A (setAttr (.ref a) f u) Q E s := by
  obtain ⟨cd, hcl, M⟩ := T.mro
  obtain ⟨t1, ho⟩ := exo_at I.hok e
  obtain ⟨mA, hns, rel⟩ := exd_at I.hok ed
  have hw := within_of rel
  obtain ⟨hp, g, d, t, os⟩ := s
  obtain ⟨oD, _, _, hoD, _, _⟩ := hns.count hw
  refine PySem.W.set_plain (od := some oD) I.kIn ⟨ho, rfl, rfl, hoD⟩ T.sa (store2 I.kIn ho hns hw (by rw [List.length_map]; omega) hcl M hno fun h' tk' k hn => ?_)
  have hd : ∃ o, h'.get? dx = some o := let ⟨o, _, _, e', _⟩ := hn; ⟨o, e'⟩
  exact h _ (I.write (t' := tk') (x := dx) (e := dx) (o := exd dx ((f, y) :: fs)) (by rw [ed]; exact True.intro) (.inl rfl) k hd (exd_ok hn (relO_put ry rel)))
end
/-! ### readings and rules -/
/-- self.f = e -/
def tOstB (K : PySem.W.Frag) (nid : String) (bmB : List Value) (f : Str) (to te : TE) : TS := fun D σ H => te σ H fun y H1 => to σ H1 fun x H2 => ∃ a C : Addr, x = .ref a ∧ OexB K C nid bmB ∧ PySem.W.findIn K (.ref C) f = some none ∧
  ((H2 a = some (exo a C none) ∧ ∀ dx, H2 dx = none → dx ≠ a → D.nx σ (upd (upd H2 dx (exd dx [(f, y)])) a (exo a C (some dx)))) ∨
    ∃ (dx : Addr) (fs : List (Str × V)), H2 a = some (exo a C (some dx)) ∧ H2 dx = some (exd dx fs) ∧ fs.length ≤ 900 ∧ D.nx σ (upd H2 dx (exd dx ((f, y) :: fs))))
section
variable {X : Cx} {nid : String} {bmB : List Value} {o e : Expr} {es : List Expr} {to te : TE} {ta : TA} {f : Str} {p p' pos : Pos}
theorem ps_ostB (ho : PE X o to) (he : PE X e te) (hs : swapsWith e (some (.Attribute o f p')) pos.line X.env = pure false := by rfl) : PS X (.Assign [.Attribute o f p'] e pos) (tOstB X.K nid bmB f to te) := by
  refine ⟨fun pins s σ H D I h => plainObj_wpAny_Assign_Attribute (thn (he.run pins s σ H _ I h) fun v s1 ⟨y, H1, I1, r1, q1⟩ => thn (ho.run pins s1 σ H1 _ I1 q1) ?_) hs⟩
  rintro u s2 ⟨x, H2, I2, r2, a, C, ex, T, hno, q⟩
  subst ex
  obtain rfl : u = Value.ref a := r2
  rcases q with ⟨ea, q⟩ | ⟨dx, fs, ea, ed, hl, q⟩
  · exact ostN T I2 ea hno r1 fun dx s' n ne J => ⟨σ, _, J, q dx n ne⟩
  · exact ostO T I2 ea ed hl hno r1 fun s' J => ⟨σ, _, J, q⟩
/-- the making, the arguments at hand -/
theorem make_at {CX : CXT} {B initId : String} {C fI : Addr} {k : Nat} {fd : FuncData} {ps : List Str} {sp : Sp} (EF : ExcBaseFacts B nid initId bmB) (T : OexB X.K C nid bmB) (iC : PySem.W.findIn X.K (.ref C) "__init__" = some (some (.ref fI))) (tI : PySem.W.typeIn X.K (.ref fI) = some (.type "function"))
    (F1 : FnOk X.prog X.w X.K X.mg X.base CX k fI fd ps sp) (hr : Room (k + 1) X.A) (hb : Binds X.K fd ps []) (hx : Passes CX X (fun _ _ _ => False)) {pins : List (Addr × Obj)} {σ : L2.St} {H1 : Hp} {s1 : Shared} {vs : List V} {us : List Value} {Q : XK} (I1 : Inv X pins σ H1 s1) (r1 : Vals vs us) (hz : vs.length ≤ 1000)
    (q1 : ∀ a, H1 a = none → sp (.ref a :: vs) (upd H1 a (exo a C none)) (fun v H2 => v = .non ∧ ∃ (d : Addr) (fs : List (Str × V)), H2 a = some (exo a C (some d)) ∧ H2 d = some (exd d fs) ∧ H1 d = none ∧ Q (.ref C) (some d) (upd (del H2 a) d (.xd fs))) (fun _ _ _ => False)) :
    wpAny (model X.prog X.w) X.A (call (.ref C) us) (MkP X pins σ Q) X.xe s1 := by
  obtain ⟨nm, q, N, bs, bm, sn, sub, ab, col, dd, k0, k1, k2, k3, k5, hC, h1, h2⟩ := T.cls
  obtain ⟨hp, g, dr, tk, os⟩ := s1
  have le : hp.objs.size ≤ hp.objs.size + 1 := Nat.le_succ _
  have hq := q1 (hp.objs.size + 1) (I1.hok.fresh le)
  have up : ∀ b o, hp.get? b = some o → ((hp.push (PySem.W.kdv_tup us)).push (excO C hp.objs.size)).get? b = some o := fun b o z => Heap.get?_push_of_some _ (Heap.get?_push_of_some _ z)
  have at1 : ((hp.push (PySem.W.kdv_tup us)).push (excO C hp.objs.size)).get? (hp.objs.size + 1) = some (excO C hp.objs.size) := by heap_get
  have I2 : Inv X pins σ (upd H1 (hp.objs.size + 1) (exo (hp.objs.size + 1) C none)) ⟨(hp.push (PySem.W.kdv_tup us)).push (excO C hp.objs.size), g, dr, tk, os⟩ := I1.laid (t' := tk) up le (exo_ok at1)
  have r2 : Vals (V.ref (hp.objs.size + 1) :: vs) (Value.ref (hp.objs.size + 1) :: us) := .cons rfl r1
  have len : (Value.ref (hp.objs.size + 1) :: us ++ []).length = ps.length := by
    rw [List.append_nil, ← r2.length]
    exact F1.len _ _ _ _ hq
  have bi := hb _ (Value.ref (hp.objs.size + 1) :: us) I2.kIn len
  rw [List.append_nil] at bi
  have small : us.length ≤ sizeLine := by
    rw [← Paired.length r1, sizeLine_eq]
    omega
  have run := F1.run _ X.stack _ _ ⟨Value.ref (hp.objs.size + 1) :: us, []⟩ (Value.ref (hp.objs.size + 1) :: us) _ _ (fun _ _ _ => False) (hr.make C us []) (I2.env0.make C us []) bi r2 hq
  refine wpAny_call (call_own EF h1 (I1.kIn _ _ hC) (PySem.W.looks_findIn I1.kIn iC) (fun self => PySem.W.bind_fn I1.kIn self tI) small (codeAny_mono run ?_))
  rintro (er | fl) s' hq'
  · exact hx pins σ _ _ er s' I2 hq'
  · cases fl with
    | ret u =>
      obtain ⟨v, H2, os2, bare2, un2, hok2, rv, ev, d, fs, ea, ed, hd1, q2⟩ := hq'
      subst ev
      exact ⟨rv, mk_end (raises_own T.exC T.tyC) I1 le up un2 hok2 os2 bare2 ea ed hd1 q2⟩
    | next => cases hq'
    | brk => cases hq'
    | cont => cases hq'
def tMkB (C : Addr) (sp : Sp) (ta : TA) : L2.St → Hp → XK → Prop := fun σ H Q => ta σ H fun vs H1 => vs.length ≤ 1000 ∧ ∀ a, H1 a = none → sp (.ref a :: vs) (upd H1 a (exo a C none))
  (fun v H2 => v = .non ∧ ∃ (d : Addr) (fs : List (Str × V)), H2 a = some (exo a C (some d)) ∧ H2 d = some (exd d fs) ∧ H1 d = none ∧ Q (.ref C) (some d) (upd (del H2 a) d (.xd fs))) (fun _ _ _ => False)
theorem pmk_oexB {CX : CXT} {B initId : String} {x : Str} {C fI : Addr} {k : Nat} {fd : FuncData} {ps : List Str} {sp : Sp} (EF : ExcBaseFacts B nid initId bmB) (T : OexB X.K C nid bmB) (iC : PySem.W.findIn X.K (.ref C) "__init__" = some (some (.ref fI))) (tI : PySem.W.typeIn X.K (.ref fI) = some (.type "function"))
    (F1 : FnOk X.prog X.w X.K X.mg X.base CX k fI fd ps sp) (hr : Room (k + 1) X.A) (hb : Binds X.K fd ps []) (hx : Passes CX X (fun _ _ _ => False)) (hg : Gl X x) (hm : X.mg x = some (.ref C)) (ha : PA X (e :: es) ta)
    (hdb : (x == ("__debug__" : Str)) = false := by decide) (he : starEach (e :: es) X.env = (false, eval e X.env) :: starEach es X.env := by rfl) (hpl : (backTo pos (starEach es X.env)).any (·.1) = false := by rfl) :
    PMk X (.Call (.Name x p) (e :: es) [] pos) (tMkB C sp ta) := fun pins s σ H Q I h =>
  wpAny_Call_Name_kw (ld_glob I hg hm (PySem.W.callWith_K (h₀ := X.base) I.ok.mod.kin T.kC (thn (ha.run pos pins s σ H _ I h) fun us s1 ⟨vs, H1, I1, r1, hz, q1⟩ => ⟨I1.kIn, make_at EF T iC tI F1 hr hb hx I1 r1 hz q1⟩) he hpl) hdb)
theorem pmk_oexB0 {CX : CXT} {B initId : String} {x : Str} {C fI : Addr} {k : Nat} {fd : FuncData} {ps : List Str} {sp : Sp} (EF : ExcBaseFacts B nid initId bmB) (T : OexB X.K C nid bmB) (iC : PySem.W.findIn X.K (.ref C) "__init__" = some (some (.ref fI))) (tI : PySem.W.typeIn X.K (.ref fI) = some (.type "function"))
    (F1 : FnOk X.prog X.w X.K X.mg X.base CX k fI fd ps sp) (hr : Room (k + 1) X.A) (hb : Binds X.K fd ps []) (hx : Passes CX X (fun _ _ _ => False)) (hg : Gl X x) (hm : X.mg x = some (.ref C)) (hdb : (x == ("__debug__" : Str)) = false := by decide) :
    PMk X (.Call (.Name x p) [] [] pos) (tMkB C sp tNil) := fun pins s σ H Q I h =>
  wpAny_Call_Name_kw (ld_glob I hg hm (PySem.W.callWith_K0 I.kIn T.kC (make_at EF T iC tI F1 hr hb hx I .nil (Nat.zero_le _) h.2)) hdb)
end
end HL

namespace HL
open PySem PySem.Spec PyProof.Rows L2
/-! sorted(t), t a tuple of ints -/
def rSortedTup (K : PySem.W.Frag) : List V → Hp → VK → Prop := fun vs H Q => ∃ (a : Addr) (ns : List Int), vs = [V.ref a] ∧ SqT K H a (ns.map V.int) ∧ ∀ (ns' : List Int) (p : Addr), ns'.Perm ns → ns'.Pairwise (· ≤ ·) → H p = none → Q (.ref p) (upd H p (.lst (ns'.map V.int)))
theorem cr_sortedTup {X : Cx} : CallR X (.builtin "sorted") (rSortedTup X.K) := by
  intro pins s σ H vs us Q I r h
  obtain ⟨a, ns, rfl, hs, q⟩ := h
  obtain ⟨its, rv, ⟨o, ho, hc, n, hd⟩, hz⟩ := I.tuple hs
  rw [Vals.ref1 r]
  have hi := rv.ints
  have hz' : its.length ≤ sizeLine := by rw [← rv.length]; exact hz
  refine Calls.call_function_entry kind_sorted plain_sorted entry_sorted (args_sorted1 _) ?_
  unfold Builtin.«sorted»
  refine wpAny_bind (m := checkCount "sorted" 1 1 _) (wpAny_pure (wpAny_bind (wpAny_collect_seq (T := "tuple") a (.inr rfl) ho hc hd (fun h1 k1 => ?_) (by rw [List.size_toArray]; exact hz'))))
  rw [List.toList_toArray]
  refine wpAny_bind (wpAny_newList ?_ hz')
  have at1 : (h1.push (seqObj "list" its.toArray 0)).get? h1.objs.size = some (seqObj "list" its.toArray 0) := Heap.get?_push_size _ rfl
  have I1 := I.kept (t' := s.toks) k1
  refine wpAny_bind (wpAny_holding (wpAny_call_entry slot_list_sort ⟨_, at1, rfl⟩ entry_list_sort (SrtO.list_sort_ord SrtO.swo_int at1 hz' (fun h2 => SrtO.ints_sortable hi h2) fun out p1 p2 => ⟨_, rfl, ?_⟩) (args_list_sort _)))
  refine wpAny_pure ⟨_, rfl, ?_⟩
  obtain ⟨j1, j2, j3⟩ := SrtO.ints_out hi p1 p2
  obtain ⟨ep, he⟩ := sortedHeap_at (vs := its) (out := out.toArray) at1
  have hl : ((out.map SrtO.iv).map V.int).length ≤ sizeLine := by
    rw [List.length_map, j2.length_eq]
    rw [List.length_map] at hz
    exact hz
  refine ⟨.ref _, upd H h1.objs.size (.lst ((out.map SrtO.iv).map V.int)), I1.laid (t' := s.toks) (fun b o e => ?_) (Nat.le_refl _) ⟨hl, out, ep, vals_of_ints j1, he⟩, rfl, q _ _ j2 j3 (I1.hok.fresh (Nat.le_refl _))⟩
  have lb : b < h1.objs.size := Heap.lt_size e
  rw [sortedHeap_old (Nat.ne_of_lt lb) (by rw [Heap.size_push]; exact Nat.lt_succ_of_lt lb)]
  exact Heap.get?_push_of_some _ e
end HL

namespace HL
open PySem PySem.Spec PyProof.Rows L2
open AutoSeq1 (wpAny_loadPart')
/-! t * k, k from 0 on: no times is a new tuple of nothing -/
theorem tuple_mul0 (l : Addr) (items : Array Value) (n : Nat) (dd : Option Addr) (sl : Array (Option Value)) (u : Tok) (he : items.isEmpty = false) :
    Meets (Builtin.«tuple.__mul__» ⟨[.ref l, .int 0 u], []⟩)
      (fun _ R s => s.heap.get? l = some { cls := .type "tuple", dict := dd, data := .seq items n, slots := sl } ∧ R (.ok (.ret (.ref s.heap.objs.size))) { s with heap := s.heap.push { cls := .type "tuple", data := .seq #[] }, toks := s.toks }) :=
  .of_wp fun prog w A R s h => by
    obtain ⟨hp, g, d, tk, os⟩ := s
    obtain ⟨hl, h⟩ := h
    have f1 := AutoSeq1.idx_int
    have e1 : ¬ ((items.isEmpty || ((0 : Int) == 1)) = true) := by rw [he]; decide
    have e2 : (decide ((0 : Int) ≤ 0) || items.isEmpty) = true := by rw [he]; decide
    have e3 : ¬ ((#[] : Array Value).size > sizeLine) := by show ¬ (0 > sizeLine); decide
    wp_walk using wpAny_loadPart' hl
    repeat (first
      | (refine wpAny_ite_false (by decide) ?_; wp_walk using wpAny_loadPart' hl)
      | (refine wpAny_ite_false (decide_eq_false e1) ?_; wp_walk using wpAny_loadPart' hl)
      | (refine wpAny_ite_true (decide_eq_true e2) ?_; wp_walk using wpAny_loadPart' hl)
      | (refine wpAny_ite_true (by decide) ?_; wp_walk using wpAny_loadPart' hl)
      | (refine wpAny_ite_false (decide_eq_false e3) ?_; wp_walk using wpAny_loadPart' hl))
    exact ⟨_, rfl, h⟩
/-- no times, or as often as rRepA lets -/
def rRepN (K : PySem.W.Frag) : R2 := fun x y H Q => (∃ l xs, x = .ref l ∧ y = .int 0 ∧ SqT K H l xs ∧ xs ≠ [] ∧ ∀ p, H p = none → Q (.ref p) (upd H p (.tup []))) ∨ rRepA K x y H Q
theorem op_repN {X : Cx} : OpR X (binaryOp .Mult) (rRepN X.K) := by
  intro pins s σ H x y v u Q I rx ry h
  rcases h with ⟨l, xs, rfl, rfl, hT, hne, q⟩ | h
  · cases rx
    obtain ⟨t, rfl⟩ := ry
    obtain ⟨its, r, ⟨⟨cl, dd, dat, sl⟩, ho, hc, n, hd⟩, _⟩ := I.tuple hT
    simp only at hc hd
    subst hc hd
    have he : its.toArray.isEmpty = false := by
      cases its with
      | nil => exact absurd (List.eq_nil_of_length_eq_zero r.length) hne
      | cons a b => rfl
    refine wpAny_binaryOp_repeat_ref (T := "tuple") (U := "int") (by decide) ⟨_, ho, rfl⟩ (fun s' => typeIs_int s' 0 t) noFill_tuple_mul F.fills_int_mul F.slot_int_rmul repeat_tuple F.slot_int_index.lookup
      (call_meets F.slot_int_rmul (typeIs_int s 0 t) F.entry_int_rmul (F.args_int_rmul_2 _ _) (int_rmul_tuple 0 t l its.toArray n dd sl)
        ⟨ho, rfl, ⟨_, ho, rfl⟩, call_meets F.slot_tuple_mul ⟨_, ho, rfl⟩ F.entry_tuple_mul (F.args_tuple_mul_2 _ _) (tuple_mul0 l its.toArray n dd sl t he) ⟨ho, ?_⟩⟩)
    exact ⟨.ref s.heap.objs.size, _, I.laid (t' := s.toks) (o := .tup []) (fun b ob e => Heap.get?_push_of_some _ e) (Nat.le_refl _) ⟨Nat.zero_le _, [], .nil, IsTup.new _ _⟩, rfl, q _ (I.hok.fresh (Nat.le_refl _))⟩
  · exact op_repA pins s σ H x y v u Q I rx ry h
end HL

namespace HL
open PySem PySem.Spec PyProof.Rows L2
/-! {t: v}, t a tuple of ints and texts -/
def tDisp1T (tk tv : TE) : TE := fun σ H Q => ∀ p, H p = none → tk σ (upd H p (.dT [])) fun x H1 => tv σ H1 fun y H2 => ∃ (k : List Key) (b : Addr), x = .ref b ∧ H2 b = some (.tup (k.map kV)) ∧ H2 p = some (.dT []) ∧ Q (.ref p) (upd H2 p (.dT [(k, y)]))
theorem pe_disp1T {X : Cx} {ke ve : Expr} {pos : Pos} {tk tv : TE} (hu : X.A.units + 1 < cLine) (hk : PE X ke tk) (hv : PE X ve tv) : PE X (.Dict [some ke] [ve] pos) (tDisp1T tk tv) := by
  refine ⟨fun pins s σ H Q I q => ?_⟩
  have hn := I.hok.fresh (Nat.le_refl s.heap.objs.size)
  have I1 := I.laid (a := s.heap.objs.size) (o := .dT []) (h' := s.heap.push { cls := .type "dict", data := .dict #[] }) (t' := s.toks) (fun _ _ e => Heap.get?_push_of_some _ e) (Nat.le_refl _) (dt_empty s.heap I.big)
  rw [arm_eval_Dict, zip_pairTrees [some ke] [ve] X.env pos rfl rfl, dictDisplay_pairs (pairTrees [some ke] [ve] X.env pos) (fun z => by cases z) (by show 1 < 17; decide)]
  refine wpAny_bind (wpAny_standAt (wpAny_bind ?_))
  unfold subDict
  refine wpAny_bind (wpAny_alloc (wpAny_bind (wpAny_holding ?_)))
  rw [if_pos (show (pairTrees [some ke] [ve] X.env pos).length ≤ 15 by show 1 ≤ 15; decide)]
  refine wpAny_bind (pairTrees_cons_walk (thn (hk.run pins _ σ _ _ I1 (q _ hn)) fun u s1 ⟨x, H1, I2, rx, q1⟩ => thn (hv.run pins s1 σ H1 _ I2 q1) fun w2 s2 ⟨y, H2, I3, ry, q2⟩ => pairTrees_nil_walk (wpAny_holding ?_)))
  obtain ⟨k, b, rfl, hb, hp, q3⟩ := q2
  cases (show u = Value.ref b from rx)
  obtain ⟨z, hd, xs, rel, dd⟩ := dt_of I3.hok hp
  rw [List.forIn_cons]
  refine wpAny_bind (wpAny_bind ?_)
  show wpAny (model X.prog X.w) X.A (dictSet s.heap.objs.size (.ref b) w2 >>= fun _ => pure (ForInStep.yield PUnit.unit)) _ _ _
  refine wpAny_bind (wpAny_dictSet_heap (hsz := by rw [← Paired.length rel]; exact z) (show (tupleKind (mixKind X.prog X.w)).room X.A from Nat.lt_of_le_of_lt (Nat.le_succ _) hu) (key_of I3.hok hb) dd fun h' dd' hs => wpAny_pure ?_)
  show wpAny (model X.prog X.w) X.A (forIn [] PUnit.unit _) _ _ _
  rw [List.forIn_nil]
  refine wpAny_pure (wpAny_pure (wpAny_pure (wpAny_pure ⟨.ref s.heap.objs.size, _, ?_, rfl, q3⟩)))
  obtain ⟨o, es, ep, hq, h2, h3, h4, _, h5⟩ := dd'
  cases rel
  refine d_write I3 (by rw [hp]; exact True.intro) hs ⟨o, hq⟩ ⟨by show 1 ≤ sizeLine; decide, hd, _, ((KT.put (H := H2) .nil k hb ry)).keeps fun c ys ec => ?_, o, es, ep, hq, h2, h3, h4, h5⟩
  rw [upd_ne (ne_of ec hp (fun z => nomatch z))]
  exact ec
end HL

namespace HL
open PySem PySem.Spec PyProof.Rows L2 HT
/-! t += u, both tuples -/
theorem noI_tup : typeLookup (.type "tuple") (dunderI "add") = pure none := by rw [typeLookup_type, builtinLookup_eq_fast]; kernel_rfl
section
variable {X : Cx}
theorem ip_catA : PIp X .Add (rCatA X.K) := by
  intro pins s σ H x y v u Q I rx ry h
  obtain ⟨a, b, xs, ys, rfl, rfl, ha, hb, hz, q0, q1, q2⟩ := h
  cases rx
  cases ry
  obtain ⟨is1, r1, p1, _⟩ := I.tuple ha
  obtain ⟨is2, r2, p2, _⟩ := I.tuple hb
  obtain ⟨⟨c1, d1, da1, sl1⟩, o1, k1, n1, e1⟩ := id p1
  obtain ⟨⟨c2, d2, da2, sl2⟩, o2, k2, n2, e2⟩ := id p2
  simp only at k1 e1 k2 e2
  subst k1 e1 k2 e2
  have go : ∀ {S : PySem.Spec} (_ : Meets ((fun B : Builtin => B ⟨[.ref a, .ref b], []⟩) _) S) (_ : S X.A (wants (EP X pins σ Q) X.xe) s), wpAny (model X.prog X.w) X.A (inplaceOp .Add (.ref a) (.ref b)) (EP X pins σ Q) X.xe s :=
    fun g h => PyProof.Rows.inplaceOp_concat ⟨_, o1, rfl⟩ ⟨_, o2, rfl⟩ noI_tup noFill_tuple_add seq_tuple_add (call_meets PySem.F.slot_tuple_add ⟨_, o1, rfl⟩ PySem.F.entry_tuple_add (PySem.F.args_tuple_add_2 _ _) g h)
  by_cases hx : xs = []
  · subst hx
    cases r1
    exact go (tuple_addW0 a b ([] : List Value).toArray is2.toArray n1 n2 d1 d2 sl1 sl2 (by simp)) ⟨o1, o2, ⟨.ref b, H, I, rfl, q0 rfl⟩⟩
  · have hv : is1 ≠ [] := fun z => hx (r1.nil_iff.mp z)
    by_cases hy : is2 = []
    · exact go (tuple_addW1 a b is1.toArray is2.toArray n1 n2 d1 d2 sl1 sl2 (by simpa using hv) (by simp [hy])) ⟨o1, o2, ⟨.ref a, H, I, rfl, q1 hx (r2.nil_iff.mp hy)⟩⟩
    · refine go (tuple_addW2 a b is1.toArray is2.toArray n1 n2 d1 d2 sl1 sl2 (by simpa using hv) (by simpa using hy) (by rw [List.size_toArray, List.size_toArray, ← r1.length, ← r2.length]; exact hz)) ⟨o1, o2, ?_⟩
      rw [show is1.toArray ++ is2.toArray = (is1 ++ is2).toArray by simp]
      refine ⟨.ref s.heap.objs.size, _, I.laid (t' := s.toks) (o := .tup (xs ++ ys)) (fun c oc q => Heap.get?_push_of_some _ q) (Nat.le_refl _) ?_, rfl, q2 hx (fun w => hy (r2.nil_iff.mpr w)) _ (I.hok.fresh (Nat.le_refl _))⟩
      exact ⟨by rw [List.length_append]; exact hz, is1 ++ is2, r1.append r2, IsTup.new _ _⟩
end
end HL

namespace HL
open PySem PySem.Spec PyProof.Rows L2
/-! sorted of a list of rows (tuples of as many whole numbers each, from 0 to below B) that rise already -/
def codeV (h : Heap) (B : Int) (v u : Value) : Bool := decide (TS.code B (TS.intsOf h v) < TS.code B (TS.intsOf h u))
theorem codeV_swo (h : Heap) (B : Int) : SrtO.Swo (codeV h B) := by
  refine ⟨fun x y e => ?_, fun x y z e1 e2 => ?_⟩
  · have := of_decide_eq_true e
    exact decide_eq_false (by omega)
  · have a1 := of_decide_eq_false e1
    have a2 := of_decide_eq_false e2
    exact decide_eq_false (by omega)
theorem vals_refs : ∀ {us : List Value} {as : List Addr}, (∀ u ∈ us, ∃ a, u = Value.ref a) → as.map V.ref = us.map backV → us = as.map Value.ref
  | [], [], _, _ => rfl
  | [], _ :: _, _, e => by simp at e
  | _ :: _, [], _, e => by simp at e
  | u :: us, a :: as, h, e => by
    obtain ⟨b, rfl⟩ := h u List.mem_cons_self
    rw [List.map_cons, List.map_cons] at e
    obtain ⟨e1, e2⟩ := List.cons.inj e
    have e3 : V.ref a = V.ref b := e1
    rw [List.map_cons, V.ref.inj e3, vals_refs (fun u hu => h u (List.mem_cons_of_mem _ hu)) e2]
theorem sortable_rows {prog : Program} {w : World} {A : Around} {s : Shared} {a : Addr} {vs : List Value} {d : Nat} {B : Int} {f : Value → Value → Bool} (h0 : 0 < vs.length) (hd : 1 ≤ d) (x : TS.TupsOk s.heap d B vs) (hf : ∀ v u ns ms, v ∈ vs → u ∈ vs → TS.TupInts s.heap v ns → TS.TupInts s.heap u ms → f v u = decide (TS.code B ns < TS.code B ms))
    (ha : ∀ o, s.heap.get? a = some o → o.cls ≠ .type "tuple") : SrtO.SortableO prog w A s a vs f := by
  intro h' keep
  have kk : ∀ b o, s.heap.get? b = some o → o.cls = .type "tuple" → h'.get? b = some o := fun b o e c => keep b o (fun z => by subst z; exact ha o e c) e
  have x' := x.keeps kk
  obtain ⟨fs, h1, h2, h3⟩ := TS.firsts_of hd vs x'
  refine ⟨tuples' true, fun Q E hq => ?_, ?_⟩
  · refine PySem.W.kat_kind (T := .type "int") h1 (by omega) (fun g hm => ?_) (by rfl) ?_
    · obtain ⟨n, t, rfl⟩ := h3 g hm
      exact PySem.W.Looks.now
    · rw [show (Value.type "int" != Value.type "tuple") = true by first | decide +kernel | rfl | decide]
      exact hq
  · intro p q hp hq
    obtain ⟨ns, t1, l1, b1⟩ := x _ hp
    obtain ⟨ms, t2, l2, b2⟩ := x _ hq
    show wpAny (model prog w) A (keyLt' (tuples' true) p.1 q.1) (fun r s' => s' = { s with heap := h' } ∧ r = f p.1 q.1) (fun _ _ => False) { s with heap := h' }
    rw [hf _ _ _ _ hp hq t1 t2]
    obtain ⟨a1, xs, e1, ⟨o1, ho1, hc1, n1, hd1⟩, i1⟩ := t1.keeps kk
    obtain ⟨a2, ys, e2, ⟨o2, ho2, hc2, n2, hd2⟩, i2⟩ := t2.keeps kk
    rw [e1, e2]
    refine PySem.W.kat_lt ho1 hd1 ho2 hd2 ?_
    have z1 := i1.length
    have z2 := i2.length
    rw [Array.length_toList] at z1 z2
    rw [show decide (xs.size < ys.size) = false from decide_eq_false (by omega)]
    exact TS.lex_ints 0 i1 i2 (by omega) b1 b2 ⟨rfl, rfl⟩
def rSortedR (K : PySem.W.Frag) : List V → Hp → VK → Prop := fun vs H Q => ∃ (a : Addr) (as : List Addr) (rows : List (List Int)) (d : Nat) (B : Int), vs = [V.ref a] ∧ SqL K H a (as.map V.ref) ∧ as.length = rows.length ∧
  (∀ (i : Nat) (b : Addr) (r : List Int), as[i]? = some b → rows[i]? = some r → H b = some (.tup (r.map V.int))) ∧ 1 ≤ d ∧ (∀ r ∈ rows, r.length = d ∧ TS.Bd B r) ∧ rows.Pairwise (fun r s => TS.code B r < TS.code B s) ∧ ∀ p, H p = none → Q (.ref p) (upd H p (.lst (as.map V.ref)))
theorem cr_sortedR {X : Cx} : CallR X (.builtin "sorted") (rSortedR X.K) := by
  intro pins s σ H vs us Q I r h
  obtain ⟨a, as, rows, d, B, rfl, hs, hlen, hat, hd, hok, hrise, q⟩ := h
  obtain ⟨its, rv, hl, hz⟩ := I.list hs
  obtain ⟨u, rfl, ru⟩ := vals1 r
  obtain rfl : u = Value.ref a := ru
  obtain ⟨e1, e2⟩ := refs_back rv fun x m => by
    obtain ⟨b, _, rfl⟩ := List.mem_map.mp m
    exact ⟨b, rfl⟩
  obtain rfl := vals_refs e2 e1
  have tup : ∀ (i : Nat) (b : Addr) (r : List Int), as[i]? = some b → rows[i]? = some r → TS.TupInts s.heap (.ref b) r := fun i b r h1 h2 => by
    obtain ⟨_, its2, r2, o, ho, hc, n, hdt⟩ := I.hok _ _ (hat i b r h1 h2)
    exact ⟨b, its2.toArray, rfl, ⟨o, ho, hc, n, hdt⟩, by rw [List.toList_toArray]; exact r2.ints⟩
  have row : ∀ (i : Nat) (b : Addr), as[i]? = some b → ∃ r, rows[i]? = some r := fun i b hb => by
    have := (List.getElem?_eq_some_iff.mp hb).1
    exact ⟨_, List.getElem?_eq_getElem (by omega)⟩
  have tok : TS.TupsOk s.heap d B (as.map Value.ref) := fun v hv => by
    obtain ⟨b, hb, rfl⟩ := List.mem_map.mp hv
    obtain ⟨i, hi, e⟩ := List.mem_iff_getElem.mp hb
    have hb' : as[i]? = some b := by rw [List.getElem?_eq_getElem hi, e]
    obtain ⟨r, hr⟩ := row i b hb'
    obtain ⟨k1, k2⟩ := hok r (List.mem_of_getElem? hr)
    exact ⟨r, tup i b r hb' hr, k1, k2⟩
  have srt : SrtO.Srtd (codeV s.heap B) (as.map Value.ref) := by
    refine List.pairwise_iff_getElem.mpr fun i j hi hj hij => ?_
    rw [List.length_map] at hi hj
    have hi' : as[i]? = some as[i] := List.getElem?_eq_getElem hi
    have hj' : as[j]? = some as[j] := List.getElem?_eq_getElem hj
    have ri : rows[i]? = some (rows[i]'(by omega)) := List.getElem?_eq_getElem _
    have rj : rows[j]? = some (rows[j]'(by omega)) := List.getElem?_eq_getElem _
    have := List.pairwise_iff_getElem.mp hrise i j (by omega) (by omega) hij
    rw [List.getElem_map, List.getElem_map]
    unfold codeV
    rw [(tup j _ _ hj' rj).ints, (tup i _ _ hi' ri).ints]
    exact decide_eq_false (by omega)
  have hz' : (as.map Value.ref).length ≤ sizeLine := by rw [List.length_map]; rw [List.length_map] at hz; exact hz
  refine SrtO.sorted_ord (codeV_swo s.heap B) hl.isList hz' (fun h2 h₁ a' ha kk => ?_) fun out hso hb => ?_
  · refine sortable_rows (s := { s with heap := h₁ }) (d := d) (B := B) (by omega) hd (tok.keeps fun b o e _ => (kk b o e).2) (fun v u ns ms mv mu tv tu => ?_) fun o e => ?_
    · obtain ⟨ns', tv', _⟩ := tok v mv
      obtain ⟨ms', tu', _⟩ := tok u mu
      have kv := (tv'.keeps fun b o e _ => (kk b o e).2).ints
      have ku := (tu'.keeps fun b o e _ => (kk b o e).2).ints
      have ev : ns = ns' := tv.ints.symm.trans kv
      have eu : ms = ms' := tu.ints.symm.trans ku
      unfold codeV
      rw [tv'.ints, tu'.ints, ev, eu]
    · have e' : some o = some (seqObj "list" (as.map Value.ref).toArray 0) := e.symm.trans ha
      cases e'
      intro c
      exact absurd (Value.type.inj c) (by decide)
  · have eo := SrtO.stb_uniq (codeV_swo s.heap B) hso srt hb
    subst eo
    obtain ⟨n, hn⟩ := sortedAll_at s.heap (as.map Value.ref) (as.map Value.ref).toArray
    refine ⟨.ref _, upd H (s.heap.objs.size + 1) (.lst (as.map V.ref)), I.laid (t' := s.toks) (fun b o e => sortedAll_old e) (Nat.le_succ _) ⟨hz, as.map Value.ref, n, rv, hn⟩, rfl, q _ (I.hok.fresh (Nat.le_succ _))⟩
end HL

namespace HL
open PySem PySem.Spec PyProof.Rows L2
/-! d.clear(), d a dict whose keys are tuples -/
def rDClearT : V → List V → Hp → VK → Prop := fun x vs H Q => ∃ (a : Addr) (kvs : List (List Key × V)), x = .ref a ∧ vs = [] ∧ H a = some (.dT kvs) ∧ Q .non (upd H a (.dT []))
theorem d_clearT {X : Cx} {A : Around} {E : Value → Shared → Prop} {pins : List (Addr × Obj)} {s : Shared} {σ : L2.St} {H : Hp} {a : Addr} {kvs : List (List Key × V)} {Q : Value → Shared → Prop} (I : Inv X pins σ H s) (e : H a = some (.dT kvs)) (h : ∀ s', Inv X pins σ (upd H a (.dT [])) s' → Q .none s') : wpAny (model X.prog X.w) A (call (.builtin "dict.clear") [.ref a]) Q E s := by
  obtain ⟨z, hd, xs, pr, o, es, ep, ho, hx, hdt, he, hn⟩ := (show ObjOk X.prog X.w H s.heap a (.dT kvs) from I.hok a _ e)
  have hm : s.heap.DictRaw a es ep := ⟨o, ho, hx, hdt⟩
  have l1 : es.size = xs.length := size_of_entries he
  have l2 : kvs.length = xs.length := Paired.length pr
  refine call_meetsIn PySem.F.slot_dict_clear hm.typeIs PySem.F.entry_dict_clear (PySem.F.args_dict_clear_1 _) (PySem.meets_dict_clear_raw a) ⟨es, ep, hm, by omega, fun h' dd' hs => h _ ?_⟩
  obtain ⟨o2, h1, h2, h3⟩ := dd'
  exact d_write (t' := s.toks) I (by rw [e]; exact True.intro) hs ⟨o2, h1⟩ ⟨Nat.zero_le _, hd, [], .nil, o2, #[], _, h1, h2, h3, rfl, List.nodup_nil⟩
theorem mt_clearT {X : Cx} : MtR X "dict.clear" rDClearT := by
  intro pins s σ H x vs v us Q I rx rv h
  obtain ⟨a, kvs, ex, ev, e, q⟩ := h
  subst ex
  subst ev
  obtain rfl : v = Value.ref a := rx
  have hus := rv.zero
  subst hus
  exact d_clearT I e fun s' I' => ⟨.non, _, I', rfl, q⟩
theorem pe_dclearT {X : Cx} {o : Expr} {to : TE} {apos cpos : Pos} (ho : PE X o to) (hbase : attributeBase o "clear" X.env (eval o X.env) = eval o X.env := by rfl) (hline : (apos.endLine == cpos.line) = true := by rfl) : PE X (.Call (.Attribute o "clear" apos) [] [] cpos) (tBM0 X.K "dict" rDClearT to) :=
  pe_bm0 PySem.F.plainAttrs_dict PySem.F.slot_dict_clear PySem.F.type_dict_clear mt_clearT ho hbase hline
end HL

namespace HL
/-! ### rows, and how many ways there are to make one of rows -/
/-- b less h, taken k times -/
def subR (b h : List Int) (k : Int) : List Int := (b.zip h).map fun q => q.1 - k * q.2
def zeroB (b : List Int) : Bool := b.all fun z => decide (z = 0)
def nnB (b : List Int) : Bool := b.all fun z => decide (0 ≤ z)
def cnt : List (List Int) → List Int → Nat
  | [], b => if zeroB b = true then 1 else 0
  | h :: t, b => ((List.range (b.sum.toNat + 1)).map fun (k : Nat) => cnt t (subR b h (k : Int))).sum
/-- a kind: as wide as told, nothing below 0, something above it -/
def Kd (g : Nat) (h : List Int) : Prop := h.length = g ∧ (∀ n ∈ h, 0 ≤ n) ∧ ∃ n ∈ h, 0 < n
theorem sum_zeroN : ∀ {l : List Nat}, (∀ x ∈ l, x = 0) → l.sum = 0
  | [], _ => rfl
  | x :: l, h => by rw [List.sum_cons, h x List.mem_cons_self, sum_zeroN fun y hy => h y (List.mem_cons_of_mem _ hy)]
theorem nnB_iff {b : List Int} : nnB b = true ↔ ∀ n ∈ b, 0 ≤ n := by
  unfold nnB
  rw [List.all_eq_true]
  exact ⟨fun h n hn => of_decide_eq_true (h n hn), fun h n hn => decide_eq_true (h n hn)⟩
theorem zeroB_iff {b : List Int} : zeroB b = true ↔ ∀ n ∈ b, n = 0 := by
  unfold zeroB
  rw [List.all_eq_true]
  exact ⟨fun h n hn => of_decide_eq_true (h n hn), fun h n hn => decide_eq_true (h n hn)⟩
theorem subR_len {b h : List Int} {k : Int} (e : b.length = h.length) : (subR b h k).length = b.length := by
  unfold subR
  rw [List.length_map, List.length_zip]
  omega
theorem subR_cons {x y : Int} {b h : List Int} {k : Int} : subR (x :: b) (y :: h) k = (x - k * y) :: subR b h k := rfl
theorem subR_zero : ∀ {b h : List Int}, b.length = h.length → subR b h 0 = b
  | [], [], _ => rfl
  | x :: b, y :: h, e => by
    rw [subR_cons, subR_zero (by simpa using e), Int.zero_mul, Int.sub_zero]
  | [], _ :: _, e => by simp at e
  | _ :: _, [], e => by simp at e
theorem subR_add : ∀ {b h : List Int} {j k : Int}, subR (subR b h j) h k = subR b h (j + k)
  | [], _, _, _ => rfl
  | _ :: _, [], _, _ => rfl
  | x :: b, y :: h, j, k => by
    rw [subR_cons, subR_cons, subR_cons, subR_add, Int.add_mul]
    congr 1
    omega
theorem subR_comm : ∀ {b h g : List Int} {j k : Int}, subR (subR b h j) g k = subR (subR b g k) h j
  | [], _, _, _, _ => by simp [subR]
  | _ :: _, [], g, _, _ => by cases g <;> simp [subR]
  | _ :: _, _ :: _, [], _, _ => by simp [subR]
  | x :: b, y :: h, z :: g, j, k => by
    rw [subR_cons, subR_cons, subR_cons, subR_cons, subR_comm]
    congr 1
    omega
theorem subR_sum : ∀ {b h : List Int} {k : Int}, b.length = h.length → (subR b h k).sum = b.sum - k * h.sum
  | [], [], k, _ => by simp [subR]
  | x :: b, y :: h, k, e => by
    rw [subR_cons, List.sum_cons, List.sum_cons, List.sum_cons, subR_sum (by simpa using e), Int.mul_add]
    omega
  | [], _ :: _, _, e => by simp at e
  | _ :: _, [], _, e => by simp at e
theorem sum_nn : ∀ {b : List Int}, (∀ n ∈ b, 0 ≤ n) → 0 ≤ b.sum
  | [], _ => Int.le_refl _
  | x :: b, h => by
    rw [List.sum_cons]
    have := h x List.mem_cons_self
    have := sum_nn fun n hn => h n (List.mem_cons_of_mem _ hn)
    omega
theorem sum_kd {g : Nat} {h : List Int} (k : Kd g h) : 1 ≤ h.sum := by
  have k2 := k.2.1
  obtain ⟨n, hn, hp⟩ := k.2.2
  clear k
  induction h with
  | nil => cases hn
  | cons x h ih =>
    rw [List.sum_cons]
    have x0 := k2 x List.mem_cons_self
    have r0 := sum_nn fun n hn => k2 n (List.mem_cons_of_mem _ hn)
    rcases List.mem_cons.mp hn with e | e
    · omega
    · have := ih (fun n hn => k2 n (List.mem_cons_of_mem _ hn)) e
      omega
/-- what is below 0 somewhere stays so -/
theorem sub_neg : ∀ {b h : List Int} {k : Int}, b.length = h.length → (∀ n ∈ h, 0 ≤ n) → 0 ≤ k → nnB b = false → nnB (subR b h k) = false
  | [], [], _, _, _, _, e => by cases e
  | x :: b, y :: h, k, el, hn, hk, e => by
    unfold nnB at e ⊢
    rw [subR_cons, List.all_cons]
    rw [List.all_cons] at e
    have y0 := hn y List.mem_cons_self
    by_cases c : 0 ≤ x
    · rw [decide_eq_true c, Bool.true_and] at e
      have := sub_neg (b := b) (h := h) (k := k) (by simpa using el) (fun n hn' => hn n (List.mem_cons_of_mem _ hn')) hk e
      unfold nnB at this
      rw [this, Bool.and_false]
    · have : ¬ 0 ≤ x - k * y := by
        have := Int.mul_nonneg hk y0
        omega
      rw [decide_eq_false this, Bool.false_and]
  | [], _ :: _, _, e, _, _, _ => by simp at e
  | _ :: _, [], _, e, _, _, _ => by simp at e
theorem cnt_neg {g : Nat} : ∀ {l : List (List Int)} {b : List Int}, (∀ h ∈ l, Kd g h) → b.length = g → nnB b = false → cnt l b = 0
  | [], b, _, _, e => by
    unfold cnt
    rw [if_neg fun z => ?_]
    have : nnB b = true := nnB_iff.mpr fun n hn => by rw [zeroB_iff.mp z n hn]; exact Int.le_refl _
    rw [this] at e
    cases e
  | h :: t, b, hl, hb, e => by
    unfold cnt
    have kh := hl h List.mem_cons_self
    refine sum_zeroN fun x hx => ?_
    obtain ⟨k, _, rfl⟩ := List.mem_map.mp hx
    have eb : b.length = h.length := by rw [hb, kh.1]
    exact cnt_neg (fun h' hh => hl h' (List.mem_cons_of_mem _ hh)) (by rw [subR_len eb, hb]) (sub_neg eb kh.2.1 (by omega) e)
theorem sum_range_zero (f : Nat → Nat) {m : Nat} : ∀ {n : Nat}, (∀ k, m ≤ k → f k = 0) → m ≤ n → ((List.range n).map f).sum = ((List.range m).map f).sum
  | 0, _, h => by rw [Nat.le_zero.mp h]
  | n + 1, hf, h => by
    by_cases c : m = n + 1
    · rw [c]
    · rw [List.range_succ, List.map_append, List.sum_append, sum_range_zero f hf (by omega)]
      simp [hf n (by omega)]
theorem sub_far {g : Nat} {b h : List Int} {k : Nat} (kh : Kd g h) (hb : b.length = g) (hk : b.sum.toNat < k) : nnB (subR b h (k : Int)) = false := by
  have eb : b.length = h.length := by rw [hb, kh.1]
  cases e : nnB (subR b h (k : Int)) with
  | false => rfl
  | true =>
    have h0 := sum_nn (nnB_iff.mp e)
    rw [subR_sum eb] at h0
    have h1 := sum_kd kh
    have : (k : Int) * 1 ≤ (k : Int) * h.sum := Int.mul_le_mul_of_nonneg_left h1 (by omega)
    omega
/-- any number of turns that is great enough -/
theorem cnt_to {g : Nat} {h : List Int} {t : List (List Int)} {b : List Int} {m : Nat} (hl : ∀ x ∈ h :: t, Kd g x) (hb : b.length = g) (hm : b.sum.toNat + 1 ≤ m) : cnt (h :: t) b = ((List.range m).map fun (k : Nat) => cnt t (subR b h (k : Int))).sum := by
  have kh := hl h List.mem_cons_self
  have eb : b.length = h.length := by rw [hb, kh.1]
  rw [show cnt (h :: t) b = ((List.range (b.sum.toNat + 1)).map fun (k : Nat) => cnt t (subR b h (k : Int))).sum from rfl]
  exact (sum_range_zero _ (fun k hk => cnt_neg (fun x hx => hl x (List.mem_cons_of_mem _ hx)) (by rw [subR_len eb, hb]) (sub_far kh hb (by omega))) hm).symm
theorem sum_range_shift (f : Nat → Nat) (n : Nat) : ((List.range (n + 1)).map f).sum = f 0 + ((List.range n).map fun k => f (k + 1)).sum := by
  rw [List.range_succ_eq_map, List.map_cons, List.sum_cons, List.map_map]
  rfl
theorem sub_sum_le {g : Nat} {b h : List Int} (kh : Kd g h) (hb : b.length = g) : (subR b h 1).sum.toNat + 1 ≤ b.sum.toNat + 1 := by
  have eb : b.length = h.length := by rw [hb, kh.1]
  rw [subR_sum eb]
  have := sum_kd kh
  omega
/-- the table's own row: without the kind, and with one hamper of it taken out -/
theorem cnt_step {g : Nat} {h : List Int} {t : List (List Int)} {b : List Int} (hl : ∀ x ∈ h :: t, Kd g x) (hb : b.length = g) : cnt (h :: t) b = cnt t b + cnt (h :: t) (subR b h 1) := by
  have kh := hl h List.mem_cons_self
  have eb : b.length = h.length := by rw [hb, kh.1]
  rw [cnt_to hl hb (m := b.sum.toNat + 1 + 1) (by omega), sum_range_shift, show ((0 : Nat) : Int) = 0 from rfl, subR_zero eb, cnt_to hl (by rw [subR_len eb, hb]) (sub_sum_le kh hb)]
  congr 2
  refine List.map_congr_left fun k _ => ?_
  rw [subR_add]
  congr 2
  omega
theorem sum_map_add (f g : Nat → Nat) : ∀ l : List Nat, (l.map fun k => f k + g k).sum = (l.map f).sum + (l.map g).sum
  | [] => rfl
  | x :: l => by
    rw [List.map_cons, List.map_cons, List.map_cons, List.sum_cons, List.sum_cons, List.sum_cons, sum_map_add f g l]
    omega
/-- the same of any kind of the lot -/
theorem cnt_cut {g : Nat} : ∀ {l : List (List Int)} {b : List Int} {i : Nat} {h : List Int}, (∀ x ∈ l, Kd g x) → b.length = g → l[i]? = some h → cnt l b = cnt (l.take i ++ l.drop (i + 1)) b + cnt l (subR b h 1)
  | [], _, _, _, _, _, e => by simp at e
  | x :: l, b, 0, h, hl, hb, e => by
    cases Option.some.inj e
    exact cnt_step hl hb
  | x :: l, b, i + 1, h, hl, hb, e => by
    have e' : l[i]? = some h := e
    have kx := hl x List.mem_cons_self
    have kh : Kd g h := hl h (List.mem_cons_of_mem _ (List.mem_of_getElem? e'))
    have ebx : b.length = x.length := by rw [hb, kx.1]
    have ebh : b.length = h.length := by rw [hb, kh.1]
    have hl' : ∀ y ∈ l, Kd g y := fun y hy => hl y (List.mem_cons_of_mem _ hy)
    have hlc : ∀ y ∈ x :: (l.take i ++ l.drop (i + 1)), Kd g y := fun y hy => by
      rcases List.mem_cons.mp hy with h | h
      · rw [h]; exact kx
      · rcases List.mem_append.mp h with h | h
        · exact hl' y (List.mem_of_mem_take h)
        · exact hl' y (List.mem_of_mem_drop h)
    show cnt (x :: l) b = cnt (x :: (l.take i ++ l.drop (i + 1))) b + cnt (x :: l) (subR b h 1)
    rw [cnt_to hl hb (Nat.le_refl _), cnt_to hlc hb (Nat.le_refl _), cnt_to hl (by rw [subR_len ebh, hb]) (sub_sum_le kh hb), ← sum_map_add]
    congr 1
    refine List.map_congr_left fun k _ => ?_
    have := cnt_cut hl' (b := subR b x (k : Int)) (by rw [subR_len ebx, hb]) e'
    rw [this, subR_comm]
/-- nothing of no goods -/
theorem cnt_nought {g : Nat} : ∀ {l : List (List Int)} {b : List Int}, (∀ x ∈ l, Kd g x) → b.length = g → zeroB b = true → cnt l b = 1
  | [], b, _, _, e => by
    unfold cnt
    rw [if_pos e]
  | h :: t, b, hl, hb, e => by
    have kh := hl h List.mem_cons_self
    have eb : b.length = h.length := by rw [hb, kh.1]
    have es : b.sum = 0 := by
      clear hb eb hl
      induction b with
      | nil => rfl
      | cons x b ih =>
        rw [List.sum_cons, zeroB_iff.mp e x List.mem_cons_self, ih (zeroB_iff.mpr fun n hn => zeroB_iff.mp e n (List.mem_cons_of_mem _ hn))]
        rfl
    rw [cnt_step hl hb, cnt_nought (fun x hx => hl x (List.mem_cons_of_mem _ hx)) hb e, cnt_neg (l := h :: t) hl (by rw [subR_len eb, hb])]
    have := sub_far (k := 1) kh hb (by rw [es]; decide)
    exact this
/-- where something is made of something, some kind goes in -/
theorem cnt_some {g : Nat} {b : List Int} (hb : b.length = g) (hz : zeroB b = false) : ∀ {l : List (List Int)}, (∀ x ∈ l, Kd g x) → (∀ h ∈ l, nnB (subR b h 1) = false) → cnt l b = 0
  | [], _, _ => by
    unfold cnt
    rw [hz]
    rfl
  | h :: t, hl, hn => by
    have kh := hl h List.mem_cons_self
    have eb : b.length = h.length := by rw [hb, kh.1]
    rw [cnt_step hl hb, cnt_some hb hz (fun x hx => hl x (List.mem_cons_of_mem _ hx)) (fun x hx => hn x (List.mem_cons_of_mem _ hx)), cnt_neg (l := h :: t) hl (by rw [subR_len eb, hb]) (hn h List.mem_cons_self)]
/-- the last kind first -/
theorem cnt_last {g : Nat} {h : List Int} (kh : Kd g h) : ∀ {l : List (List Int)} {b : List Int} {m : Nat}, (∀ x ∈ l, Kd g x) → b.length = g → b.sum.toNat + 1 ≤ m → cnt (l ++ [h]) b = ((List.range m).map fun (k : Nat) => cnt l (subR b h (k : Int))).sum
  | [], b, m, _, hb, hm => cnt_to (fun x hx => by rw [List.mem_singleton.mp hx]; exact kh) hb hm
  | x :: l, b, m, hl, hb, hm => by
    have kx := hl x List.mem_cons_self
    have ebx : b.length = x.length := by rw [hb, kx.1]
    have ebh : b.length = h.length := by rw [hb, kh.1]
    have hl' : ∀ y ∈ l, Kd g y := fun y hy => hl y (List.mem_cons_of_mem _ hy)
    have hlh : ∀ y ∈ x :: (l ++ [h]), Kd g y := fun y hy => by
      rcases List.mem_cons.mp hy with e | e
      · rw [e]; exact kx
      · rcases List.mem_append.mp e with e | e
        · exact hl' y e
        · rw [List.mem_singleton.mp e]; exact kh
    have small : ∀ (z : List Int) (k : Nat), Kd g z → (subR b z (k : Int)).sum.toNat + 1 ≤ m := fun z k kz => by
      rw [subR_sum (by rw [hb, kz.1])]
      have := sum_kd kz
      have : 0 ≤ (k : Int) * z.sum := Int.mul_nonneg (by omega) (by omega)
      omega
    show cnt (x :: (l ++ [h])) b = _
    rw [cnt_to hlh hb hm]
    have e1 : ∀ j : Nat, cnt (l ++ [h]) (subR b x (j : Int)) = ((List.range m).map fun (k : Nat) => cnt l (subR (subR b x (j : Int)) h (k : Int))).sum := fun j =>
      cnt_last kh hl' (by rw [subR_len ebx, hb]) (small x j kx)
    have e2 : ∀ k : Nat, cnt (x :: l) (subR b h (k : Int)) = ((List.range m).map fun (j : Nat) => cnt l (subR (subR b x (j : Int)) h (k : Int))).sum := fun k => by
      rw [cnt_to hl (by rw [subR_len ebh, hb]) (small h k kh)]
      congr 1
      refine List.map_congr_left fun j _ => ?_
      rw [subR_comm]
    rw [show ((List.range m).map fun (k : Nat) => cnt (l ++ [h]) (subR b x (k : Int))) = ((List.range m).map fun (j : Nat) => ((List.range m).map fun (k : Nat) => cnt l (subR (subR b x (j : Int)) h (k : Int))).sum) from List.map_congr_left fun j _ => e1 j,
      show ((List.range m).map fun (k : Nat) => cnt (x :: l) (subR b h (k : Int))) = ((List.range m).map fun (k : Nat) => ((List.range m).map fun (j : Nat) => cnt l (subR (subR b x (j : Int)) h (k : Int))).sum) from List.map_congr_left fun k _ => e2 k]
    generalize List.range m = rs
    have swap : ∀ (xs ys : List Nat) (f : Nat → Nat → Nat), (xs.map fun j => (ys.map fun k => f j k).sum).sum = (ys.map fun k => (xs.map fun j => f j k).sum).sum := fun xs ys f => by
      induction xs with
      | nil =>
        rw [List.map_nil, List.sum_nil]
        refine (sum_zeroN fun z hz => ?_).symm
        obtain ⟨k, _, rfl⟩ := List.mem_map.mp hz
        rfl
      | cons x xs ih =>
        rw [List.map_cons, List.sum_cons, ih, ← sum_map_add]
        rfl
    exact swap rs rs fun j k => cnt l (subR (subR b x (j : Int)) h (k : Int))
/-! ### two lots beside one another -/
theorem subR_app {b1 b2 h1 h2 : List Int} {k : Int} (e : b1.length = h1.length) : subR (b1 ++ b2) (h1 ++ h2) k = subR b1 h1 k ++ subR b2 h2 k := by
  unfold subR
  rw [List.zip_append e, List.map_append]
theorem subR_nought : ∀ {b : List Int} {n : Nat} {k : Int}, b.length = n → subR b (List.replicate n 0) k = b
  | [], 0, _, _ => rfl
  | x :: b, n + 1, k, e => by
    rw [List.replicate_succ, subR_cons, subR_nought (by simpa using e), Int.mul_zero, Int.sub_zero]
  | [], n + 1, _, e => by simp at e
  | _ :: _, 0, _, e => by simp at e
theorem zero_app {b1 b2 : List Int} : zeroB (b1 ++ b2) = (zeroB b1 && zeroB b2) := by
  unfold zeroB
  rw [List.all_append]
theorem kd_left {g w : Nat} {h : List Int} (k : Kd g h) : Kd (g + w) (h ++ List.replicate w 0) :=
  ⟨by rw [List.length_append, List.length_replicate, k.1], fun n hn => by
    rcases List.mem_append.mp hn with e | e
    · exact k.2.1 n e
    · rw [List.eq_of_mem_replicate e]
      exact Int.le_refl _, let ⟨n, h1, h2⟩ := k.2.2; ⟨n, List.mem_append_left _ h1, h2⟩⟩
theorem kd_right {g w : Nat} {h : List Int} (k : Kd g h) : Kd (w + g) (List.replicate w 0 ++ h) :=
  ⟨by rw [List.length_append, List.length_replicate, k.1], fun n hn => by
    rcases List.mem_append.mp hn with e | e
    · rw [List.eq_of_mem_replicate e]
      exact Int.le_refl _
    · exact k.2.1 n e, let ⟨n, h1, h2⟩ := k.2.2; ⟨n, List.mem_append_right _ h1, h2⟩⟩
theorem sum_mul (f : Nat → Nat) (c : Nat) : ∀ l : List Nat, (l.map fun k => c * f k).sum = c * (l.map f).sum
  | [] => rfl
  | x :: l => by rw [List.map_cons, List.map_cons, List.sum_cons, List.sum_cons, sum_mul f c l, Nat.mul_add]
theorem sum_mul' (f : Nat → Nat) (c : Nat) : ∀ l : List Nat, (l.map fun k => f k * c).sum = (l.map f).sum * c
  | [] => by simp
  | x :: l => by rw [List.map_cons, List.map_cons, List.sum_cons, List.sum_cons, sum_mul' f c l, Nat.add_mul]
theorem cnt_right {g w : Nat} {b1 : List Int} (hb1 : b1.length = w) (n1 : ∀ n ∈ b1, 0 ≤ n) : ∀ {l : List (List Int)} {b2 : List Int}, (∀ x ∈ l, Kd g x) → b2.length = g → (∀ n ∈ b2, 0 ≤ n) → cnt (l.map fun r => List.replicate w 0 ++ r) (b1 ++ b2) = (if zeroB b1 = true then 1 else 0) * cnt l b2
  | [], b2, _, _, _ => by
    show cnt [] (b1 ++ b2) = _
    unfold cnt
    rw [zero_app]
    cases zeroB b1 <;> cases zeroB b2 <;> rfl
  | h :: t, b2, hl, hb2, n2 => by
    have kh := hl h List.mem_cons_self
    have hl' : ∀ x ∈ t, Kd g x := fun x hx => hl x (List.mem_cons_of_mem _ hx)
    have hlm : ∀ x ∈ (List.replicate w 0 ++ h) :: (t.map fun r => List.replicate w 0 ++ r), Kd (w + g) x := fun x hx => by
      rcases List.mem_cons.mp hx with e | e
      · rw [e]; exact kd_right kh
      · obtain ⟨r, h1, rfl⟩ := List.mem_map.mp e
        exact kd_right (hl' r h1)
    have es : b2.sum.toNat + 1 ≤ (b1 ++ b2).sum.toNat + 1 := by
      rw [List.sum_append]
      have := sum_nn n1
      omega
    rw [List.map_cons, cnt_to hlm (by rw [List.length_append, hb1, hb2]) (Nat.le_refl _), cnt_to hl hb2 es, ← sum_mul]
    congr 1
    refine List.map_congr_left fun k _ => ?_
    rw [subR_app (by rw [hb1, List.length_replicate]), subR_nought hb1]
    by_cases c : nnB (subR b2 h (k : Int)) = true
    · exact cnt_right hb1 n1 hl' (by rw [subR_len (by rw [hb2, kh.1]), hb2]) (nnB_iff.mp c)
    · have c' := Bool.eq_false_iff.mpr c
      rw [cnt_neg (g := w + g) (fun x hx => hlm x (List.mem_cons_of_mem _ hx)) (by rw [List.length_append, hb1, subR_len (by rw [hb2, kh.1]), hb2]) ?_, cnt_neg hl' (by rw [subR_len (by rw [hb2, kh.1]), hb2]) c', Nat.mul_zero]
      unfold nnB at c' ⊢
      rw [List.all_append, c', Bool.and_false]
theorem cnt_beside {g1 g2 : Nat} {l2 : List (List Int)} {b2 : List Int} (h2 : ∀ x ∈ l2, Kd g2 x) (hb2 : b2.length = g2) (n2 : ∀ n ∈ b2, 0 ≤ n) : ∀ {l1 : List (List Int)} {b1 : List Int}, (∀ x ∈ l1, Kd g1 x) → b1.length = g1 → (∀ n ∈ b1, 0 ≤ n) →
    cnt ((l1.map fun r => r ++ List.replicate g2 0) ++ l2.map fun r => List.replicate g1 0 ++ r) (b1 ++ b2) = cnt l1 b1 * cnt l2 b2
  | [], b1, _, hb1, n1 => by
    rw [List.map_nil, List.nil_append, cnt_right hb1 n1 h2 hb2 n2]
    rfl
  | h :: t, b1, hl, hb1, n1 => by
    have kh := hl h List.mem_cons_self
    have hl' : ∀ x ∈ t, Kd g1 x := fun x hx => hl x (List.mem_cons_of_mem _ hx)
    have hlm : ∀ x ∈ (h ++ List.replicate g2 0) :: ((t.map fun r => r ++ List.replicate g2 0) ++ l2.map fun r => List.replicate g1 0 ++ r), Kd (g1 + g2) x := fun x hx => by
      rcases List.mem_cons.mp hx with e | e
      · rw [e]; exact kd_left kh
      · rcases List.mem_append.mp e with e | e
        · obtain ⟨r, q1, rfl⟩ := List.mem_map.mp e
          exact kd_left (hl' r q1)
        · obtain ⟨r, q1, rfl⟩ := List.mem_map.mp e
          exact kd_right (h2 r q1)
    have es : b1.sum.toNat + 1 ≤ (b1 ++ b2).sum.toNat + 1 := by
      rw [List.sum_append]
      have := sum_nn n2
      omega
    have eb : b1.length = h.length := by rw [hb1, kh.1]
    rw [List.map_cons, List.cons_append, cnt_to hlm (by rw [List.length_append, hb1, hb2]) (Nat.le_refl _), cnt_to hl hb1 es, ← sum_mul']
    congr 1
    refine List.map_congr_left fun k _ => ?_
    rw [subR_app eb, subR_nought hb2]
    by_cases c : nnB (subR b1 h (k : Int)) = true
    · exact cnt_beside h2 hb2 n2 hl' (by rw [subR_len eb, hb1]) (nnB_iff.mp c)
    · have c' := Bool.eq_false_iff.mpr c
      rw [cnt_neg (g := g1 + g2) (fun x hx => hlm x (List.mem_cons_of_mem _ hx)) (by rw [List.length_append, hb2, subR_len eb, hb1]) ?_, cnt_neg hl' (by rw [subR_len eb, hb1]) c', Nat.zero_mul]
      unfold nnB at c' ⊢
      rw [List.all_append, c', Bool.false_and]
end HL

namespace HL
/-! ### the cells of a bill, in their order -/
/-- the cells by the first i amounts -/
def cellsI (b : List Int) : Nat → List (List Int)
  | 0 => [[]]
  | i + 1 => (cellsI b i).flatMap fun c => (List.range (b.getD i 0 + 1).toNat).map fun (p : Nat) => c ++ [(p : Int)]
def Bel : List Int → List Int → Prop
  | [], [] => True
  | x :: r, y :: b => (0 ≤ x ∧ x ≤ y) ∧ Bel r b
  | _, _ => False
def lx : List Int → List Int → Prop
  | x :: r, y :: s => x < y ∨ (x = y ∧ lx r s)
  | _, _ => False
theorem Bel.len : ∀ {r b : List Int}, Bel r b → r.length = b.length
  | [], [], _ => rfl
  | x :: r, y :: b, h => by rw [List.length_cons, List.length_cons, Bel.len h.2]
  | [], _ :: _, h => h.elim
  | _ :: _, [], h => h.elim
theorem Bel.nn : ∀ {r b : List Int}, Bel r b → ∀ n ∈ r, 0 ≤ n
  | [], [], _, n, hn => by cases hn
  | x :: r, y :: b, h, n, hn => by
    rcases List.mem_cons.mp hn with e | e
    · rw [e]; exact h.1.1
    · exact Bel.nn h.2 n e
  | [], _ :: _, h, _, _ => h.elim
  | _ :: _, [], h, _, _ => h.elim
theorem Bel.snoc {x a : Int} (h0 : 0 ≤ x) (h1 : x ≤ a) : ∀ {r b : List Int}, Bel r b → Bel (r ++ [x]) (b ++ [a])
  | [], [], _ => ⟨⟨h0, h1⟩, True.intro⟩
  | y :: r, z :: b, h => ⟨h.1, Bel.snoc h0 h1 h.2⟩
  | [], _ :: _, h => h.elim
  | _ :: _, [], h => h.elim
theorem Bel.unsnoc {a : Int} : ∀ {b r : List Int}, Bel r (b ++ [a]) → ∃ c x, r = c ++ [x] ∧ Bel c b ∧ 0 ≤ x ∧ x ≤ a
  | [], [x], h => ⟨[], x, rfl, True.intro, h.1.1, h.1.2⟩
  | [], x :: y :: r, h => h.2.elim
  | [], [], h => h.elim
  | z :: b, x :: r, h => by
    obtain ⟨c, y, e, h1, h2⟩ := Bel.unsnoc (b := b) h.2
    exact ⟨x :: c, y, by rw [e]; rfl, ⟨h.1, h1⟩, h2⟩
  | z :: b, [], h => h.elim
theorem Bel.self : ∀ {b : List Int}, (∀ n ∈ b, 0 ≤ n) → Bel b b
  | [], _ => True.intro
  | x :: b, h => ⟨⟨h x List.mem_cons_self, Int.le_refl _⟩, Bel.self fun n hn => h n (List.mem_cons_of_mem _ hn)⟩
theorem take_snoc {b : List Int} {i : Nat} (h : i < b.length) : b.take (i + 1) = b.take i ++ [b.getD i 0] := by
  rw [List.take_add_one, List.getElem?_eq_getElem h, List.getD_eq_getElem?_getD, List.getElem?_eq_getElem h]
  rfl
theorem cells_mem {b : List Int} (hb : ∀ n ∈ b, 0 ≤ n) : ∀ {i : Nat}, i ≤ b.length → ∀ r, r ∈ cellsI b i ↔ Bel r (b.take i)
  | 0, _, r => by
    rw [List.take_zero]
    show r ∈ [[]] ↔ _
    rw [List.mem_singleton]
    constructor
    · intro e
      rw [e]
      exact True.intro
    · intro h
      cases r with
      | nil => rfl
      | cons x r => exact h.elim
  | i + 1, hi, r => by
    have hg : 0 ≤ b.getD i 0 := by
      rw [List.getD_eq_getElem?_getD, List.getElem?_eq_getElem (show i < b.length by omega)]
      exact hb _ (List.getElem_mem _)
    rw [take_snoc (by omega)]
    show r ∈ (cellsI b i).flatMap _ ↔ _
    rw [List.mem_flatMap]
    constructor
    · rintro ⟨c, hc, hr⟩
      obtain ⟨p, hp, rfl⟩ := List.mem_map.mp hr
      have := List.mem_range.mp hp
      exact ((cells_mem hb (by omega) c).mp hc).snoc (by omega) (by omega)
    · intro h
      obtain ⟨c, x, rfl, h1, h2, h3⟩ := Bel.unsnoc h
      exact ⟨c, (cells_mem hb (by omega) c).mpr h1, List.mem_map.mpr ⟨x.toNat, List.mem_range.mpr (by omega), by rw [Int.toNat_of_nonneg h2]⟩⟩
theorem lx_app : ∀ {c c' d d' : List Int}, c.length = c'.length → lx c c' → lx (c ++ d) (c' ++ d')
  | x :: c, y :: c', d, d', e, h => by
    rcases h with h | ⟨h1, h2⟩
    · exact .inl h
    · exact .inr ⟨h1, lx_app (by simpa using e) h2⟩
  | [], [], _, _, _, h => h.elim
  | [], _ :: _, _, _, _, h => h.elim
  | _ :: _, [], _, _, _, h => h.elim
theorem lx_last {x y : Int} (h : x < y) : ∀ {c : List Int}, lx (c ++ [x]) (c ++ [y])
  | [] => .inl h
  | z :: c => .inr ⟨rfl, lx_last h⟩
theorem lx_asymm : ∀ {r s : List Int}, lx r s → lx s r → False
  | x :: r, y :: s, h, k => by
    rcases h with h | ⟨h1, h2⟩
    · rcases k with k | ⟨k1, _⟩
      · omega
      · omega
    · rcases k with k | ⟨_, k2⟩
      · omega
      · exact lx_asymm h2 k2
  | [], _, h, _ => h.elim
  | _ :: _, [], h, _ => h.elim
theorem lx_sub : ∀ {c h : List Int}, c.length = h.length → (∀ n ∈ h, 0 ≤ n) → (∃ n ∈ h, 0 < n) → lx (subR c h 1) c
  | [], [], _, _, ⟨n, hn, _⟩ => by cases hn
  | x :: c, y :: h, e, h0, ⟨n, hn, hp⟩ => by
    rw [subR_cons]
    have y0 := h0 y List.mem_cons_self
    by_cases z : 0 < y
    · exact .inl (by omega)
    · refine .inr ⟨by omega, lx_sub (by simpa using e) (fun m hm => h0 m (List.mem_cons_of_mem _ hm)) ⟨n, ?_, hp⟩⟩
      rcases List.mem_cons.mp hn with q | q
      · omega
      · exact q
  | [], _ :: _, e, _, _ => by simp at e
  | _ :: _, [], e, _, _ => by simp at e
theorem cells_len {b : List Int} : ∀ {i : Nat} {r : List Int}, r ∈ cellsI b i → r.length = i
  | 0, r, h => by rw [List.mem_singleton.mp h]; rfl
  | i + 1, r, h => by
    obtain ⟨c, hc, hr⟩ := List.mem_flatMap.mp h
    obtain ⟨p, _, rfl⟩ := List.mem_map.mp hr
    rw [List.length_append, cells_len hc]
    rfl
theorem cells_rise {b : List Int} : ∀ {i : Nat}, (cellsI b i).Pairwise lx
  | 0 => List.pairwise_singleton _ _
  | i + 1 => by
    show ((cellsI b i).flatMap _).Pairwise lx
    rw [List.pairwise_flatMap]
    refine ⟨fun c _ => ?_, (cells_rise (i := i)).imp_of_mem fun {c c'} hc hc' h x hx y hy => ?_⟩
    · rw [List.pairwise_map]
      exact (List.pairwise_lt_range).imp fun {p q} h => lx_last (by omega)
    · obtain ⟨p, _, rfl⟩ := List.mem_map.mp hx
      obtain ⟨q, _, rfl⟩ := List.mem_map.mp hy
      exact lx_app (by rw [cells_len hc, cells_len hc']) h
theorem flat_len {α β : Type} {f : α → List β} {n : Nat} : ∀ {l : List α}, (∀ x ∈ l, (f x).length = n) → (l.flatMap f).length = l.length * n
  | [], _ => by simp
  | x :: l, h => by
    rw [List.flatMap_cons, List.length_append, h x List.mem_cons_self, flat_len fun y hy => h y (List.mem_cons_of_mem _ hy), List.length_cons, Nat.add_mul]
    omega
theorem cells_many {b : List Int} {i : Nat} : (cellsI b (i + 1)).length = (cellsI b i).length * (b.getD i 0 + 1).toNat :=
  flat_len fun c _ => by rw [List.length_map, List.length_range]
theorem cells_head {b : List Int} (hb : ∀ n ∈ b, 0 ≤ n) : ∀ {i : Nat}, i ≤ b.length → (cellsI b i)[0]? = some (List.replicate i 0)
  | 0, _ => rfl
  | i + 1, hi => by
    have hg : 0 ≤ b.getD i 0 := by
      rw [List.getD_eq_getElem?_getD, List.getElem?_eq_getElem (show i < b.length by omega)]
      exact hb _ (List.getElem_mem _)
    have ih := cells_head hb (i := i) (by omega)
    show ((cellsI b i).flatMap _)[0]? = _
    cases e : cellsI b i with
    | nil => rw [e] at ih; cases ih
    | cons c cs =>
      rw [e] at ih
      cases Option.some.inj ih
      rw [List.flatMap_cons]
      obtain ⟨m, hm⟩ : ∃ m, (b.getD i 0 + 1).toNat = m + 1 := ⟨(b.getD i 0).toNat, by omega⟩
      rw [hm, List.range_succ_eq_map, List.map_cons, List.cons_append]
      show some (List.replicate i 0 ++ [((0 : Nat) : Int)]) = _
      rw [List.replicate_succ']
      rfl
/-- a cell less a kind stands ahead of it, where it is one -/
theorem cell_ahead {b : List Int} (hb : ∀ n ∈ b, 0 ≤ n) {i : Nat} {c h : List Int} (kh : Kd b.length h) (hc : (cellsI b b.length)[i]? = some c) (hn : nnB (subR c h 1) = true) : subR c h 1 ∈ (cellsI b b.length).take i := by
  have hcm := (cells_mem hb (Nat.le_refl _) c).mp (List.mem_of_getElem? hc)
  rw [List.take_length] at hcm
  have hl : c.length = h.length := by rw [hcm.len, kh.1]
  have below : ∀ {c b h : List Int}, Bel c b → c.length = h.length → (∀ n ∈ h, 0 ≤ n) → nnB (subR c h 1) = true → Bel (subR c h 1) b := by
    intro c
    induction c with
    | nil =>
      intro b h hb hl _ _
      cases b with
      | nil => exact True.intro
      | cons y b => exact hb.elim
    | cons x c ih =>
      intro b h hb hl h0 hn
      cases b with
      | nil => exact hb.elim
      | cons y b =>
        cases h with
        | nil => simp at hl
        | cons z h =>
          rw [subR_cons] at hn ⊢
          unfold nnB at hn
          rw [List.all_cons, Bool.and_eq_true] at hn
          have n1 := of_decide_eq_true hn.1
          have z0 := h0 z List.mem_cons_self
          exact ⟨⟨n1, by have := hb.1.2; omega⟩, ih hb.2 (by simpa using hl) (fun n hn' => h0 n (List.mem_cons_of_mem _ hn')) hn.2⟩
  have hm : subR c h 1 ∈ cellsI b b.length := (cells_mem hb (Nat.le_refl _) _).mpr (by rw [List.take_length]; exact below hcm hl kh.2.1 hn)
  have hlt := lx_sub hl kh.2.1 kh.2.2
  obtain ⟨j, hj, ej⟩ := List.mem_iff_getElem.mp hm
  obtain ⟨hi, ei⟩ := List.getElem?_eq_some_iff.mp hc
  have pw := List.pairwise_iff_getElem.mp (cells_rise (b := b) (i := b.length))
  by_cases c1 : j < i
  · exact List.mem_iff_getElem.mpr ⟨j, by rw [List.length_take]; omega, by rw [List.getElem_take]; exact ej⟩
  · exfalso
    by_cases c2 : j = i
    · subst c2
      have e : subR c h 1 = c := ej.symm.trans ei
      rw [e] at hlt
      exact lx_asymm hlt hlt
    · have := pw i j hi hj (by omega)
      rw [ei, ej] at this
      exact lx_asymm this hlt
end HL

namespace HL
/-! the fillings of a bill, in their order; their places -/
def fils : List (List Int) → List Int → List (List Int)
  | [], b => if zeroB b = true then [[]] else []
  | h :: t, b => (List.range (b.sum.toNat + 1)).flatMap fun (k : Nat) => (fils t (subR b h (k : Int))).map fun c => (k : Int) :: c
/-- counts that come to a bill, none below 0 -/
def Comes : List (List Int) → List Int → List Int → Prop
  | [], [], b => zeroB b = true
  | h :: t, k :: c, b => 0 ≤ k ∧ Comes t c (subR b h k)
  | _, _, _ => False
theorem len_flat {α : Type} (f : Nat → List α) : ∀ l : List Nat, (l.flatMap f).length = (l.map fun k => (f k).length).sum
  | [] => rfl
  | x :: l => by rw [List.flatMap_cons, List.length_append, List.map_cons, List.sum_cons, len_flat f l]
theorem fils_len : ∀ (l : List (List Int)) (b : List Int), (fils l b).length = cnt l b
  | [], b => by
    unfold fils cnt
    split <;> rfl
  | h :: t, b => by
    unfold fils cnt
    rw [len_flat]
    congr 1
    refine List.map_congr_left fun k _ => ?_
    rw [List.length_map, fils_len t _]
theorem comes_len : ∀ {l : List (List Int)} {c b : List Int}, Comes l c b → c.length = l.length
  | [], [], _, _ => rfl
  | [], _ :: _, _, h => h.elim
  | _ :: _, [], _, h => h.elim
  | h :: t, k :: c, b, q => by rw [List.length_cons, List.length_cons, comes_len q.2]
theorem comes_nn : ∀ {l : List (List Int)} {c b : List Int}, Comes l c b → ∀ n ∈ c, 0 ≤ n
  | [], [], _, _ => fun n hn => by cases hn
  | [], _ :: _, _, h => h.elim
  | _ :: _, [], _, h => h.elim
  | h :: t, k :: c, b, q => fun n hn => by
    rcases List.mem_cons.mp hn with e | e
    · rw [e]; exact q.1
    · exact comes_nn q.2 n e
/-- what comes to a bill is not below 0 -/
theorem comes_bill {g : Nat} : ∀ {l : List (List Int)} {c b : List Int}, (∀ h ∈ l, Kd g h) → b.length = g → Comes l c b → nnB b = true
  | [], [], b, _, _, q => nnB_iff.mpr fun n hn => by rw [zeroB_iff.mp q n hn]; exact Int.le_refl _
  | [], _ :: _, _, _, _, h => h.elim
  | _ :: _, [], _, _, _, h => h.elim
  | h :: t, k :: c, b, hl, hb, q => by
    have kh := hl h List.mem_cons_self
    have eb : b.length = h.length := by rw [hb, kh.1]
    have r := comes_bill (fun x hx => hl x (List.mem_cons_of_mem _ hx)) (by rw [subR_len eb, hb]) q.2
    cases e : nnB b with
    | true => rfl
    | false =>
      rw [sub_neg eb kh.2.1 q.1 e] at r
      cases r
theorem fils_mem {g : Nat} : ∀ {l : List (List Int)} {b c : List Int}, (∀ h ∈ l, Kd g h) → b.length = g → (c ∈ fils l b ↔ Comes l c b)
  | [], b, c, _, _ => by
    unfold fils
    cases e : zeroB b with
    | true =>
      rw [if_pos rfl, List.mem_singleton]
      cases c with
      | nil => exact ⟨fun _ => e, fun _ => rfl⟩
      | cons k c => exact ⟨fun h => (by cases h), fun h => h.elim⟩
    | false =>
      rw [if_neg (by decide)]
      cases c with
      | nil => exact ⟨fun h => (by cases h), fun h => (by rw [show Comes [] [] b = (zeroB b = true) from rfl, e] at h; cases h)⟩
      | cons k c => exact ⟨fun h => (by cases h), fun h => h.elim⟩
  | h :: t, b, c, hl, hb => by
    have kh := hl h List.mem_cons_self
    have eb : b.length = h.length := by rw [hb, kh.1]
    have ht : ∀ x ∈ t, Kd g x := fun x hx => hl x (List.mem_cons_of_mem _ hx)
    unfold fils
    rw [List.mem_flatMap]
    constructor
    · rintro ⟨k, _, hk⟩
      obtain ⟨c', hc, rfl⟩ := List.mem_map.mp hk
      exact ⟨Int.natCast_nonneg k, (fils_mem ht (by rw [subR_len eb, hb])).mp hc⟩
    · intro q
      cases c with
      | nil => exact q.elim
      | cons k c =>
        obtain ⟨n, rfl⟩ : ∃ n : Nat, k = (n : Int) := ⟨k.toNat, by have := q.1; omega⟩
        have r := comes_bill ht (by rw [subR_len eb, hb]) q.2
        refine ⟨n, List.mem_range.mpr ?_, List.mem_map.mpr ⟨c, (fils_mem ht (by rw [subR_len eb, hb])).mpr q.2, rfl⟩⟩
        by_cases w : n < b.sum.toNat + 1
        · exact w
        · rw [sub_far kh hb (by omega)] at r
          cases r
theorem fils_rise : ∀ (l : List (List Int)) (b : List Int), (fils l b).Pairwise lx
  | [], b => by
    unfold fils
    split
    · exact List.pairwise_singleton _ _
    · exact .nil
  | h :: t, b => by
    unfold fils
    rw [List.pairwise_flatMap]
    refine ⟨fun k _ => ?_, ?_⟩
    · rw [List.pairwise_map]
      exact (fils_rise t _).imp fun {p q} h => .inr ⟨rfl, h⟩
    · refine List.pairwise_lt_range.imp fun {p q} hpq => ?_
      intro x hx y hy
      obtain ⟨x', _, rfl⟩ := List.mem_map.mp hx
      obtain ⟨y', _, rfl⟩ := List.mem_map.mp hy
      exact .inl (by omega)
/-- the place of counts among the fillings -/
def plc : List (List Int) → List Int → List Int → Nat
  | h :: t, k :: c, b => ((List.range k.toNat).map fun (j : Nat) => cnt t (subR b h (j : Int))).sum + plc t c (subR b h k)
  | _, _, _ => 0
theorem flat_at {α : Type} (f : Nat → List α) {x : α} {i : Nat} : ∀ {n k : Nat}, k < n → (f k)[i]? = some x → ((List.range n).flatMap f)[((List.range k).map fun j => (f j).length).sum + i]? = some x
  | 0, _, h, _ => absurd h (Nat.not_lt_zero _)
  | n + 1, k, h, e => by
    rw [List.range_succ, List.flatMap_append]
    have hi : i < (f k).length := (List.getElem?_eq_some_iff.mp e).1
    by_cases c : k = n
    · subst c
      rw [List.getElem?_append_right (by rw [len_flat]; omega), len_flat, Nat.add_sub_cancel_left, List.flatMap_cons, List.flatMap_nil, List.append_nil]
      exact e
    · have hk : k < n := by omega
      have r := flat_at f hk e
      rw [List.getElem?_append_left (List.getElem?_eq_some_iff.mp r).1]
      exact r
theorem plc_at {g : Nat} : ∀ {l : List (List Int)} {c b : List Int}, (∀ h ∈ l, Kd g h) → b.length = g → Comes l c b → (fils l b)[plc l c b]? = some c
  | [], [], b, _, _, q => by
    have q' : zeroB b = true := q
    unfold fils plc
    rw [if_pos q']
    rfl
  | [], _ :: _, _, _, _, h => h.elim
  | _ :: _, [], _, _, _, h => h.elim
  | h :: t, k :: c, b, hl, hb, q => by
    have kh := hl h List.mem_cons_self
    have eb : b.length = h.length := by rw [hb, kh.1]
    have ht : ∀ x ∈ t, Kd g x := fun x hx => hl x (List.mem_cons_of_mem _ hx)
    obtain ⟨n, rfl⟩ : ∃ n : Nat, k = (n : Int) := ⟨k.toNat, by have := q.1; omega⟩
    have r := comes_bill ht (by rw [subR_len eb, hb]) q.2
    have hn : n < b.sum.toNat + 1 := by
      by_cases w : n < b.sum.toNat + 1
      · exact w
      · rw [sub_far kh hb (by omega)] at r
        cases r
    have ih := plc_at ht (by rw [subR_len eb, hb]) q.2
    unfold fils plc
    have e := flat_at (fun (k : Nat) => (fils t (subR b h (k : Int))).map fun c => (k : Int) :: c) (x := (n : Int) :: c) (i := plc t c (subR b h (n : Int))) hn (by rw [List.getElem?_map, ih]; rfl)
    have es : ((List.range n).map fun j => ((fun (k : Nat) => (fils t (subR b h (k : Int))).map fun c => (k : Int) :: c) j).length).sum = ((List.range n).map fun (j : Nat) => cnt t (subR b h (j : Int))).sum := by
      congr 1
      refine List.map_congr_left fun j _ => ?_
      show ((fils t (subR b h (j : Int))).map fun c => (j : Int) :: c).length = _
      rw [List.length_map, fils_len]
    rw [es] at e
    rw [Int.toNat_natCast]
    exact e
end HL

namespace HL
/-! the law's own list of loads, kind by kind, and the fillings among them -/
def takes (b h : List Int) : List Nat := (List.range (b.sum.toNat + 1)).filter fun (k : Nat) => nnB (subR b h (k : Int))
def lds : List (List Int) → List (List Int × List Int) → List (List Int × List Int)
  | [], rows => rows
  | h :: t, rows => lds t (rows.flatMap fun q => (takes q.2 h).map fun (k : Nat) => (q.1 ++ [(k : Int)], subR q.2 h (k : Int)))
theorem flat_filter {α : Type} {p : Nat → Bool} {f : Nat → List α} : ∀ {l : List Nat}, (∀ k ∈ l, p k = false → f k = []) → (l.filter p).flatMap f = l.flatMap f
  | [], _ => rfl
  | x :: l, h => by
    have ih := flat_filter (l := l) (p := p) (f := f) fun k hk => h k (List.mem_cons_of_mem _ hk)
    rw [List.filter_cons, List.flatMap_cons]
    cases e : p x with
    | true => rw [if_pos rfl, List.flatMap_cons, ih]
    | false => rw [if_neg (by decide), h x List.mem_cons_self e, ih]; rfl
theorem fils_neg {g : Nat} {l : List (List Int)} {b : List Int} (hl : ∀ h ∈ l, Kd g h) (hb : b.length = g) (e : nnB b = false) : fils l b = [] := by
  have := fils_len l b
  rw [cnt_neg hl hb e] at this
  exact List.eq_nil_of_length_eq_zero this
theorem flat_congr {α β : Type} {f g : α → List β} : ∀ {l : List α}, (∀ x ∈ l, f x = g x) → l.flatMap f = l.flatMap g
  | [], _ => rfl
  | x :: l, h => by rw [List.flatMap_cons, List.flatMap_cons, h x List.mem_cons_self, flat_congr fun y hy => h y (List.mem_cons_of_mem _ hy)]
theorem flat_flat {α β γ : Type} {f : α → List β} {g : β → List γ} : ∀ {l : List α}, (l.flatMap f).flatMap g = l.flatMap fun x => (f x).flatMap g
  | [] => rfl
  | x :: l => by rw [List.flatMap_cons, List.flatMap_append, List.flatMap_cons, flat_flat]
theorem flat_map {α β γ : Type} {f : α → β} {g : β → List γ} : ∀ {l : List α}, (l.map f).flatMap g = l.flatMap fun x => g (f x)
  | [] => rfl
  | x :: l => by rw [List.map_cons, List.flatMap_cons, List.flatMap_cons, flat_map]
theorem map_flat {α β γ : Type} {f : α → List β} {g : β → γ} : ∀ {l : List α}, (l.flatMap f).map g = l.flatMap fun x => (f x).map g
  | [] => rfl
  | x :: l => by rw [List.flatMap_cons, List.map_append, List.flatMap_cons, map_flat]
theorem base_fils : ∀ rows : List (List Int × List Int), (rows.filter fun q => zeroB q.2).map (·.1) = rows.flatMap fun q => (fils [] q.2).map fun c => q.1 ++ c
  | [] => rfl
  | q :: rows => by
    rw [List.flatMap_cons, ← base_fils rows, List.filter_cons]
    unfold fils
    cases e : zeroB q.2 with
    | true => rw [if_pos rfl, if_pos rfl, List.map_cons]; simp
    | false => rw [if_neg (by decide), if_neg (by decide)]; rfl
theorem lds_fils {g : Nat} : ∀ {l : List (List Int)} {rows : List (List Int × List Int)}, (∀ h ∈ l, Kd g h) → (∀ q ∈ rows, q.2.length = g) →
    ((lds l rows).filter fun q => zeroB q.2).map (·.1) = rows.flatMap fun q => (fils l q.2).map fun c => q.1 ++ c
  | [], rows, _, _ => base_fils rows
  | h :: t, rows, hl, hr => by
    have kh := hl h List.mem_cons_self
    have ht : ∀ x ∈ t, Kd g x := fun x hx => hl x (List.mem_cons_of_mem _ hx)
    show ((lds t (rows.flatMap fun q => (takes q.2 h).map fun (k : Nat) => (q.1 ++ [(k : Int)], subR q.2 h (k : Int)))).filter fun q => zeroB q.2).map (·.1) = _
    rw [lds_fils ht fun q hq => ?_, flat_flat]
    · refine flat_congr fun q hq => ?_
      have eb : q.2.length = h.length := by rw [hr q hq, kh.1]
      rw [flat_map]
      unfold takes
      rw [flat_filter fun k _ hk => ?_]
      · rw [show fils (h :: t) q.2 = (List.range (q.2.sum.toNat + 1)).flatMap fun (k : Nat) => (fils t (subR q.2 h (k : Int))).map fun c => (k : Int) :: c from rfl, map_flat]
        refine flat_congr fun k _ => ?_
        rw [List.map_map]
        refine List.map_congr_left fun c _ => ?_
        show q.1 ++ [(k : Int)] ++ c = q.1 ++ ((k : Int) :: c)
        rw [List.append_assoc]
        rfl
      · show (fils t (subR q.2 h (k : Int))).map _ = []
        rw [fils_neg ht (by rw [subR_len eb, hr q hq]) hk]
        rfl
    · obtain ⟨q0, hq0, hm⟩ := List.mem_flatMap.mp hq
      obtain ⟨k, _, rfl⟩ := List.mem_map.mp hm
      show (subR q0.2 h (k : Int)).length = g
      rw [subR_len (by rw [hr q0 hq0, kh.1]), hr q0 hq0]
/-- all fillings, as the law lists them -/
theorem all_fils {g : Nat} {l : List (List Int)} {b : List Int} (hl : ∀ h ∈ l, Kd g h) (hb : b.length = g) : ((lds l [([], b)]).filter fun q => zeroB q.2).map (·.1) = fils l b := by
  rw [lds_fils hl fun q hq => by rw [List.mem_singleton.mp hq]; exact hb]
  rw [List.flatMap_cons, List.flatMap_nil, List.append_nil]
  simp
end HL

namespace HL
/-! how often a kind goes in; the fillings step by step -/
theorem neg_on {g : Nat} {b h : List Int} {j k : Nat} (kh : Kd g h) (hb : b.length = g) (hjk : j ≤ k) (e : nnB (subR b h (j : Int)) = false) : nnB (subR b h (k : Int)) = false := by
  have eb : b.length = h.length := by rw [hb, kh.1]
  have := sub_neg (b := subR b h (j : Int)) (h := h) (k := ((k - j : Nat) : Int)) (by rw [subR_len eb, eb]) kh.2.1 (Int.natCast_nonneg _) e
  rw [subR_add, show (j : Int) + ((k - j : Nat) : Int) = (k : Int) by omega] at this
  exact this
/-- a loop that counts up until the kind goes in no more has told all takings -/
theorem takes_to {g : Nat} {b h : List Int} {k : Nat} (kh : Kd g h) (hb : b.length = g) (h1 : ∀ j, j < k → nnB (subR b h (j : Int)) = true) (h2 : nnB (subR b h (k : Int)) = false) : takes b h = List.range k := by
  have hk : k ≤ b.sum.toNat + 1 := by
    by_cases c : k ≤ b.sum.toNat + 1
    · exact c
    · have := h1 (b.sum.toNat + 1) (by omega)
      rw [sub_far kh hb (by omega)] at this
      cases this
  unfold takes
  rw [show b.sum.toNat + 1 = k + (b.sum.toNat + 1 - k) by omega, List.range_add, List.filter_append]
  have e1 : (List.range k).filter (fun (k : Nat) => nnB (subR b h (k : Int))) = List.range k := List.filter_eq_self.mpr fun j hj => h1 j (List.mem_range.mp hj)
  have e2 : ((List.range (b.sum.toNat + 1 - k)).map (k + ·)).filter (fun (k : Nat) => nnB (subR b h (k : Int))) = [] := List.filter_eq_nil_iff.mpr fun j hj => by
    obtain ⟨i, _, rfl⟩ := List.mem_map.mp hj
    rw [neg_on kh hb (Nat.le_add_right k i) h2]
    decide
  rw [e1, e2, List.append_nil]
/-- how far such a loop can come -/
theorem fits_lt {g : Nat} {b h : List Int} {k : Nat} (kh : Kd g h) (hb : b.length = g) (e : nnB (subR b h (k : Int)) = true) : k ≤ b.sum.toNat := by
  by_cases c : k ≤ b.sum.toNat
  · exact c
  · rw [sub_far kh hb (by omega)] at e
    cases e
theorem fils_to {g : Nat} {h : List Int} {t : List (List Int)} {b : List Int} {m : Nat} (hl : ∀ x ∈ h :: t, Kd g x) (hb : b.length = g) (hm : b.sum.toNat + 1 ≤ m) :
    fils (h :: t) b = (List.range m).flatMap fun (k : Nat) => (fils t (subR b h (k : Int))).map fun c => (k : Int) :: c := by
  have kh := hl h List.mem_cons_self
  have eb : b.length = h.length := by rw [hb, kh.1]
  have ht : ∀ x ∈ t, Kd g x := fun x hx => hl x (List.mem_cons_of_mem _ hx)
  rw [show m = (b.sum.toNat + 1) + (m - (b.sum.toNat + 1)) by omega, List.range_add, List.flatMap_append]
  have e2 : ((List.range (m - (b.sum.toNat + 1))).map ((b.sum.toNat + 1) + ·)).flatMap (fun (k : Nat) => (fils t (subR b h (k : Int))).map fun c => (k : Int) :: c) = [] := by
    rw [flat_map]
    refine List.flatMap_eq_nil_iff.mpr fun i _ => ?_
    rw [fils_neg ht (by rw [subR_len eb, hb]) (sub_far kh hb (by omega))]
    rfl
  rw [e2, List.append_nil]
  rfl
def bump : List Int → List Int
  | k :: c => (k + 1) :: c
  | [] => []
theorem fils_step {g : Nat} {h : List Int} {t : List (List Int)} {b : List Int} (hl : ∀ x ∈ h :: t, Kd g x) (hb : b.length = g) :
    fils (h :: t) b = (fils t b).map (fun c => (0 : Int) :: c) ++ (fils (h :: t) (subR b h 1)).map bump := by
  have kh := hl h List.mem_cons_self
  have eb : b.length = h.length := by rw [hb, kh.1]
  rw [fils_to hl hb (m := b.sum.toNat + 1 + 1) (by omega), List.range_succ_eq_map, List.flatMap_cons, fils_to hl (b := subR b h 1) (by rw [subR_len eb, hb]) (sub_sum_le kh hb), map_flat, flat_map, show ((0 : Nat) : Int) = 0 from rfl, subR_zero eb]
  congr 1
  refine flat_congr fun k _ => ?_
  rw [List.map_map, subR_add, show (1 : Int) + (k : Int) = ((k.succ : Nat) : Int) by omega]
  refine List.map_congr_left fun c _ => ?_
  show ((k.succ : Nat) : Int) :: c = ((k : Int) + 1) :: c
  congr 1
theorem at_lt {g : Nat} {h : List Int} {t : List (List Int)} {b : List Int} {p : Nat} (hl : ∀ x ∈ h :: t, Kd g x) (hb : b.length = g) (hp : p < cnt t b) : (fils (h :: t) b)[p]? = ((fils t b)[p]?).map fun c => (0 : Int) :: c := by
  rw [fils_step hl hb, List.getElem?_append_left (by rw [List.length_map, fils_len]; exact hp), List.getElem?_map]
theorem at_ge {g : Nat} {h : List Int} {t : List (List Int)} {b : List Int} {p : Nat} (hl : ∀ x ∈ h :: t, Kd g x) (hb : b.length = g) (hp : cnt t b ≤ p) : (fils (h :: t) b)[p]? = ((fils (h :: t) (subR b h 1))[p - cnt t b]?).map bump := by
  rw [fils_step hl hb, List.getElem?_append_right (by rw [List.length_map, fils_len]; exact hp), List.length_map, fils_len, List.getElem?_map]
end HL

namespace HL
/-! ### fillings as the program lists them: begun kind by kind, each left with what can still be filled -/
def begF (t : List (List Int)) (h : List Int) (q : List Int × List Int) : List (List Int × List Int) :=
  ((takes q.2 h).filter fun (k : Nat) => decide (0 < cnt t (subR q.2 h (k : Int)))).map fun (k : Nat) => (q.1 ++ [(k : Int)], subR q.2 h (k : Int))
def begAt (ll : List (List Int)) (S : List (List Int × List Int)) : Nat → List (List Int × List Int)
  | 0 => S
  | i + 1 => (begAt ll S i).flatMap (begF (ll.drop (i + 1)) (ll.getD i []))
theorem fils_nil {l : List (List Int)} {b : List Int} (h : cnt l b = 0) : fils l b = [] := by
  have := fils_len l b
  rw [h] at this
  exact List.eq_nil_of_length_eq_zero this
theorem begF_fils {g : Nat} {t : List (List Int)} {h : List Int} {q : List Int × List Int} (hl : ∀ x ∈ h :: t, Kd g x) (hq : q.2.length = g) : (begF t h q).flatMap (fun q' => (fils t q'.2).map fun c => q'.1 ++ c) = (fils (h :: t) q.2).map fun c => q.1 ++ c := by
  have kh := hl h List.mem_cons_self
  have hlen : ∀ k : Nat, (subR q.2 h (k : Int)).length = g := fun k => by rw [subR_len (by rw [hq, kh.1]), hq]
  unfold begF
  rw [List.flatMap_map, flat_filter fun k _ hk => ?_]
  · unfold takes
    rw [flat_filter fun k _ hk => ?_]
    · show _ = ((List.range (q.2.sum.toNat + 1)).flatMap fun (k : Nat) => (fils t (subR q.2 h (k : Int))).map fun c => (k : Int) :: c).map fun c => q.1 ++ c
      rw [List.map_flatMap]
      congr 1
      funext k
      rw [List.map_map]
      congr 1
      funext c
      show (q.1 ++ [(k : Int)]) ++ c = q.1 ++ ((k : Int) :: c)
      rw [List.append_assoc]
      rfl
    · show (fils t (subR q.2 h (k : Int))).map _ = []
      rw [fils_nil (cnt_neg (fun x hx => hl x (List.mem_cons_of_mem _ hx)) (hlen k) hk)]
      rfl
  · have hk' : cnt t (subR q.2 h (k : Int)) = 0 := by
      have := of_decide_eq_false hk
      omega
    show (fils t (subR q.2 h (k : Int))).map _ = []
    rw [fils_nil hk']
    rfl
theorem begAt_len {g : Nat} {ll : List (List Int)} {S : List (List Int × List Int)} (hl : ∀ x ∈ ll, Kd g x) (hS : ∀ q ∈ S, q.2.length = g) : ∀ {i : Nat}, i ≤ ll.length → ∀ q ∈ begAt ll S i, q.2.length = g
  | 0, _, q, hq => hS q hq
  | i + 1, hi, q, hq => by
    obtain ⟨q0, h0, h1⟩ := List.mem_flatMap.mp hq
    unfold begF at h1
    obtain ⟨k, _, rfl⟩ := List.mem_map.mp h1
    have e0 := begAt_len hl hS (i := i) (by omega) q0 h0
    have hm : ll.getD i [] ∈ ll := by
      rw [List.getD_eq_getElem?_getD, List.getElem?_eq_getElem (by omega)]
      exact List.getElem_mem _
    show (subR q0.2 (ll.getD i []) (k : Int)).length = g
    rw [subR_len (by rw [e0, (hl _ hm).1]), e0]
theorem begAt_fils {g : Nat} {ll : List (List Int)} {S : List (List Int × List Int)} (hl : ∀ x ∈ ll, Kd g x) (hS : ∀ q ∈ S, q.2.length = g) : ∀ {i : Nat}, i ≤ ll.length →
    (begAt ll S i).flatMap (fun q => (fils (ll.drop i) q.2).map fun c => q.1 ++ c) = S.flatMap fun q => (fils ll q.2).map fun c => q.1 ++ c
  | 0, _ => rfl
  | i + 1, hi => by
    have ih := begAt_fils hl hS (i := i) (by omega)
    have ed : ll.drop i = ll.getD i [] :: ll.drop (i + 1) := by
      rw [List.drop_eq_getElem_cons (by omega), List.getD_eq_getElem?_getD, List.getElem?_eq_getElem (by omega)]
      rfl
    rw [← ih]
    show ((begAt ll S i).flatMap (begF (ll.drop (i + 1)) (ll.getD i []))).flatMap _ = _
    rw [List.flatMap_assoc]
    have hd : ∀ x ∈ ll.getD i [] :: ll.drop (i + 1), Kd g x := fun x hx => hl x (by rw [← ed] at hx; exact List.mem_of_mem_drop hx)
    have : ∀ q ∈ begAt ll S i, (begF (ll.drop (i + 1)) (ll.getD i []) q).flatMap (fun q' => (fils (ll.drop (i + 1)) q'.2).map fun c => q'.1 ++ c) = (fils (ll.drop i) q.2).map fun c => q.1 ++ c := fun q hq => by
      rw [begF_fils hd (begAt_len hl hS (by omega) q hq), ed]
    generalize begAt ll S i = l at this
    induction l with
    | nil => rfl
    | cons q l ih2 => rw [List.flatMap_cons, List.flatMap_cons, this q List.mem_cons_self, ih2 fun x hx => this x (List.mem_cons_of_mem _ hx)]
theorem begAt_some {ll : List (List Int)} {S : List (List Int × List Int)} (hS : ∀ q ∈ S, 0 < cnt ll q.2) : ∀ {i : Nat}, ∀ q ∈ begAt ll S i, 0 < cnt (ll.drop i) q.2
  | 0, q, hq => hS q hq
  | i + 1, q, hq => by
    obtain ⟨q0, h0, h1⟩ := List.mem_flatMap.mp hq
    unfold begF at h1
    obtain ⟨k, hk, rfl⟩ := List.mem_map.mp h1
    exact of_decide_eq_true (List.mem_filter.mp hk).2
/-- the last kind takes all that is left -/
theorem fils_last {g : Nat} {h b : List Int} (kh : Kd g h) (hb : b.length = g) (hc : 0 < cnt [h] b) : fils [h] b = [[b.sum / h.sum]] := by
  have hk : ∀ x ∈ [h], Kd g x := fun x hx => by rw [List.mem_singleton.mp hx]; exact kh
  have key : ∀ c ∈ fils [h] b, c = [b.sum / h.sum] := fun c hm => by
    have hC := (fils_mem hk hb).mp hm
    match c, hC with
    | [], hC => exact hC.elim
    | [k], hC =>
      have hz : zeroB (subR b h k) = true := hC.2
      have h0 : (subR b h k).sum = 0 := by
        have hall := zeroB_iff.mp hz
        generalize subR b h k = z at hall
        induction z with
        | nil => rfl
        | cons x z ih => rw [List.sum_cons, hall x List.mem_cons_self, ih fun n hn => hall n (List.mem_cons_of_mem _ hn)]; rfl
      rw [subR_sum (by rw [hb, kh.1])] at h0
      have hs := sum_kd kh
      have : b.sum / h.sum = k := by
        have e : b.sum = k * h.sum := by omega
        rw [e]
        exact Int.mul_ediv_cancel k (by omega)
      rw [this]
    | _ :: _ :: _, hC => exact hC.2.elim
  have hl := fils_len [h] b
  match e : fils [h] b with
  | [] => rw [e] at hl; simp at hl; omega
  | [c] => rw [key c (by rw [e]; exact List.mem_cons_self)]
  | c :: d :: r =>
    have P := fils_rise [h] b
    rw [e] at P
    have h1 := (List.pairwise_cons.mp P).1 d List.mem_cons_self
    rw [key c (by rw [e]; exact List.mem_cons_self), key d (by rw [e]; exact List.mem_cons_of_mem _ List.mem_cons_self)] at h1
    exact (lx_asymm h1 h1).elim
/-- fillings as told -/
theorem beg_told {g n : Nat} {ll : List (List Int)} {b h : List Int} (hl : ∀ x ∈ ll, Kd g x) (hb : b.length = g) (hn : ll.length = n + 1) (hh : ll[n]? = some h) :
    (begAt ll (if 0 < cnt ll b then [([], b)] else []) n).map (fun q => q.1 ++ [q.2.sum / h.sum]) = fils ll b := by
  have hS : ∀ q ∈ (if 0 < cnt ll b then [(([] : List Int), b)] else []), q.2.length = g ∧ 0 < cnt ll q.2 := fun q hq => by
    by_cases c : 0 < cnt ll b
    · rw [if_pos c] at hq
      rw [List.mem_singleton.mp hq]
      exact ⟨hb, c⟩
    · rw [if_neg c] at hq
      cases hq
  have e1 := begAt_fils hl (fun q hq => (hS q hq).1) (i := n) (by omega)
  have e2 : ((if 0 < cnt ll b then [(([] : List Int), b)] else []).flatMap fun q => (fils ll q.2).map fun c => q.1 ++ c) = fils ll b := by
    by_cases c : 0 < cnt ll b
    · rw [if_pos c, List.flatMap_cons, List.flatMap_nil, List.append_nil]
      show (fils ll b).map (fun c => [] ++ c) = _
      simp
    · rw [if_neg c, fils_nil (by omega)]
      rfl
  rw [← e2, ← e1]
  have ed : ll.drop n = [h] := by
    rw [List.drop_eq_getElem_cons (by omega), List.drop_eq_nil_of_le (by omega)]
    rw [(List.getElem?_eq_some_iff.mp hh).2]
  have hlen := begAt_len hl (fun q hq => (hS q hq).1) (i := n) (by omega)
  have hsome := begAt_some (fun q hq => (hS q hq).2) (i := n)
  rw [ed] at hsome ⊢
  generalize begAt ll _ n = l at hlen hsome
  have kh : Kd g h := hl h (List.mem_of_getElem? hh)
  induction l with
  | nil => rfl
  | cons q l ih =>
    rw [List.map_cons, List.flatMap_cons, ih (fun x hx => hlen x (List.mem_cons_of_mem _ hx)) (fun x hx => hsome x (List.mem_cons_of_mem _ hx)), fils_last kh (hlen q List.mem_cons_self) (hsome q List.mem_cons_self)]
    rfl
end HL

namespace HL
open PySem PySem.Spec PyProof.Rows L2
open C8 (pss_cut)
/-! ### the text -/
def topS (i : Nat) : Stmt := PySem.Challenge.pw_hamperlot_k31_lumps_of_bills.main.body.getD i (.Pass ⟨0, 0, 0, 0⟩)
abbrev sIsHold : Stmt := topS 12
abbrev sLook : Stmt := topS 13
abbrev sGoods : Stmt := topS 14
abbrev sFirst : Stmt := topS 15
abbrev sLookBill : Stmt := topS 16
abbrev sLess : Stmt := topS 18
abbrev sMarks : Stmt := topS 19
abbrev sBox : Stmt := topS 23
abbrev sBoth : Stmt := topS 24
abbrev sCells : Stmt := topS 25
abbrev sOneMore : Stmt := topS 26
abbrev sTables : Stmt := topS 27
abbrev sTakings : Stmt := topS 28
abbrev sFillings : Stmt := topS 29
abbrev sJoined : Stmt := topS 31
abbrev sAmong : Stmt := topS 32
abbrev sLumps : Stmt := topS 33
abbrev sFeed : Stmt := topS 35
abbrev sDraw : Stmt := topS 36
abbrev sSame : Stmt := topS 37
abbrev sWord : Stmt := topS 38
abbrev sHold : Stmt := topS 39
abbrev sLot : Stmt := topS 40
abbrev sPlain : Stmt := topS 41
abbrev sSmallBill : Stmt := topS 42
abbrev sMinus : Stmt := topS 43
abbrev sTimes : Stmt := topS 44
abbrev sWithin : Stmt := topS 45
abbrev sLoads : Stmt := topS 46
abbrev sAll : Stmt := topS 47
abbrev sShare : Stmt := topS 48
abbrev sLLumps : Stmt := topS 49
abbrev sLaw : Stmt := topS 50
/-! ### heaps -/
/-- all that stood but at f stands -/
def Kp (f : Addr) (H H' : Hp) : Prop := ∀ b o, b ≠ f → H b = some o → H' b = some o
theorem Kp.refl (f : Addr) (H : Hp) : Kp f H H := fun _ _ _ h => h
theorem Kp.trans {f : Addr} {H H1 H2 : Hp} (a : Kp f H H1) (b : Kp f H1 H2) : Kp f H H2 := fun c o n h => b c o n (a c o n h)
theorem Same.kp {f : Addr} {H H' : Hp} (a : Same H H') : Kp f H H' := fun b o _ h => a b o h
theorem Kp.put {f : Addr} {H : Hp} {o : HO} : Kp f H (upd H f o) := fun b _ n h => by
  rw [upd_ne n]
  exact h
theorem same_new {H : Hp} {p : Addr} {o : HO} (h : H p = none) : Same H (upd H p o) := fun b x e => by
  rw [upd_ne (ne_of_none e h)]
  exact e
theorem Kp.new {f : Addr} {H : Hp} {p : Addr} {o : HO} (h : H p = none) : Kp f H (upd H p o) := Same.kp (same_new h)
/-- the feed at f -/
def FeedAt (c : Addr) (H : Hp) (f : Addr) : Prop := ∃ (ns : List Int) (i b m n : Int),
  H f = some (.lst [.ref c, .int i, .int b, .int m, .int n]) ∧ H c = some (.lst (ns.map V.int)) ∧ 0 ≤ i ∧ 0 ≤ b ∧ 0 ≤ m ∧ m < 2147483647
theorem FeedAt.same {c : Addr} {H H' : Hp} {f : Addr} (F : FeedAt c H f) (s : Same H H') : FeedAt c H' f := by
  obtain ⟨ns, i, b, m, n, h1, h2, h3⟩ := F
  exact ⟨ns, i, b, m, n, s _ _ h1, s _ _ h2, h3⟩
theorem FeedAt.new {c : Addr} {H : Hp} {f p : Addr} {o : HO} (F : FeedAt c H f) (h : H p = none) : FeedAt c (upd H p o) f := F.same (same_new h)
theorem FeedAt.ne {c : Addr} {H : Hp} {f p : Addr} (F : FeedAt c H f) (h : H p = none) : p ≠ f := by
  obtain ⟨ns, i, b, m, n, h1, _⟩ := F
  exact fun e => by
    rw [e, h1] at h
    cases h
theorem FeedAt.neC {c : Addr} {H : Hp} {f p : Addr} (F : FeedAt c H f) (h : H p = none) : p ≠ c := by
  obtain ⟨ns, i, b, m, n, _, h1, _⟩ := F
  exact fun e => by
    rw [e, h1] at h
    cases h
theorem FeedAt.tup {c : Addr} {H : Hp} {f p : Addr} {xs : List V} (F : FeedAt c H f) (h : H p = some (.tup xs)) : p ≠ f := by
  obtain ⟨ns, i, b, m, n, h1, _⟩ := F
  exact ne_of h h1 (fun e => by cases e)
/-- another thing than the feed is written -/
theorem FeedAt.put {c : Addr} {H : Hp} {f D : Addr} {o : HO} (F : FeedAt c H f) (n1 : D ≠ f) (n2 : D ≠ c) : FeedAt c (upd H D o) f := by
  obtain ⟨ns, i, b, m, n, h1, h2, h3⟩ := F
  exact ⟨ns, i, b, m, n, by rw [upd_ne (Ne.symm n1)]; exact h1, by rw [upd_ne (Ne.symm n2)]; exact h2, h3⟩
/-- where nothing stood behind, nothing stood ahead -/
theorem Kp.free {f : Addr} {H H' : Hp} {p : Addr} (k : Kp f H H') (n : p ≠ f) (h : H' p = none) : H p = none := by
  cases e : H p with
  | none => rfl
  | some o =>
    rw [k _ _ n e] at h
    cases h
/-- what is new since H may be written -/
theorem Kp.late {f : Addr} {H H' : Hp} {D : Addr} {o : HO} (k : Kp f H H') (nD : H D = none) : Kp f H (upd H' D o) := fun b x n e => by
  rw [upd_ne (ne_of_none e nD)]
  exact k _ _ n e
theorem same_late {H H' : Hp} {D : Addr} {o : HO} (k : Same H H') (nD : H D = none) : Same H (upd H' D o) := fun b x e => by
  rw [upd_ne (ne_of_none e nD)]
  exact k _ _ e
theorem ref_ne {c : Addr} {ns : List Int} {r : List V} : (V.ref c :: r) ≠ ns.map V.int := by
  cases ns with
  | nil => exact fun e => by cases e
  | cons x xs => exact fun e => by simp at e
/-! ### the feed -/
theorem scFeed : FnScope ["_law_script"] ["_law_script"] (defScope sFeed) := ⟨rfl, rfl, rfl, by decide +kernel, rfl, by decide +kernel, by decide +kernel⟩
theorem scDraw : FnScope ["_law_feed_here", "_law_many", "_law_cell", "_law_digit", "_law_mix"] ["_law_feed_here", "_law_many"] (defScope sDraw) := ⟨rfl, rfl, rfl, by decide +kernel, rfl, by decide +kernel, by decide +kernel⟩
section
variable {P : Program} {w : World} {K : PySem.W.Frag} {mg : Str → Option Value} {base : Heap}
def spFeed (K : PySem.W.Frag) : Sp := fun vs H Q _ => ∃ (a : Addr) (ns : List Int), vs = [.ref a] ∧ SqL K H a (ns.map V.int) ∧ ns.length ≤ 63 ∧
  ∀ H' f c, Same H H' → H f = none → FeedAt c H' f → Q (.ref f) H'
theorem cut_ints (ns : List Int) (lo hi : Option Int) : ∃ ms : List Int, cutV (ns.map V.int) lo hi = ms.map V.int := by
  refine ⟨(ns.drop (HT.sIx ns.length 0 lo)).take (HT.sIx ns.length ns.length hi - HT.sIx ns.length 0 lo), ?_⟩
  unfold cutV
  rw [List.length_map, List.map_take, List.map_drop]
theorem ok_feed {f : Addr} {fd : FuncData} {k : Nat} (F : Fun K "_law_feed" "_law_feed" sFeed f fd) (ml : mg "list" = none) : FnOk P w K mg base CX0 (k + 1) f fd ["_law_script"] (spFeed K) := by
  refine F.ok scFeed (fun vs H Q E h => ?_) (fun cdv A outer s H vs Q E hr h => ?_)
  · obtain ⟨a, ns, rfl, _⟩ := h
    rfl
  · obtain ⟨a, ns, rfl, hS, hlen, q⟩ := h
    refine ⟨_, pss_one (ps_ret (pe_lst (pa_cons (pe_callTy call_list_of (by rfl) ml (by decide +kernel) (pa_cons (pe_slice sl_list (pv 0) po_none (po_some pe_int)) pa_nil)) (pa_cons pe_int (pa_cons pe_int (pa_cons pe_int (pa_cons pe_int pa_nil))))))), ?_⟩
    obtain ⟨ms, hms⟩ := cut_ints ns none (some 63)
    refine ⟨.ref a, rfl, 63, rfl, a, ns.map V.int, rfl, hS, fun c nc => ?_⟩
    rw [hms]
    refine ⟨c, ms.map V.int, rfl, .inl (SqL.of upd_same), fun l nl => ?_⟩
    refine ⟨(by show 5 ≤ sizeLine; decide), fun g ng => ?_⟩
    refine q _ g l ?_ ?_ ⟨ms, 0, 0, 9132, 0, upd_same, ?_, by decide, by decide, by decide, by decide⟩
    · exact (same_new nc).trans ((same_new nl).trans (same_new ng))
    · exact (same_new nc).free ((same_new nl).free ng)
    · rw [upd_ne (fun e => by rw [← e, upd_same] at ng; cases ng), upd_same]

theorem atI_int {ns : List Int} {i : Int} (h0 : 0 ≤ i) (h1 : i < (ns.length : Nat)) : ∃ z, atI (ns.map V.int) i = some (.int z) := by
  have hl : i.toNat < ns.length := by omega
  refine ⟨ns[i.toNat], ?_⟩
  have e : ((i.toNat : Nat) : Int) = i := by omega
  refine (congrArg (atI (ns.map V.int)) e.symm).trans (atI_nat (j := i.toNat) ?_)
  rw [List.getElem?_map, List.getElem?_eq_getElem hl]
  rfl
def spDraw : Sp := fun vs H Q _ => ∃ (f c : Addr) (n : Int), vs = [.ref f, .int n] ∧ 1 ≤ n ∧ n ≤ 1000000000000000000000000000000 ∧ FeedAt c H f ∧
  ∀ d H', 0 ≤ d → d < n → Kp f H H' → FeedAt c H' f → Q (.int d) H'
theorem ok_draw {f : Addr} {fd : FuncData} {k : Nat} (F : Fun K "_law_draw" "_law_draw" sDraw f fd) (ml : mg "len" = none) : FnOk P w K mg base CX0 (k + 1) f fd ["_law_feed_here", "_law_many"] spDraw := by
  refine F.ok scDraw (fun vs H Q E h => ?_) (fun cdv A outer s H vs Q E hr h => ?_)
  · obtain ⟨a, c, n, rfl, _⟩ := h
    rfl
  · obtain ⟨a, c, n, rfl, n1, n2, ⟨ns, i, b, m, t, h1, h2, i0, b0, m0, m1⟩, q⟩ := h
    refine ⟨_, pss_cut (ps_if (PW.pt (pw_and (pt_cmpR op_lt (pe_ix ix_list (pv 0) pe_int (fun _ _ => rfl)) (pv 1) (nomark _))
          (pw_and1 (pt_cmpR op_lt (pe_ix ix_list (pv 0) pe_int (fun _ _ => rfl)) (pe_callB call_len_seq (by rfl) ml PySem.boot_len (pa_cons (pe_ix ix_list (pv 0) pe_int (fun _ _ => rfl)) pa_nil)) (nomark _)))))
        (pss_cons (ps_set (i := 2) scDraw.nd rfl (.inl rfl) (pe_ix ix_list (pe_ix ix_list (pv 0) pe_int (fun _ _ => rfl)) (pe_ix ix_list (pv 0) pe_int (fun _ _ => rfl)) (fun _ _ => rfl)))
        (pss_cons (ps_asg (pe_op op_add (pe_ix ix_list (pv 0) pe_int (fun _ _ => rfl)) pe_int) (pg_sub (pv 0) pe_int set_list))
        (pss_cons (ps_asg pe_int (pg_sub (pv 0) pe_int set_list))
        (pss_one (ps_if (pt_cmpR op_ge (pv 2) (pe_op op_pow pe_int pe_int) (nomark _))
          (pss_one (ps_asg (pv 2) (pg_sub (pv 0) pe_int set_list)))
          (pss_one (ps_asg (pe_op op_mod (pe_op op_add (pe_op op_add (pe_op op_mul (pe_ix ix_list (pv 0) pe_int (fun _ _ => rfl)) pe_int) (pe_op op_mul (pe_op op_mod (pv 2) pe_int) pe_int)) pe_int) pe_int) (pg_sub (pv 0) pe_int set_list))))))))
        pss_nil)
      (pss_cons (ps_if (pt_cmpR op_ge (pe_ix ix_list (pv 0) pe_int (fun _ _ => rfl)) (pv 1) (nomark _))
        (pss_cons (ps_set (i := 3) scDraw.nd rfl (.inl rfl) (pe_op op_mod (pe_ix ix_list (pv 0) pe_int (fun _ _ => rfl)) (pv 1)))
        (pss_cons (ps_asg (pe_op op_fdivW (pe_ix ix_list (pv 0) pe_int (fun _ _ => rfl)) (pv 1)) (pg_sub (pv 0) pe_int set_list))
        (pss_one (ps_ret (pv 3))))) pss_nil)
      (pss_cons (ps_asg (pe_op op_add (pe_ix ix_list (pv 0) pe_int (fun _ _ => rfl)) pe_int) (pg_sub (pv 0) pe_int set_list))
      (pss_cons (ps_set (i := 4) scDraw.nd rfl (.inl rfl) (pe_ix ix_list (pv 0) pe_int (fun _ _ => rfl)))
      (pss_cons (ps_set (i := 4) scDraw.nd rfl (.inl rfl) (pe_op op_add (pe_op op_add (pe_op op_add (pe_op op_mul (pe_op op_mod (pe_op op_mul (pv 4) (pv 4)) pe_int) pe_int) (pe_op op_mul (pv 4) pe_int)) (pe_op op_mul pe_int (pe_ix ix_list (pv 0) pe_int (fun _ _ => rfl)))) pe_int))
      (pss_cons (ps_asg (pe_op op_mod (pv 4) pe_int) (pg_sub (pv 0) pe_int set_list))
      (pss_one (ps_ret (pe_op op_mod (pe_op op_add (pe_op op_fdiv (pe_ix ix_list (pv 0) pe_int (fun _ _ => rfl)) pe_int) (pe_op op_mul (pe_op op_mod (pe_ix ix_list (pv 0) pe_int (fun _ _ => rfl)) pe_int) pe_int)) (pv 1))))))))), ?_⟩
    have hca : c ≠ a := fun e => by
      rw [e, h1] at h2
      exact ref_ne (HO.lst.inj (Option.some.inj h2))
    refine ⟨fun σ' H' => ∃ (y2 : Option V) (i b m t : Int), σ' = [some (.ref a), some (.int n), y2, none, none] ∧ Kp a H H' ∧ H' a = some (.lst [.ref c, .int i, .int b, .int m, .int t]) ∧ 0 ≤ i ∧ 0 ≤ b ∧ 0 ≤ m ∧ m < 2147483647, ?_, ?_⟩
    · refine ⟨.ref a, rfl, a, _, 2, .int b, rfl, rfl, SqL.of h1, atI_nat (j := 2) rfl, .int n, rfl, b, n, rfl, rfl, _, rfl, ite2 (fun c1 => ?_) (fun c1 => ?_)⟩
      · refine ⟨.ref a, rfl, a, _, 1, .int i, rfl, rfl, SqL.of h1, atI_nat (j := 1) rfl, .ref a, rfl, a, _, 0, .ref c, rfl, rfl, SqL.of h1, atI_nat (j := 0) rfl, c, _, rfl, .inl (SqL.of h2), i, _, rfl, rfl, _, rfl, ite2 (fun c2 => ?_) (fun c2 => ?_)⟩
        · have hi : i < (ns.length : Nat) := by
            have := of_decide_eq_true c2
            rw [List.length_map] at this
            exact this
          obtain ⟨z, hz⟩ := atI_int i0 hi
          refine ⟨.ref a, rfl, a, _, 0, .ref c, rfl, rfl, SqL.of h1, atI_nat (j := 0) rfl, .ref a, rfl, a, _, 1, .int i, rfl, rfl, SqL.of h1, atI_nat (j := 1) rfl, c, _, i, .int z, rfl, rfl, SqL.of h2, hz, ?_⟩
          refine ⟨.ref a, rfl, a, _, 1, .int i, rfl, rfl, SqL.of h1, atI_nat (j := 1) rfl, i, 1, rfl, rfl, .ref a, rfl, a, _, 1, 1, rfl, rfl, h1, rfl, ?_⟩
          refine ⟨.ref a, rfl, a, _, 2, 2, rfl, rfl, upd_same, rfl, ?_⟩
          refine ⟨.int z, rfl, 10, 18, rfl, rfl, ⟨by decide, by decide, by decide⟩, z, _, rfl, rfl, _, rfl, ite2 (fun c3 => ?_) (fun c3 => ?_)⟩
          · have z0 : (10 : Int) ^ (18 : Int).toNat ≤ z := of_decide_eq_true c3
            have z1 : (0 : Int) ≤ z := Int.le_trans (by decide) z0
            refine ⟨.int z, rfl, .ref a, rfl, a, _, 2, 2, rfl, rfl, upd_same, rfl, ?_⟩
            exact ⟨_, i + 1, z, m, t, rfl, Kp.put.trans (Kp.put.trans Kp.put), upd_same, by omega, z1, m0, m1⟩
          · refine ⟨.ref a, rfl, a, _, 3, .int m, rfl, rfl, SqL.of upd_same, atI_nat (j := 3) rfl, m, 48271, rfl, rfl, .inr ⟨by decide, by decide⟩, .int z, rfl, z, 1000000007, rfl, rfl, (by show (0 : Int) < 1000000007; decide), _, 69621, rfl, rfl, .inr ⟨by decide, by decide⟩, _, _, rfl, rfl, _, 11, rfl, rfl, _, 2147483647, rfl, rfl, (by show (0 : Int) < 2147483647; decide), .ref a, rfl, a, _, 3, 3, rfl, rfl, upd_same, rfl, ?_⟩
            exact ⟨_, i + 1, 0, _, t, rfl, Kp.put.trans (Kp.put.trans Kp.put), upd_same, by omega, by decide, Int.emod_nonneg _ (by decide), Int.emod_lt_of_pos _ (by decide)⟩
        · exact ⟨none, i, b, m, t, rfl, Kp.refl _ _, h1, i0, b0, m0, m1⟩
      · exact ⟨none, i, b, m, t, rfl, Kp.refl _ _, h1, i0, b0, m0, m1⟩
    · rintro σ' H' ⟨y2, i, b, m, t, rfl, kp, g1, i0, b0, m0, m1⟩
      have g2 : H' c = some (.lst (ns.map V.int)) := kp _ _ hca h2
      refine ⟨.ref a, rfl, a, _, 2, .int b, rfl, rfl, SqL.of g1, atI_nat (j := 2) rfl, .int n, rfl, b, n, rfl, rfl, _, rfl, ite2 (fun c1 => ?_) (fun c1 => ?_)⟩
      · refine ⟨.ref a, rfl, a, _, 2, .int b, rfl, rfl, SqL.of g1, atI_nat (j := 2) rfl, .int n, rfl, b, n, rfl, rfl, (by show (0 : Int) < n; omega), ?_⟩
        refine ⟨.ref a, rfl, a, _, 2, .int b, rfl, rfl, SqL.of g1, atI_nat (j := 2) rfl, .int n, rfl, b, n, rfl, rfl, wide_div (b := 100) (by omega) (by omega) (by decide) (by decide), .ref a, rfl, a, _, 2, 2, rfl, rfl, g1, rfl, ?_⟩
        refine ⟨_, rfl, q _ _ (Int.emod_nonneg _ (by omega)) (Int.emod_lt_of_pos _ (by omega)) (kp.trans Kp.put) ⟨ns, i, _, m, t, upd_same, ?_, i0, Int.ediv_nonneg b0 (by omega), m0, m1⟩⟩
        rw [upd_ne hca]
        exact g2
      · refine ⟨.ref a, rfl, a, _, 4, .int t, rfl, rfl, SqL.of g1, atI_nat (j := 4) rfl, t, 1, rfl, rfl, .ref a, rfl, a, _, 4, 4, rfl, rfl, g1, rfl, ?_⟩
        refine ⟨.ref a, rfl, a, _, 3, .int m, rfl, rfl, SqL.of upd_same, atI_nat (j := 3) rfl, ?_⟩
        refine ⟨.int m, rfl, .int m, rfl, m, m, rfl, rfl, .inl ⟨by omega, by omega⟩, _, 2147483587, rfl, rfl, (by show (0 : Int) < 2147483587; decide), _, 16807, rfl, rfl, .inr ⟨by decide, by decide⟩, .int m, rfl, m, 48271, rfl, rfl, .inr ⟨by decide, by decide⟩, _, _, rfl, rfl, .ref a, rfl, a, _, 4, .int (t + 1), rfl, rfl, SqL.of upd_same, atI_nat (j := 4) rfl, 97, t + 1, rfl, rfl, .inl ⟨by decide, by decide⟩, _, _, rfl, rfl, _, 12345, rfl, rfl, ?_⟩
        refine ⟨_, rfl, _, 2147483647, rfl, rfl, (by show (0 : Int) < 2147483647; decide), .ref a, rfl, a, _, 3, 3, rfl, rfl, upd_same, rfl, ?_⟩
        refine ⟨.ref a, rfl, a, _, 3, _, rfl, rfl, SqL.of upd_same, atI_nat (j := 3) rfl, _, 64, rfl, rfl, ⟨by decide, by decide⟩, .ref a, rfl, a, _, 3, _, rfl, rfl, SqL.of upd_same, atI_nat (j := 3) rfl, _, 4093, rfl, rfl, (by show (0 : Int) < 4093; decide), _, 31, rfl, rfl, .inr ⟨by decide, by decide⟩, _, _, rfl, rfl, .int n, rfl, _, n, rfl, rfl, (by show (0 : Int) < n; omega), ?_⟩
        refine q _ _ (Int.emod_nonneg _ (by omega)) (Int.emod_lt_of_pos _ (by omega)) (kp.trans (Kp.put.trans Kp.put)) ⟨ns, i, b, _, t + 1, upd_same, ?_, i0, b0, Int.emod_nonneg _ (by decide), Int.emod_lt_of_pos _ (by decide)⟩
        rw [upd_ne hca, upd_ne hca]
        exact g2
end
end HL

namespace HL
open PySem PySem.Spec PyProof.Rows L2
open C8 (pss_cut)
/-- a def of the module as its callers take it -/
structure Cal (P : Program) (w : World) (K : PySem.W.Frag) (mg : Str → Option Value) (base : Heap) (CX : CXT) (j : Nat) (x : Str) (ps : List Str) (sp : Sp) : Prop where
  ex : ∃ f fd, FnOk P w K mg base CX j f fd ps sp ∧ mg x = some (.ref f) ∧ PySem.W.keepIn K (.ref f) = true ∧ Binds K fd ps []
section
variable {P : Program} {w : World} {K : PySem.W.Frag} {mg : Str → Option Value} {base : Heap}
/-! ### pick -/
theorem atI_mem {xs : List V} {i : Int} (h0 : 0 ≤ i) (h1 : i < (xs.length : Nat)) : ∃ z, atI xs i = some z ∧ z ∈ xs ∧ xs[i.toNat]? = some z := by
  have hl : i.toNat < xs.length := by omega
  have e : ((i.toNat : Nat) : Int) = i := by omega
  exact ⟨xs[i.toNat], (congrArg (atI xs) e.symm).trans (atI_nat (j := i.toNat) (List.getElem?_eq_getElem hl)), List.getElem_mem hl, List.getElem?_eq_getElem hl⟩
/-! ### same -/
def leafV : V → Bool
  | .non => true
  | .bl _ => true
  | .int _ => true
  | .str _ => true
  | _ => false
/-- alike at depth d: leaves, or lists or tuples of such -/
def Eqd (H : Hp) : Nat → V → V → Prop
  | 0, x, y => x = y ∧ leafV x = true
  | d + 1, x, y => (x = y ∧ leafV x = true) ∨ ∃ (a b : Addr) (xs ys : List V), x = .ref a ∧ y = .ref b ∧ ((H a = some (.lst xs) ∧ H b = some (.lst ys)) ∨ (H a = some (.tup xs) ∧ H b = some (.tup ys))) ∧
      xs.length = ys.length ∧ xs.length ≤ 1000 ∧ ∀ (i : Nat) (x y : V), xs[i]? = some x → ys[i]? = some y → Eqd H d x y
theorem Eqd.same {H H' : Hp} (s : Same H H') : ∀ {d : Nat} {x y : V}, Eqd H d x y → Eqd H' d x y
  | 0, _, _, h => h
  | d + 1, _, _, .inl h => .inl h
  | d + 1, _, _, .inr ⟨a, b, xs, ys, ex, ey, hs, hl, hz, ih⟩ => .inr ⟨a, b, xs, ys, ex, ey, hs.imp (fun q => ⟨s _ _ q.1, s _ _ q.2⟩) (fun q => ⟨s _ _ q.1, s _ _ q.2⟩), hl, hz, fun i x y h1 h2 => Eqd.same s (ih i x y h1 h2)⟩
def spSame (d : Nat) : Sp := fun vs H Q _ => ∃ x y, vs = [x, y] ∧ Eqd H d x y ∧ ∀ H', Same H H' → Q (.bl true) H'
theorem scSame : FnScope ["_law_found", "_law_due", "_law_at"] ["_law_found", "_law_due"] (defScope sSame) := ⟨rfl, rfl, rfl, by decide +kernel, rfl, by decide +kernel, by decide +kernel⟩
structure Bl (mg : Str → Option Value) : Prop where
  len : mg "len" = none
  list : mg "list" = none
  tuple : mg "tuple" = none
  dict : mg "dict" = none
  str : mg "str" = none
  int : mg "int" = none
  bool : mg "bool" = none
  isinstance : mg "isinstance" = none
  all : mg "all" = none
  range : mg "range" = none
  sum : mg "sum" = none
  min : mg "min" = none
  max : mg "max" = none
  enumerate : mg "enumerate" = none
theorem ok_same_leaf {f : Addr} {fd : FuncData} {k : Nat} (F : Fun K "_law_same" "_law_same" sSame f fd) (B : Bl mg) : FnOk P w K mg base CX0 (k + 1) f fd ["_law_found", "_law_due"] (spSame 0) := by
  refine F.ok scSame (fun vs H Q E h => ?_) (fun cdv A outer s H vs Q E hr h => ?_)
  · obtain ⟨x, y, rfl, _⟩ := h
    rfl
  · obtain ⟨x, y, rfl, ⟨rfl, hlf⟩, q⟩ := h
    refine ⟨_, pss_cons (ps_if (pt_cmpR op_isN (pv 1) pe_non (nomark _)) (pss_one (ps_ret (pe_cmp (pc_isN (pv 0)) rfl))) pss_nil)
      (pss_cons (ps_if (pt_val (pe_callB call_isi (by rfl) B.isinstance (by decide +kernel) (pa_cons (pv 1) (pa_cons (pe_bltn (v := .ty "bool") (by rfl) B.bool (by decide +kernel) rfl) pa_nil))))
          (pss_one (ps_ret (pe_and (pe_callB call_isi (by rfl) B.isinstance (by decide +kernel) (pa_cons (pv 0) (pa_cons (pe_bltn (v := .ty "bool") (by rfl) B.bool (by decide +kernel) rfl) pa_nil))) (pe_one (pe_cmpR op_eq (pv 0) (pv 1) (nomark _)))))) pss_nil)
      (pss_cons (ps_if (pt_val (pe_callB call_isi (by rfl) B.isinstance (by decide +kernel) (pa_cons (pv 1) (pa_cons (pe_bltn (v := .ty "int") (by rfl) B.int (by decide +kernel) rfl) pa_nil))))
          (pss_one (ps_ret (pe_and (pe_callB call_isi (by rfl) B.isinstance (by decide +kernel) (pa_cons (pv 0) (pa_cons (pe_bltn (v := .ty "int") (by rfl) B.int (by decide +kernel) rfl) pa_nil)))
            (pe_and (pe_not (pe_callB call_isi (by rfl) B.isinstance (by decide +kernel) (pa_cons (pv 0) (pa_cons (pe_bltn (v := .ty "bool") (by rfl) B.bool (by decide +kernel) rfl) pa_nil)))) (pe_one (pe_cmpR op_eq (pv 0) (pv 1) (nomark _))))))) pss_nil)
      (pss_cons (ps_if (pt_val (pe_callB call_isi (by rfl) B.isinstance (by decide +kernel) (pa_cons (pv 1) (pa_cons (pe_bltn (v := .ty "str") (by rfl) B.str (by decide +kernel) rfl) pa_nil))))
          (pss_one (ps_ret (pe_and (pe_callB call_isi (by rfl) B.isinstance (by decide +kernel) (pa_cons (pv 0) (pa_cons (pe_bltn (v := .ty "str") (by rfl) B.str (by decide +kernel) rfl) pa_nil))) (pe_one (pe_cmpR op_eq (pv 0) (pv 1) (nomark _)))))) pss_nil)
      pss_never))), ?_⟩
    cases x with
    | non => exact ⟨_, rfl, rfl, _, rfl, iteT ⟨_, rfl, q _ (Same.refl _)⟩⟩
    | bl b =>
      refine ⟨_, rfl, rfl, _, rfl, iteF ?_⟩
      refine ⟨_, rfl, _, _, _, _, true, rfl, .ty "bool", .base (.bl b), kit_ty (by decide +kernel), _, rfl, iteT ?_⟩
      refine ⟨_, rfl, _, _, _, _, true, rfl, .ty "bool", .base (.bl b), kit_ty (by decide +kernel), _, rfl, iteT ?_⟩
      refine ⟨_, rfl, _, rfl, rfl, ?_⟩
      rw [decide_eq_true rfl]
      exact q _ (Same.refl _)
    | int i =>
      refine ⟨_, rfl, rfl, _, rfl, iteF ?_⟩
      refine ⟨_, rfl, _, _, _, _, false, rfl, .ty "bool", .base (.int i), kit_ty (by decide +kernel), _, rfl, iteF ?_⟩
      refine ⟨_, rfl, _, _, _, _, true, rfl, .ty "int", .base (.int i), kit_ty (by decide +kernel), _, rfl, iteT ?_⟩
      refine ⟨_, rfl, _, _, _, _, true, rfl, .ty "int", .base (.int i), kit_ty (by decide +kernel), _, rfl, iteT ?_⟩
      refine ⟨_, rfl, _, _, _, _, false, rfl, .ty "bool", .base (.int i), kit_ty (by decide +kernel), _, rfl, _, rfl, iteT ?_⟩
      refine ⟨_, rfl, _, rfl, rfl, ?_⟩
      rw [decide_eq_true rfl]
      exact q _ (Same.refl _)
    | str z =>
      refine ⟨_, rfl, rfl, _, rfl, iteF ?_⟩
      refine ⟨_, rfl, _, _, _, _, false, rfl, .ty "bool", .base (.str z), kit_ty (by decide +kernel), _, rfl, iteF ?_⟩
      refine ⟨_, rfl, _, _, _, _, false, rfl, .ty "int", .base (.str z), kit_ty (by decide +kernel), _, rfl, iteF ?_⟩
      refine ⟨_, rfl, _, _, _, _, true, rfl, .ty "str", .base (.str z), kit_ty (by decide +kernel), _, rfl, iteT ?_⟩
      refine ⟨_, rfl, _, _, _, _, true, rfl, .ty "str", .base (.str z), kit_ty (by decide +kernel), _, rfl, iteT ?_⟩
      refine ⟨_, rfl, _, rfl, rfl, ?_⟩
      rw [decide_eq_true rfl]
      exact q _ (Same.refl _)
    | byt b => cases hlf
    | flt b => cases hlf
    | ref a => cases hlf
    | ty n => cases hlf

theorem leaf_or {H : Hp} {d : Nat} {x y : V} (h : Eqd H d x y) (hx : leafV x = true) : x = y := by
  cases d with
  | zero => exact h.1
  | succ d =>
    rcases h with h | ⟨a, b, xs, ys, rfl, _⟩
    · exact h.1
    · cases hx
/-- what isinstance tells of a list or tuple that is tracked -/
theorem seq_ty {K : PySem.W.Frag} {H : Hp} {a b : Addr} {xs ys : List V} (h : (H a = some (.lst xs) ∧ H b = some (.lst ys)) ∨ (H a = some (.tup xs) ∧ H b = some (.tup ys))) :
    ∃ (T : String) (bt bl : Bool), TyX K H (.ref a) (.type T) ∧ TyX K H (.ref b) (.type T) ∧ kitB T "bool" = some false ∧ kitB T "int" = some false ∧ kitB T "str" = some false ∧ kitB T "dict" = some false ∧ kitB T "tuple" = some bt ∧ kitB T "list" = some bl := by
  rcases h with ⟨h1, h2⟩ | ⟨h1, h2⟩
  · exact ⟨"list", false, true, .base (.lst h1), .base (.lst h2), by decide +kernel, by decide +kernel, by decide +kernel, by decide +kernel, by decide +kernel, by decide +kernel⟩
  · exact ⟨"tuple", true, false, .base (.tup h1), .base (.tup h2), by decide +kernel, by decide +kernel, by decide +kernel, by decide +kernel, by decide +kernel, by decide +kernel⟩
theorem fnEither {CX : CXT} {k : Nat} {f : Addr} {fd : FuncData} {ps : List Str} {sp sp1 sp2 : Sp} (F1 : FnOk P w K mg base CX k f fd ps sp1) (F2 : FnOk P w K mg base CX k f fd ps sp2) (h : ∀ vs H Q E, sp vs H Q E → sp1 vs H Q E ∨ sp2 vs H Q E) : FnOk P w K mg base CX k f fd ps sp where
  len := fun vs H Q E q => (h vs H Q E q).elim (F1.len vs H Q E) (F2.len vs H Q E)
  run := fun A outer s H args us vs Q E hr e0 hb r q => (h vs H Q E q).elim (F1.run A outer s H args us vs Q E hr e0 hb r) (F2.run A outer s H args us vs Q E hr e0 hb r)
theorem yes {σ : L2.St} {H : Hp} {Q : Bool → Hp → Prop} (h : Q true H) : tYes σ H Q := h
theorem bl_self (b : Bool) : (!decide (V.bl b = V.bl b)) = false := by rw [decide_eq_true rfl]; rfl
theorem ok_same_step {f : Addr} {fd : FuncData} {d : Nat} (F : Fun K "_law_same" "_law_same" sSame f fd) (B : Bl mg) (gS : mg "_law_same" = some (.ref f)) (kS : PySem.W.keepIn K (.ref f) = true) (bS : Binds K fd ["_law_found", "_law_due"] [])
    (G : FnOk P w K mg base CX0 (d + 1) f fd ["_law_found", "_law_due"] (spSame d)) : FnOk P w K mg base CX0 (d + 2) f fd ["_law_found", "_law_due"] (spSame (d + 1)) := by
  have key : FnOk P w K mg base CX0 (d + 2) f fd ["_law_found", "_law_due"] (fun vs H Q _ => ∃ (a b : Addr) (xs ys : List V), vs = [.ref a, .ref b] ∧ ((H a = some (.lst xs) ∧ H b = some (.lst ys)) ∨ (H a = some (.tup xs) ∧ H b = some (.tup ys))) ∧
      xs.length = ys.length ∧ xs.length ≤ 1000 ∧ (∀ (i : Nat) (x y : V), xs[i]? = some x → ys[i]? = some y → Eqd H d x y) ∧ ∀ H', Same H H' → Q (.bl true) H') := by
    refine F.ok scSame (fun vs H Q E h => ?_) (fun cdv A outer s H vs Q E hr h => ?_)
    · obtain ⟨a, b, xs, ys, rfl, _⟩ := h
      rfl
    · obtain ⟨a, b, xs, ys, rfl, hs, hl, hz, hE, q⟩ := h
      refine ⟨_, pss_cons (ps_if (pt_cmpR op_isN (pv 1) pe_non (nomark _)) pss_never pss_nil)
        (pss_cons (ps_if (pt_val (pe_callB call_isi (by rfl) B.isinstance (by decide +kernel) (pa_cons (pv 1) (pa_cons (pe_bltn (v := .ty "bool") (by rfl) B.bool (by decide +kernel) rfl) pa_nil)))) pss_never pss_nil)
        (pss_cons (ps_if (pt_val (pe_callB call_isi (by rfl) B.isinstance (by decide +kernel) (pa_cons (pv 1) (pa_cons (pe_bltn (v := .ty "int") (by rfl) B.int (by decide +kernel) rfl) pa_nil)))) pss_never pss_nil)
        (pss_cons (ps_if (pt_val (pe_callB call_isi (by rfl) B.isinstance (by decide +kernel) (pa_cons (pv 1) (pa_cons (pe_bltn (v := .ty "str") (by rfl) B.str (by decide +kernel) rfl) pa_nil)))) pss_never pss_nil)
        (pss_cons (ps_if (pt_val (pe_callB call_isi (by rfl) B.isinstance (by decide +kernel) (pa_cons (pv 1) (pa_cons (pe_bltn (v := .ty "dict") (by rfl) B.dict (by decide +kernel) rfl) pa_nil)))) pss_never pss_nil)
        (pss_cons (ps_if (PW.pt (pw_or (pt_cmpR op_ne (pe_callB call_isi (by rfl) B.isinstance (by decide +kernel) (pa_cons (pv 1) (pa_cons (pe_bltn (v := .ty "tuple") (by rfl) B.tuple (by decide +kernel) rfl) pa_nil)))
              (pe_callB call_isi (by rfl) B.isinstance (by decide +kernel) (pa_cons (pv 0) (pa_cons (pe_bltn (v := .ty "tuple") (by rfl) B.tuple (by decide +kernel) rfl) pa_nil))) (nomark _))
            (pw_or1 (pt_cmpR op_ne (pe_callB call_isi (by rfl) B.isinstance (by decide +kernel) (pa_cons (pv 1) (pa_cons (pe_bltn (v := .ty "list") (by rfl) B.list (by decide +kernel) rfl) pa_nil)))
              (pe_callB call_isi (by rfl) B.isinstance (by decide +kernel) (pa_cons (pv 0) (pa_cons (pe_bltn (v := .ty "list") (by rfl) B.list (by decide +kernel) rfl) pa_nil))) (nomark _))))) pss_never pss_nil)
        (pss_cons (ps_if (pt_cmpR op_ne (pe_callB call_len_seq (by rfl) B.len PySem.boot_len (pa_cons (pv 0) pa_nil)) (pe_callB call_len_seq (by rfl) B.len PySem.boot_len (pa_cons (pv 1) pa_nil)) (nomark _)) pss_never pss_nil)
        (pss_one (ps_ret (pe_callB (cr_all rfl) (by rfl) B.all (by decide +kernel) (pa_cons
          (pe_lc (own := [("_law_at", 2)]) (g := gName 2) (tt := tYes) rfl scSame.nd (pi_range1 (by rfl) B.range (pa_cons (pe_callB call_len_seq (by rfl) B.len PySem.boot_len (pa_cons (pv 1) pa_nil)) pa_nil))
            (blkOk_by (own := [("_law_at", 2)]) (N := ["_law_found", "_law_due", "_law_at"]) (sc := defScope sSame) (by decide +kernel)) (fun _ _ _ _ _ => pg_name (i := 2) scSame.nd rfl (Or.inl rfl)) (fun _ _ _ _ _ => pts_nil)
            (fun _ _ _ _ _ => pe_call G hr (by rfl) gS kS bS .nil pass0 (pa_cons (pe_ix (r := rIx K) ix_seq (pv 0) (pv 2) (fun _ _ => rfl)) (pa_cons (pe_ix (r := rIx K) ix_seq (pv 1) (pv 2) (fun _ _ => rfl)) pa_nil)))) pa_nil)))))))))), ?_⟩
      obtain ⟨T, bt, bl, ta, tb, k1, k2, k3, k4, k5, k6⟩ := seq_ty (K := K) hs
      refine ⟨.ref b, rfl, rfl, _, rfl, iteF ?_⟩
      refine ⟨.ref b, rfl, _, _, _, _, false, rfl, .ty "bool", tb, kit_ty k1, _, rfl, iteF ?_⟩
      refine ⟨.ref b, rfl, _, _, _, _, false, rfl, .ty "int", tb, kit_ty k2, _, rfl, iteF ?_⟩
      refine ⟨.ref b, rfl, _, _, _, _, false, rfl, .ty "str", tb, kit_ty k3, _, rfl, iteF ?_⟩
      refine ⟨.ref b, rfl, _, _, _, _, false, rfl, .ty "dict", tb, kit_ty k4, _, rfl, iteF ?_⟩
      refine ⟨.ref b, rfl, _, _, _, _, bt, rfl, .ty "tuple", tb, kit_ty k5, .ref a, rfl, _, _, _, _, bt, rfl, .ty "tuple", ta, kit_ty k5, rfl, _, rfl, ?_⟩
      rw [bl_self]
      refine iteF ?_
      refine ⟨.ref b, rfl, _, _, _, _, bl, rfl, .ty "list", tb, kit_ty k6, .ref a, rfl, _, _, _, _, bl, rfl, .ty "list", ta, kit_ty k6, rfl, _, rfl, ?_⟩
      rw [bl_self]
      refine iteF ?_
      have sA : SqL K H a xs ∨ SqT K H a xs := hs.imp (fun q => SqL.of q.1) (fun q => SqT.of q.1)
      have sB : SqL K H b ys ∨ SqT K H b ys := hs.imp (fun q => SqL.of q.2) (fun q => SqT.of q.2)
      refine ⟨.ref a, rfl, a, xs, rfl, sA, .ref b, rfl, b, ys, rfl, sB, rfl, _, rfl, ?_⟩
      rw [hl, decide_eq_true rfl]
      refine iteF ?_
      refine ⟨.ref b, rfl, b, ys, rfl, sB, (ys.length : Nat), rfl, by omega, by omega, fun D nD => ?_⟩
      refine lc_range (lo := 0) (n := ((ys.length : Nat) : Int).toNat) (fun i H' => Same H H' ∧ H' D = some (.lst ((List.replicate i true).map V.bl))) ⟨same_new nD, upd_same⟩ (fun i H' hi ⟨sm, hD⟩ => ?_) (fun H' ⟨sm, hD⟩ => ?_)
      · have hi' : i < ys.length := by omega
        have hx : xs[i]? = some (xs[i]'(by omega)) := List.getElem?_eq_getElem (by omega)
        have hy : ys[i]? = some ys[i] := List.getElem?_eq_getElem hi'
        have ez : (0 : Int) + (i : Nat) = ((i : Nat) : Int) := by omega
        rw [ez]
        have sA' : rIx K (.ref a) (.int ((i : Nat) : Int)) H' = rIx K (.ref a) (.int ((i : Nat) : Int)) H' := rfl
        have rdA : ∀ Q : VK, Q (xs[i]'(by omega)) H' → rIx K (.ref a) (.int ((i : Nat) : Int)) H' Q := fun Q hQ => by
          rcases hs with ⟨h1, _⟩ | ⟨h1, _⟩
          · exact .inl ⟨a, xs, _, _, rfl, rfl, SqL.of (sm _ _ h1), atI_nat hx, hQ⟩
          · exact .inr (.inl ⟨a, xs, _, _, rfl, rfl, SqT.of (sm _ _ h1), atI_nat hx, hQ⟩)
        have rdB : ∀ Q : VK, Q ys[i] H' → rIx K (.ref b) (.int ((i : Nat) : Int)) H' Q := fun Q hQ => by
          rcases hs with ⟨_, h1⟩ | ⟨_, h1⟩
          · exact .inl ⟨b, ys, _, _, rfl, rfl, SqL.of (sm _ _ h1), atI_nat hy, hQ⟩
          · exact .inr (.inl ⟨b, ys, _, _, rfl, rfl, SqT.of (sm _ _ h1), atI_nat hy, hQ⟩)
        refine ⟨rfl, yes (iteT ?_)⟩
        refine ⟨.ref a, rfl, .int ((i : Nat) : Int), rfl, rdA _ ⟨.ref b, rfl, .int ((i : Nat) : Int), rfl, rdB _ ?_⟩⟩
        refine ⟨_, _, rfl, (hE i _ _ hx hy).same sm, fun H2 s2 => ⟨_, s2 _ _ hD, ?_, ?_, ?_⟩⟩
        · rw [List.length_map, List.length_replicate]
          exact small1000 (by omega)
        · exact fun c o e => by
            have nc : c ≠ D := fun z => by rw [z, nD] at e; cases e
            rw [upd_ne nc]
            exact s2 _ _ (sm _ _ e)
        · rw [upd_same, List.replicate_succ', List.map_append]
          rfl
      · refine ⟨D, _, rfl, SqL.of hD, ?_⟩
        have e : (List.replicate ((ys.length : Nat) : Int).toNat true).all id = true := by
          rw [List.all_eq_true]
          intro x hx
          exact (List.eq_of_mem_replicate hx)
        rw [e]
        exact q _ sm
  have leaf : FnOk P w K mg base CX0 (d + 2) f fd ["_law_found", "_law_due"] (spSame 0) := ok_same_leaf F B
  exact fnEither key leaf fun vs H Q E ⟨x, y, ev, h, q⟩ => by
    rcases h with h | ⟨a, b, xs, ys, rfl, rfl, hs, hl, hz, hE⟩
    · exact .inr ⟨x, y, ev, h, q⟩
    · exact .inl ⟨a, b, xs, ys, ev, hs, hl, hz, hE, q⟩
theorem ok_same {f : Addr} {fd : FuncData} (F : Fun K "_law_same" "_law_same" sSame f fd) (B : Bl mg) (gS : mg "_law_same" = some (.ref f)) (bS : Binds K fd ["_law_found", "_law_due"] []) :
    ∀ d : Nat, FnOk P w K mg base CX0 (d + 1) f fd ["_law_found", "_law_due"] (spSame d)
  | 0 => ok_same_leaf F B
  | d + 1 => ok_same_step F B gS F.kp bS (ok_same F B gS bS d)
end
end HL

namespace HL
open PySem PySem.Spec PyProof.Rows L2
open C8 (pss_cut)
/-! ### rows and lots in the heap -/
def Rows (H : Hp) : List Addr → List (List Int) → Prop
  | [], [] => True
  | a :: as, r :: rs => H a = some (.tup (r.map V.int)) ∧ Rows H as rs
  | _, _ => False
theorem Rows.len {H : Hp} : ∀ {as : List Addr} {ll : List (List Int)}, Rows H as ll → as.length = ll.length
  | [], [], _ => rfl
  | a :: as, r :: rs, h => by rw [List.length_cons, List.length_cons, Rows.len h.2]
  | [], _ :: _, h => h.elim
  | _ :: _, [], h => h.elim
theorem Rows.mono {H H' : Hp} : ∀ {as : List Addr} {ll : List (List Int)}, Rows H as ll → (∀ a xs, H a = some (.tup xs) → H' a = some (.tup xs)) → Rows H' as ll
  | [], [], _, _ => True.intro
  | a :: as, r :: rs, h, k => ⟨k _ _ h.1, Rows.mono h.2 k⟩
  | [], _ :: _, h, _ => h.elim
  | _ :: _, [], h, _ => h.elim
theorem Rows.same {H H' : Hp} {as : List Addr} {ll : List (List Int)} (h : Rows H as ll) (s : Same H H') : Rows H' as ll := h.mono fun a xs e => s _ _ e
theorem Rows.kp {H H' : Hp} {f c : Addr} {as : List Addr} {ll : List (List Int)} (h : Rows H as ll) (F : FeedAt c H f) (k : Kp f H H') : Rows H' as ll := h.mono fun a xs e => k _ _ (F.tup e) e
theorem Rows.app {H : Hp} : ∀ {as bs : List Addr} {ll mm : List (List Int)}, Rows H as ll → Rows H bs mm → Rows H (as ++ bs) (ll ++ mm)
  | [], _, [], _, _, h => h
  | a :: as, bs, r :: rs, mm, h, k => ⟨h.1, Rows.app h.2 k⟩
  | [], _, _ :: _, _, h, _ => h.elim
  | _ :: _, _, [], _, h, _ => h.elim
theorem Rows.take {H : Hp} : ∀ {as : List Addr} {ll : List (List Int)} (n : Nat), Rows H as ll → Rows H (as.take n) (ll.take n)
  | [], [], n, _ => by rw [List.take_nil, List.take_nil]; exact True.intro
  | _ :: _, _ :: _, 0, _ => True.intro
  | a :: as, r :: rs, n + 1, h => ⟨h.1, Rows.take n h.2⟩
  | [], _ :: _, _, h => h.elim
  | _ :: _, [], _, h => h.elim
theorem Rows.drop {H : Hp} : ∀ {as : List Addr} {ll : List (List Int)} (n : Nat), Rows H as ll → Rows H (as.drop n) (ll.drop n)
  | [], [], n, _ => by rw [List.drop_nil, List.drop_nil]; exact True.intro
  | _ :: _, _ :: _, 0, h => h
  | a :: as, r :: rs, n + 1, h => Rows.drop n h.2
  | [], _ :: _, _, h => h.elim
  | _ :: _, [], _, h => h.elim
theorem Rows.at {H : Hp} : ∀ {as : List Addr} {ll : List (List Int)} {i : Nat} {a : Addr}, Rows H as ll → as[i]? = some a → ∃ r, ll[i]? = some r ∧ H a = some (.tup (r.map V.int))
  | [], [], _, _, _, e => by simp at e
  | b :: as, r :: rs, 0, a, h, e => by
    have e' : b = a := Option.some.inj e
    subst e'
    exact ⟨r, rfl, h.1⟩
  | b :: as, r :: rs, i + 1, a, h, e => Rows.at (i := i) h.2 e
  | [], _ :: _, _, _, h, _ => h.elim
  | _ :: _, [], _, _, h, _ => h.elim
/-- a lot in the heap -/
def LotAt (H : Hp) (p : Addr) (ll : List (List Int)) : Prop := ∃ as : List Addr, H p = some (.tup (as.map V.ref)) ∧ Rows H as ll
theorem LotAt.same {H H' : Hp} {p : Addr} {ll : List (List Int)} (h : LotAt H p ll) (s : Same H H') : LotAt H' p ll := by
  obtain ⟨as, h1, h2⟩ := h
  exact ⟨as, s _ _ h1, h2.same s⟩
theorem LotAt.kp {H H' : Hp} {f c p : Addr} {ll : List (List Int)} (h : LotAt H p ll) (F : FeedAt c H f) (k : Kp f H H') : LotAt H' p ll := by
  obtain ⟨as, h1, h2⟩ := h
  exact ⟨as, k _ _ (F.tup h1) h1, h2.kp F k⟩
/-- a kind as it should be, of g amounts to m -/
def GoodRow (g m : Int) (r : List Int) : Prop := r.length = g.toNat ∧ (∀ n ∈ r, 0 ≤ n ∧ n ≤ m) ∧ ∃ n ∈ r, 0 < n
theorem pos_of_sum : ∀ {r : List Int}, (∀ n ∈ r, 0 ≤ n) → r.sum ≠ 0 → ∃ n ∈ r, 0 < n
  | [], _, h => absurd rfl h
  | x :: r, h0, h => by
    by_cases hx : 0 < x
    · exact ⟨x, List.mem_cons_self, hx⟩
    · have e : x = 0 := by
        have := h0 x List.mem_cons_self
        omega
      rw [List.sum_cons, e, Int.zero_add] at h
      obtain ⟨n, hn, hp⟩ := pos_of_sum (fun n hn => h0 n (List.mem_cons_of_mem _ hn)) h
      exact ⟨n, List.mem_cons_of_mem _ hn, hp⟩
/-! ### hold -/
theorem scHold : FnScope ["_law_feed_here", "_law_goods", "_law_most", "_law_hold_here", "_law_good"] ["_law_feed_here", "_law_goods", "_law_most"] (defScope sHold) := ⟨rfl, rfl, rfl, by decide +kernel, rfl, by decide +kernel, by decide +kernel⟩
theorem scLot : FnScope ["_law_feed_here", "_law_goods", "_law_kinds", "_law_most", "_law_kind"] ["_law_feed_here", "_law_goods", "_law_kinds", "_law_most"] (defScope sLot) := ⟨rfl, rfl, rfl, by decide +kernel, rfl, by decide +kernel, by decide +kernel⟩
section
variable {P : Program} {w : World} {K : PySem.W.Frag} {mg : Str → Option Value} {base : Heap}
def spHold : Sp := fun vs H Q _ => ∃ (f c : Addr) (g m : Int), vs = [.ref f, .int g, .int m] ∧ FeedAt c H f ∧ 1 ≤ g ∧ g ≤ 100 ∧ 1 ≤ m ∧ m ≤ 100 ∧
  ∀ H' p ns, Kp f H H' → FeedAt c H' f → H p = none → H' p = some (.tup (ns.map V.int)) → GoodRow g m ns → Q (.ref p) H'
theorem ok_hold {f : Addr} {fd : FuncData} (F : Fun K "_law_hold" "_law_hold" sHold f fd) (B : Bl mg) (CD : Cal P w K mg base CX0 1 "_law_draw" ["_law_feed_here", "_law_many"] spDraw) :
    FnOk P w K mg base CX0 2 f fd ["_law_feed_here", "_law_goods", "_law_most"] spHold := by
  obtain ⟨fD, fdD, GD, gD, kD, bD⟩ := CD.ex
  refine F.ok scHold (fun vs H Q E h => ?_) (fun cdv A outer s H vs Q E hr h => ?_)
  · obtain ⟨a, c, g, m, rfl, _⟩ := h
    rfl
  · obtain ⟨a, c, g, m, rfl, Fd, g1, g2, m1, m2, q⟩ := h
    refine ⟨_, pss_cons (ps_setLc (i := 3) (own := [("_law_good", 4)]) (g := gName 4) (tt := tYes) rfl scHold.nd rfl rfl (sw_true rfl rfl rfl (by decide +kernel)) (pi_range1 (by rfl) B.range (pa_cons (pv 1) pa_nil))
          (blkOk_by (own := [("_law_good", 4)]) (N := ["_law_feed_here", "_law_goods", "_law_most", "_law_hold_here", "_law_good"]) (sc := defScope sHold) (by decide +kernel)) (fun _ _ _ _ _ => pg_name (i := 4) scHold.nd rfl (Or.inl rfl)) (fun _ _ _ _ _ => pts_nil)
          (fun _ _ _ _ _ => pe_ifExp (pt_cmpR op_gt (pe_call GD hr (by rfl) gD kD bD .nil pass0 (pa_cons (pv 0) (pa_cons pe_int pa_nil))) pe_int (nomark _)) (pe_call GD hr (by rfl) gD kD bD .nil pass0 (pa_cons (pv 0) (pa_cons (pe_op op_add (pv 2) pe_int) pa_nil))) pe_int))
      (pss_cut (ps_if (pt_cmpR op_eq (pe_callB (cr_sum rfl) (by rfl) B.sum (by decide +kernel) (pa_cons (pv 3) pa_nil)) pe_int (nomark _))
          (pss_one (ps_asg (pe_op op_add pe_int (pe_call GD hr (by rfl) gD kD bD .nil pass0 (pa_cons (pv 0) (pa_cons (pv 2) pa_nil)))) (pg_sub (pv 3) (pe_call GD hr (by rfl) gD kD bD .nil pass0 (pa_cons (pv 0) (pa_cons (pv 1) pa_nil))) set_list))) pss_nil)
        (pss_one (ps_ret (pe_callTy call_tuple_of (by rfl) B.tuple (by decide +kernel) (pa_cons (pv 3) pa_nil))))), ?_⟩
    refine ⟨.int g, rfl, g, rfl, by omega, by omega, fun D nD => ?_⟩
    have nDf : D ≠ a := Fd.ne nD
    have nDc : D ≠ c := Fd.neC nD
    refine lc_range (lo := 0) (n := g.toNat) (fun i H' => Kp a H H' ∧ FeedAt c H' a ∧ ∃ ns : List Int, H' D = some (.lst (ns.map V.int)) ∧ ns.length = i ∧ ∀ n ∈ ns, 0 ≤ n ∧ n ≤ m)
      ⟨Kp.new nD, Fd.new nD, [], upd_same, rfl, fun n hn => by cases hn⟩ (fun i H' hi ⟨kp, F', ns, hD, hl, hb⟩ => ?_) (fun H' ⟨kp, F', ns, hD, hl, hb⟩ => ?_)
    · refine ⟨rfl, yes (iteT ?_)⟩
      have more : ∀ (H2 : Hp) (d : Int), Kp a H' H2 → FeedAt c H2 a → 0 ≤ d → d ≤ m → ∃ acc, H2 D = some (.lst acc) ∧ acc.length < sizeLine ∧ Kp a H (upd H2 D (.lst (acc ++ [.int d]))) ∧ FeedAt c (upd H2 D (.lst (acc ++ [.int d]))) a ∧
          ∃ ns : List Int, upd H2 D (.lst (acc ++ [.int d])) D = some (.lst (ns.map V.int)) ∧ ns.length = i + 1 ∧ ∀ n ∈ ns, 0 ≤ n ∧ n ≤ m := fun H2 d k2 F2 d0 d1 => by
        have hD2 := k2 _ _ nDf hD
        refine ⟨_, hD2, ?_, ?_, ?_, ns ++ [d], ?_, ?_, ?_⟩
        · rw [List.length_map]
          exact small1000 (by omega)
        · exact (kp.trans k2).late nD
        · exact F2.put nDf nDc
        · rw [upd_same, List.map_append]
          rfl
        · rw [List.length_append, hl]
          rfl
        · intro n hn
          rcases List.mem_append.mp hn with h | h
          · exact hb n h
          · rw [List.mem_singleton.mp h]
            exact ⟨d0, d1⟩
      refine ⟨.ref a, rfl, a, c, 3, rfl, by decide, by decide, F', fun d1 H1 _ _ k1 F1 => ?_⟩
      refine ⟨d1, 0, rfl, rfl, _, rfl, ite2 (fun _ => ?_) (fun _ => ?_)⟩
      · refine ⟨.ref a, rfl, .int m, rfl, m, 1, rfl, rfl, a, c, m + 1, rfl, by omega, by omega, F1, fun d2 H2 e0 e1 k2 F2 => ?_⟩
        exact more H2 d2 (k1.trans k2) F2 e0 (by omega)
      · exact more H1 0 k1 F1 (by decide) (by omega)
    · -- behind the comprehension
      refine ⟨fun σ' H2 => ∃ ns : List Int, σ' = [some (.ref a), some (.int g), some (.int m), some (.ref D), none] ∧ Kp a H H2 ∧ FeedAt c H2 a ∧ H2 D = some (.lst (ns.map V.int)) ∧ GoodRow g m ns, ?_, ?_⟩
      · refine ⟨.ref D, rfl, D, ns, rfl, SqL.of hD, rfl, _, rfl, ite2 (fun cs => ?_) (fun cs => ?_)⟩
        · refine ⟨.ref a, rfl, .int m, rfl, a, c, m, rfl, by omega, by omega, F', fun d1 H1 e0 e1 k1 F1 => ?_⟩
          refine ⟨1, d1, rfl, rfl, .ref D, rfl, .ref a, rfl, .int g, rfl, a, c, g, rfl, by omega, by omega, F1, fun d2 H2 c0 c1 k2 F2 => ?_⟩
          have hD2 : H2 D = some (.lst (ns.map V.int)) := k2 _ _ nDf (k1 _ _ nDf hD)
          have hj : ixN (ns.map V.int).length d2 = some d2.toNat := by
            unfold ixN
            rw [if_pos c0, if_pos (by rw [List.length_map]; omega)]
          refine ⟨D, _, d2, d2.toNat, rfl, rfl, hD2, hj, ns.set d2.toNat (1 + d1), rfl, ?_, ?_, ?_, ?_, ?_, ?_⟩
          · exact (kp.trans (k1.trans k2)).late nD
          · exact F2.put nDf nDc
          · rw [upd_same, List.map_set]
          · rw [List.length_set]
            exact hl
          · intro n hn
            rcases List.mem_or_eq_of_mem_set hn with h | h
            · exact hb n h
            · rw [h]
              omega
          · exact ⟨1 + d1, List.mem_iff_getElem.mpr ⟨d2.toNat, by rw [List.length_set]; omega, by simp⟩, by omega⟩
        · have hs : ns.sum ≠ 0 := fun z => cs (decide_eq_true (by rw [z]))
          exact ⟨ns, rfl, kp, F', hD, hl, hb, pos_of_sum (fun n hn => (hb n hn).1) hs⟩
      · rintro σ' H2 ⟨ms, rfl, k2, F2, hD2, G2⟩
        refine ⟨.ref D, rfl, D, _, rfl, .inl ⟨SqL.of hD2, fun p np => ?_⟩⟩
        exact q _ p ms (k2.trans (Kp.new np)) (F2.new np) (k2.free (F2.ne np) np) upd_same G2
end
end HL

namespace HL
open PySem PySem.Spec PyProof.Rows L2
open C8 (pss_cut)
section
variable {P : Program} {w : World} {K : PySem.W.Frag} {mg : Str → Option Value} {base : Heap}
/-! ### lots -/
/-- a lot as it should be -/
def GoodLot (g m : Int) (n : Nat) (ll : List (List Int)) : Prop := 1 ≤ ll.length ∧ ll.length ≤ n ∧ ∀ r ∈ ll, GoodRow g m r
def spLot : Sp := fun vs H Q _ => ∃ (f c : Addr) (g kk m : Int), vs = [.ref f, .int g, .int kk, .int m] ∧ FeedAt c H f ∧ 1 ≤ g ∧ g ≤ 100 ∧ 1 ≤ kk ∧ kk ≤ 100 ∧ 1 ≤ m ∧ m ≤ 100 ∧
  ∀ H' p ll, Kp f H H' → FeedAt c H' f → H p = none → LotAt H' p ll → GoodLot g m kk.toNat ll → Q (.ref p) H'
theorem ok_lot {f : Addr} {fd : FuncData} (F : Fun K "_law_lot" "_law_lot" sLot f fd) (B : Bl mg) (CD : Cal P w K mg base CX0 1 "_law_draw" ["_law_feed_here", "_law_many"] spDraw)
    (CH : Cal P w K mg base CX0 2 "_law_hold" ["_law_feed_here", "_law_goods", "_law_most"] spHold) : FnOk P w K mg base CX0 3 f fd ["_law_feed_here", "_law_goods", "_law_kinds", "_law_most"] spLot := by
  obtain ⟨fD, fdD, GD, gD, kD, bD⟩ := CD.ex
  obtain ⟨fH, fdH, GH, gH, kH, bH⟩ := CH.ex
  refine F.ok scLot (fun vs H Q E h => ?_) (fun cdv A outer s H vs Q E hr h => ?_)
  · obtain ⟨a, c, g, kk, m, rfl, _⟩ := h
    rfl
  · obtain ⟨a, c, g, kk, m, rfl, Fd, g1, g2, n1, n2, m1, m2, q⟩ := h
    refine ⟨_, pss_one (ps_ret (pe_callTy call_tuple_of (by rfl) B.tuple (by decide +kernel) (pa_cons
      (pe_lc (own := [("_law_kind", 4)]) (g := gName 4) (tt := tYes) rfl scLot.nd (pi_range1 (by rfl) B.range (pa_cons (pe_op op_add pe_int (pe_call GD (hr.mono (by decide)) (by rfl) gD kD bD .nil pass0 (pa_cons (pv 0) (pa_cons (pv 2) pa_nil)))) pa_nil))
        (blkOk_by (own := [("_law_kind", 4)]) (N := ["_law_feed_here", "_law_goods", "_law_kinds", "_law_most", "_law_kind"]) (sc := defScope sLot) (by decide +kernel)) (fun _ _ _ _ _ => pg_name (i := 4) scLot.nd rfl (Or.inl rfl)) (fun _ _ _ _ _ => pts_nil)
        (fun _ _ _ _ _ => pe_call GH hr (by rfl) gH kH bH .nil pass0 (pa_cons (pv 0) (pa_cons (pv 1) (pa_cons (pv 3) pa_nil))))) pa_nil))), ?_⟩
    refine ⟨.ref a, rfl, .int kk, rfl, a, c, kk, rfl, by omega, by omega, Fd, fun d H1 d0 d1 k1 F1 => ?_⟩
    refine ⟨1, d, rfl, rfl, 1 + d, rfl, by omega, by omega, fun D nD => ?_⟩
    have nDf : D ≠ a := F1.ne nD
    have nDc : D ≠ c := F1.neC nD
    have nD0 : H D = none := k1.free nDf nD
    refine lc_range (lo := 0) (n := (1 + d).toNat) (fun i H' => Kp a H H' ∧ FeedAt c H' a ∧ ∃ (as : List Addr) (ll : List (List Int)), H' D = some (.lst (as.map V.ref)) ∧ Rows H' as ll ∧ ll.length = i ∧ ∀ r ∈ ll, GoodRow g m r)
      ⟨k1.late nD0, F1.new nD, [], [], upd_same, True.intro, rfl, fun n hn => by cases hn⟩ (fun i H' hi ⟨kp, F', as, ll, hD, hR, hl, hb⟩ => ?_) (fun H' ⟨kp, F', as, ll, hD, hR, hl, hb⟩ => ?_)
    · refine ⟨rfl, yes (iteT ?_)⟩
      refine ⟨.ref a, rfl, .int g, rfl, .int m, rfl, a, c, g, m, rfl, F', g1, g2, m1, m2, fun H2 p ns k2 F2 np hp gr => ?_⟩
      have hD2 := k2 _ _ nDf hD
      have nt : ∀ b xs, H2 b = some (.tup xs) → upd H2 D (.lst (as.map V.ref ++ [.ref p])) b = some (.tup xs) := fun b xs e => by
        rw [upd_ne (ne_of e hD2 (fun z => by cases z))]
        exact e
      refine ⟨_, hD2, ?_, (kp.trans k2).late nD0, F2.put nDf nDc, as ++ [p], ll ++ [ns], ?_, ?_, ?_, ?_⟩
      · rw [List.length_map, hR.len]
        exact small1000 (by omega)
      · rw [upd_same, List.map_append]
        rfl
      · exact ((hR.kp F' k2).mono nt).app ⟨nt _ _ hp, True.intro⟩
      · rw [List.length_append, hl]
        rfl
      · intro r hr
        rcases List.mem_append.mp hr with h | h
        · exact hb r h
        · rw [List.mem_singleton.mp h]
          exact gr
    · refine ⟨D, _, rfl, .inl ⟨SqL.of hD, fun p np => ?_⟩⟩
      exact q _ p ll (kp.trans (Kp.new np)) (F'.new np) (kp.free (F'.ne np) np) ⟨as, upd_same, hR.same (same_new np)⟩ ⟨by omega, by omega, hb⟩
theorem rep_one (v : V) : ∀ n : Nat, (List.replicate n [v]).flatten = List.replicate n v
  | 0 => rfl
  | n + 1 => by
    rw [List.replicate_succ, List.flatten_cons, rep_one v n, List.replicate_succ]
    rfl
end
end HL

namespace HL
open PySem PySem.Spec PyProof.Rows L2
open C8 (pss_cut)
/-! ### what a lot must be -/
def okRow (g : Nat) (r : List Int) : Bool := decide (r.length = g) && (r.all (fun n => decide (0 ≤ n ∧ n ≤ 6)) && r.any (fun n => decide (0 < n)))
def flawIn (g : Nat) (ll : List (List Int)) : Option Int := (ll.findIdx? fun r => !okRow g r).map fun i => (i : Int)
def width (ll : List (List Int)) : Nat := (ll.headD []).length
def flaw (ll : List (List Int)) : Option Int := if 1 ≤ ll.length ∧ ll.length ≤ 5 ∧ 1 ≤ width ll ∧ width ll ≤ 3 then flawIn (width ll) ll else some (-1)
def flawV (ll : List (List Int)) : V := match flaw ll with
  | none => .non
  | some k => .int k
theorem flawIn_at {g : Nat} {ll : List (List Int)} {i : Nat} {r : List Int} (h : ll[i]? = some r) (hb : okRow g r = false) (ha : ∀ (j : Nat) (r' : List Int), j < i → ll[j]? = some r' → okRow g r' = true) : flawIn g ll = some (i : Int) := by
  unfold flawIn
  obtain ⟨hi, he⟩ := List.getElem?_eq_some_iff.mp h
  have e : ll.findIdx? (fun r => !okRow g r) = some i := by
    refine List.findIdx?_eq_some_iff_getElem.mpr ⟨hi, by rw [he, hb]; rfl, fun j hj => ?_⟩
    rw [ha j ll[j] hj (List.getElem?_eq_getElem (by omega))]
    decide
  rw [e]
  rfl
theorem flawIn_none {g : Nat} {ll : List (List Int)} (ha : ∀ (j : Nat) (r' : List Int), j < ll.length → ll[j]? = some r' → okRow g r' = true) : flawIn g ll = none := by
  unfold flawIn
  have e : ll.findIdx? (fun r => !okRow g r) = none := by
    refine List.findIdx?_eq_none_iff.mpr fun r hr => ?_
    obtain ⟨j, hj, hjr⟩ := List.mem_iff_getElem.mp hr
    rw [ha j r hj (by rw [List.getElem?_eq_getElem hj, hjr])]
    rfl
  rw [e]
  rfl
theorem all_in {r : List Int} : (r.all (fun n => decide (0 ≤ n ∧ n ≤ 6))) = true ↔ ∀ n ∈ r, 0 ≤ n ∧ n ≤ 6 := by
  rw [List.all_eq_true]
  exact ⟨fun h n hn => of_decide_eq_true (h n hn), fun h n hn => decide_eq_true (h n hn)⟩
theorem any_pos {r : List Int} : (r.any (fun n => decide (0 < n))) = true ↔ ∃ n ∈ r, 0 < n := by
  rw [List.any_eq_true]
  exact ⟨fun ⟨n, hn, h⟩ => ⟨n, hn, of_decide_eq_true h⟩, fun ⟨n, hn, h⟩ => ⟨n, hn, decide_eq_true h⟩⟩
theorem okRow_iff {g : Nat} {r : List Int} : okRow g r = true ↔ r.length = g ∧ (∀ n ∈ r, 0 ≤ n ∧ n ≤ 6) ∧ ∃ n ∈ r, 0 < n := by
  unfold okRow
  rw [Bool.and_eq_true, Bool.and_eq_true, decide_eq_true_iff, all_in, any_pos]
theorem sum_pos {r : List Int} (h0 : ∀ n ∈ r, 0 ≤ n) (h : ∃ n ∈ r, 0 < n) : 0 < r.sum := by
  induction r with
  | nil => obtain ⟨n, hn, _⟩ := h; cases hn
  | cons x r ih =>
    rw [List.sum_cons]
    have x0 := h0 x List.mem_cons_self
    have rest : 0 ≤ r.sum := by
      clear ih h
      induction r with
      | nil => exact Int.le_refl _
      | cons y r ih2 =>
        rw [List.sum_cons]
        have := h0 y (List.mem_cons_of_mem _ List.mem_cons_self)
        have := ih2 fun n hn => h0 n (by
          rcases List.mem_cons.mp hn with h | h
          · rw [h]; exact List.mem_cons_self
          · exact List.mem_cons_of_mem _ (List.mem_cons_of_mem _ h))
        omega
    obtain ⟨n, hn, hp⟩ := h
    rcases List.mem_cons.mp hn with h | h
    · omega
    · have := ih (fun n hn => h0 n (List.mem_cons_of_mem _ hn)) ⟨n, h, hp⟩
      omega
/-- 1 <= x <= 5 as a test -/
theorem chainI {i j L : Int} {H : Hp} {Q : Bool → Hp → Prop} (h : Q (decide (i ≤ L ∧ L ≤ j)) H) :
    if decide (i ≤ L) = true then (∃ a b : Int, V.int L = V.int a ∧ V.int j = V.int b ∧ ∃ k, V.bl (decide (a ≤ b)) = V.bl k ∧ Q k H) else ∃ k, V.bl false = V.bl k ∧ Q k H := by
  by_cases c : i ≤ L
  · rw [if_pos (decide_eq_true c)]
    refine ⟨L, j, rfl, rfl, _, rfl, ?_⟩
    rw [show decide (L ≤ j) = decide (i ≤ L ∧ L ≤ j) by simp [c]]
    exact h
  · rw [if_neg (fun z => c (of_decide_eq_true z))]
    refine ⟨false, rfl, ?_⟩
    rw [show false = decide (i ≤ L ∧ L ≤ j) by simp [c]]
    exact h
theorem Rows.head {H : Hp} {as : List Addr} {ll : List (List Int)} (h : Rows H as ll) (hl : 1 ≤ ll.length) : ∃ a, as[0]? = some a ∧ H a = some (.tup ((ll.headD []).map V.int)) ∧ (ll.headD []).length = width ll := by
  cases as with
  | nil =>
    cases ll with
    | nil => simp at hl
    | cons r rs => exact h.elim
  | cons a as =>
    cases ll with
    | nil => simp at hl
    | cons r rs => exact ⟨a, rfl, h.1, rfl⟩
end HL

namespace HL
open PySem PySem.Spec PyProof.Rows L2
open C8 (pss_cut)
open RZ (pi_zipA ItzT iZipA)
theorem scIH : FnScope ["hold", "goods", "amount"] ["hold", "goods"] (defScope sIsHold) := ⟨rfl, rfl, rfl, by decide +kernel, rfl, by decide +kernel, by decide +kernel⟩
theorem scLk : FnScope ["lot", "kind", "hold"] ["lot"] (defScope sLook) := ⟨rfl, rfl, rfl, by decide +kernel, rfl, by decide +kernel, by decide +kernel⟩
theorem scGo : FnScope ["lot"] ["lot"] (defScope sGoods) := ⟨rfl, rfl, rfl, by decide +kernel, rfl, by decide +kernel, by decide +kernel⟩
/-- 0 <= x <= 6 as a value -/
theorem chainV {i j L : Int} {H : Hp} {σ : L2.St} {Q : VK} (h : Q (.bl (decide (i ≤ L ∧ L ≤ j))) H) :
    if decide (i ≤ L) = true then tC (.int j) σ H (fun v H4 => rI0 (fun i j => V.bl (decide (i ≤ j))) (.int L) v H4 Q) else Q (.bl false) H := by
  by_cases c : i ≤ L
  · rw [if_pos (decide_eq_true c)]
    refine ⟨L, j, rfl, rfl, ?_⟩
    show Q (.bl (decide (L ≤ j))) H
    rw [show decide (L ≤ j) = decide (i ≤ L ∧ L ≤ j) by simp [c]]
    exact h
  · rw [if_neg (fun z => c (of_decide_eq_true z))]
    rw [show false = decide (i ≤ L ∧ L ≤ j) by simp [c]]
    exact h
section
variable {P : Program} {w : World} {K : PySem.W.Frag} {mg : Str → Option Value} {base : Heap}
def spIsHold : Sp := fun vs H Q _ => ∃ (a : Addr) (g : Nat) (r : List Int), vs = [.ref a, .int (g : Int)] ∧ H a = some (.tup (r.map V.int)) ∧ r.length ≤ 1000 ∧ 1 ≤ g ∧ ∀ H', Same H H' → Q (.bl (okRow g r)) H'
structure Consts (mg : Str → Option Value) : Prop where
  hold : ∃ t, mg "MOST_HOLD" = some (.int 6 t)
  kinds : ∃ t, mg "MOST_KINDS" = some (.int 5 t)
  goods : ∃ t, mg "MOST_GOODS" = some (.int 3 t)
theorem ok_isHold {f : Addr} {fd : FuncData} {k : Nat} (F : Fun K "is_hold" "is_hold" sIsHold f fd) (B : Bl mg) (M : Consts mg) : FnOk P w K mg base CX0 (k + 1) f fd ["hold", "goods"] spIsHold := by
  obtain ⟨t6, m6⟩ := M.hold
  refine F.ok scIH (fun vs H Q E h => ?_) (fun cdv A outer s H vs Q E hr h => ?_)
  · obtain ⟨a, g, r, rfl, _⟩ := h
    rfl
  · obtain ⟨a, g, r, rfl, ha, hz, g1, q⟩ := h
    refine ⟨_, pss_one (ps_ret (pe_and (pe_cmpR op_eq (pe_callB call_len_seq (by rfl) B.len PySem.boot_len (pa_cons (pv 0) pa_nil)) (pv 1) (nomark _))
      (pe_and (pe_callB (cr_all rfl) (by rfl) B.all (by decide +kernel) (pa_cons (pe_lc (own := [("amount", 2)]) (g := gName 2) (tt := tYes) rfl scIH.nd (pi_tup (pv 0))
          (blkOk_by (own := [("amount", 2)]) (N := ["hold", "goods", "amount"]) (sc := defScope sIsHold) (by decide +kernel)) (fun _ _ _ _ _ => pg_name (i := 2) scIH.nd rfl (Or.inl rfl)) (fun _ _ _ _ _ => pts_nil)
          (fun _ _ _ _ _ => pe_chain op_le op_le pe_int (pv 2) (pe_glob (v := .int 6) rfl m6 ⟨_, rfl⟩))) pa_nil))
        (pe_one (pe_cmpR op_gt (pe_callB (cr_maxT rfl hr.units) (by rfl) B.max (by decide +kernel) (pa_cons (pv 0) pa_nil)) pe_int (nomark _)))))), ?_⟩
    have sA : SqT K H a (r.map V.int) := SqT.of ha
    refine ⟨.ref a, rfl, a, _, rfl, .inr sA, .int (g : Int), rfl, rfl, _, rfl, ?_⟩
    rw [List.length_map]
    refine ite2 (fun c1 => ?_) (fun c1 => ?_)
    · have hl : r.length = g := by
        have := V.int.inj (of_decide_eq_true c1)
        omega
      refine ⟨.ref a, rfl, a, rfl, ⟨_, sA⟩, fun D nD => ?_⟩
      refine lc_tup (K := K) (a := a) (xs := r.map V.int) (fun i H' => Same H H' ∧ H' D = some (.lst (((r.take i).map fun n => decide (0 ≤ n ∧ n ≤ 6)).map V.bl))) ⟨same_new nD, upd_same⟩ (fun i H' _ ⟨sm, _⟩ => SqT.of (sm _ _ ha)) (fun i x H' hx ⟨sm, hD⟩ => ?_) (fun H' ⟨sm, hD⟩ => ?_)
      · obtain ⟨n, hn, rfl⟩ : ∃ n, r[i]? = some n ∧ x = V.int n := by
          rw [List.getElem?_map] at hx
          cases e : r[i]? with
          | none => rw [e] at hx; cases hx
          | some n => rw [e] at hx; exact ⟨n, rfl, (Option.some.inj hx).symm⟩
        refine ⟨rfl, yes (iteT ?_)⟩
        refine ⟨.int n, rfl, 0, n, rfl, rfl, _, rfl, chainV ?_⟩
        refine ⟨_, hD, ?_, same_late sm nD, ?_⟩
        · rw [List.length_map, List.length_map]
          exact small1000 (Nat.le_trans (List.length_take_le' _ _) hz)
        · rw [upd_same, List.take_add_one, hn, List.map_append, List.map_append]
          rfl
      · rw [List.length_map, List.take_length] at hD
        refine ⟨D, _, rfl, SqL.of hD, _, rfl, ?_⟩
        have eall : ((r.map fun n => decide (0 ≤ n ∧ n ≤ 6)).all id) = r.all (fun n => decide (0 ≤ n ∧ n ≤ 6)) := by
          rw [List.all_map]
          rfl
        rw [eall]
        refine ite2 (fun c2 => ?_) (fun c2 => ?_)
        · refine ⟨.ref a, rfl, a, r, rfl, SqT.of (sm _ _ ha), by omega, fun mx hmx hmax => ?_⟩
          refine ⟨mx, 0, rfl, rfl, ?_⟩
          have e : decide ((0 : Int) < mx) = okRow g r := by
            unfold okRow
            rw [decide_eq_true hl, c2, Bool.true_and, Bool.true_and]
            by_cases z : 0 < mx
            · rw [decide_eq_true z, any_pos.mpr ⟨mx, hmx, z⟩]
            · rw [decide_eq_false z]
              cases y : r.any (fun n => decide (0 < n)) with
              | false => rfl
              | true =>
                obtain ⟨n, hn, h0⟩ := any_pos.mp y
                have := hmax n hn
                omega
          have q1 := q H' sm
          rw [← e] at q1
          exact q1
        · have e : okRow g r = false := by
            unfold okRow
            rw [Bool.eq_false_iff.mpr c2, Bool.false_and, Bool.and_false]
          have q1 := q H' sm
          rw [e] at q1
          exact q1
    · have e : okRow g r = false := by
        unfold okRow
        rw [decide_eq_false (fun z => c1 (decide_eq_true (by rw [z]))), Bool.false_and]
      have q1 := q H (Same.refl _)
      rw [e] at q1
      exact q1
end
theorem flaw_ok {ll : List (List Int)} (h : flaw ll = none) : 1 ≤ ll.length ∧ ll.length ≤ 5 ∧ 1 ≤ width ll ∧ width ll ≤ 3 := by
  unfold flaw at h
  by_cases c : 1 ≤ ll.length ∧ ll.length ≤ 5 ∧ 1 ≤ width ll ∧ width ll ≤ 3
  · exact c
  · rw [if_neg c] at h
    cases h
theorem flaw_rows {ll : List (List Int)} (h : flaw ll = none) : ∀ r ∈ ll, r.length = width ll ∧ ∀ n ∈ r, 0 ≤ n ∧ n ≤ 6 := by
  have h0 := flaw_ok h
  unfold flaw at h
  rw [if_pos ⟨h0.1, h0.2.1, h0.2.2.1, h0.2.2.2⟩] at h
  unfold flawIn at h
  have e : ll.findIdx? (fun r => !okRow (width ll) r) = none := by
    cases z : ll.findIdx? (fun r => !okRow (width ll) r) with
    | none => rfl
    | some i => rw [z] at h; cases h
  intro r hr
  have := List.findIdx?_eq_none_iff.mp e r hr
  have b : okRow (width ll) r = true := by
    cases z : okRow (width ll) r with
    | true => rfl
    | false => rw [z] at this; cases this
  obtain ⟨o1, o2, _⟩ := okRow_iff.mp b
  exact ⟨o1, o2⟩
theorem nilA {σ : L2.St} {H : Hp} {Q : List V → Hp → Prop} (h : Q [] H) : tNil σ H Q := h
/-- i <= x <= e, e any expression -/
theorem chainE {i j L : Int} {te : TE} {σ : L2.St} {H : Hp} {Q : Bool → Hp → Prop} (hte : ∀ Q' : VK, Q' (.int j) H → te σ H Q') (h : Q (decide (i ≤ L ∧ L ≤ j)) H) :
    if decide (i ≤ L) = true then te σ H (fun v H4 => rI0 (fun i j => V.bl (decide (i ≤ j))) (.int L) v H4 (fun x H' => ∃ k, x = .bl k ∧ Q k H')) else ∃ k, V.bl false = V.bl k ∧ Q k H := by
  by_cases c : i ≤ L
  · rw [if_pos (decide_eq_true c)]
    refine hte _ ⟨L, j, rfl, rfl, _, rfl, ?_⟩
    rw [show decide (L ≤ j) = decide (i ≤ L ∧ L ≤ j) by simp [c]]
    exact h
  · rw [if_neg (fun z => c (of_decide_eq_true z))]
    refine ⟨false, rfl, ?_⟩
    rw [show false = decide (i ≤ L ∧ L ≤ j) by simp [c]]
    exact h
/-- i <= x < e -/
theorem chainF {i j L : Int} {te : TE} {σ : L2.St} {H : Hp} {Q : Bool → Hp → Prop} (hte : ∀ Q' : VK, Q' (.int j) H → te σ H Q') (h : Q (decide (i ≤ L ∧ L < j)) H) :
    if decide (i ≤ L) = true then te σ H (fun v H4 => rI0 (fun i j => V.bl (decide (i < j))) (.int L) v H4 (fun x H' => ∃ k, x = .bl k ∧ Q k H')) else ∃ k, V.bl false = V.bl k ∧ Q k H := by
  by_cases c : i ≤ L
  · rw [if_pos (decide_eq_true c)]
    refine hte _ ⟨L, j, rfl, rfl, _, rfl, ?_⟩
    rw [show decide (L < j) = decide (i ≤ L ∧ L < j) by simp [c]]
    exact h
  · rw [if_neg (fun z => c (of_decide_eq_true z))]
    refine ⟨false, rfl, ?_⟩
    rw [show false = decide (i ≤ L ∧ L < j) by simp [c]]
    exact h
end HL

namespace HL
open PySem PySem.Spec PyProof.Rows L2
open C8 (pss_cut)
/-! ### tuples cut and joined -/
theorem sz1000 {n : Nat} (h : n ≤ 1000) : n ≤ sizeLine := Nat.le_of_lt (small1000 h)
theorem cat_read {K : PySem.W.Frag} {H : Hp} {a b : Addr} {xs ys : List V} {Q : VK} (ha : H a = some (.tup xs)) (hb : H b = some (.tup ys)) (hz : xs.length + ys.length ≤ 1000)
    (q : ∀ p H', Same H H' → H' p = some (.tup (xs ++ ys)) → Q (.ref p) H') : rCatA K (.ref a) (.ref b) H Q := by
  refine ⟨a, b, xs, ys, rfl, rfl, SqT.of ha, SqT.of hb, sz1000 hz, fun e => ?_, fun _ e => ?_, fun _ _ p np => q p _ (same_new np) upd_same⟩
  · subst e
    exact q b H (Same.refl _) hb
  · subst e
    exact q a H (Same.refl _) (by rw [List.append_nil]; exact ha)
theorem slice_read {K : PySem.W.Frag} {H : Hp} {a : Addr} {xs : List V} {lo hi : Option Int} {Q : VK} (ha : H a = some (.tup xs)) (q : ∀ p H', Same H H' → H' p = some (.tup (cutV xs lo hi)) → Q (.ref p) H') : rSlA K (.ref a) lo hi H Q := by
  refine ⟨a, xs, rfl, SqT.of ha, fun e => ?_, fun _ p np => q p _ (same_new np) upd_same⟩
  refine q a H (Same.refl _) ?_
  unfold cutV
  rw [e.1, e.2, List.drop_zero, Nat.sub_zero, List.take_length]
  exact ha
theorem cut_ex (L : Nat) (lo hi : Option Int) : ∃ n m : Nat, ∀ {α : Type} (f : α → V) (l : List α), l.length = L → cutV (l.map f) lo hi = ((l.drop n).take m).map f :=
  ⟨HT.sIx L 0 lo, HT.sIx L L hi - HT.sIx L 0 lo, fun f l h => by
    unfold cutV
    rw [List.length_map, h, List.map_take, List.map_drop]⟩
/-- a tuple of ints, a tuple of rows -/
def IntsAt (H : Hp) (p : Addr) (ns : List Int) : Prop := H p = some (.tup (ns.map V.int))
def RowsAt (H : Hp) (p : Addr) (as : List Addr) (ll : List (List Int)) : Prop := H p = some (.tup (as.map V.ref)) ∧ Rows H as ll
theorem IntsAt.same {H H' : Hp} {p : Addr} {ns : List Int} (h : IntsAt H p ns) (s : Same H H') : IntsAt H' p ns := s _ _ h
theorem RowsAt.same {H H' : Hp} {p : Addr} {as : List Addr} {ll : List (List Int)} (h : RowsAt H p as ll) (s : Same H H') : RowsAt H' p as ll := ⟨s _ _ h.1, h.2.same s⟩
theorem RowsAt.kp {H H' : Hp} {f c p : Addr} {as : List Addr} {ll : List (List Int)} (h : RowsAt H p as ll) (F : FeedAt c H f) (k : Kp f H H') : RowsAt H' p as ll := ⟨k _ _ (F.tup h.1) h.1, h.2.kp F k⟩
theorem RowsAt.lot {H : Hp} {p : Addr} {as : List Addr} {ll : List (List Int)} (h : RowsAt H p as ll) : LotAt H p ll := ⟨as, h.1, h.2⟩
theorem IntsAt.kp {H H' : Hp} {f c p : Addr} {ns : List Int} (h : IntsAt H p ns) (F : FeedAt c H f) (k : Kp f H H') : IntsAt H' p ns := k _ _ (F.tup h) h
theorem cat_ints {K : PySem.W.Frag} {H : Hp} {a b : Addr} {xs ys : List Int} {Q : VK} (ha : IntsAt H a xs) (hb : IntsAt H b ys) (hz : xs.length + ys.length ≤ 1000)
    (q : ∀ p H', Same H H' → IntsAt H' p (xs ++ ys) → Q (.ref p) H') : rCatA K (.ref a) (.ref b) H Q :=
  cat_read ha hb (by rw [List.length_map, List.length_map]; exact hz) fun p H' s h => q p H' s (by unfold IntsAt; rw [List.map_append]; exact h)
theorem cat_rows {K : PySem.W.Frag} {H : Hp} {a b : Addr} {as bs : List Addr} {ll mm : List (List Int)} {Q : VK} (ha : RowsAt H a as ll) (hb : RowsAt H b bs mm) (hz : ll.length + mm.length ≤ 1000)
    (q : ∀ p H', Same H H' → RowsAt H' p (as ++ bs) (ll ++ mm) → Q (.ref p) H') : rCatA K (.ref a) (.ref b) H Q :=
  cat_read ha.1 hb.1 (by rw [List.length_map, List.length_map, ha.2.len, hb.2.len]; exact hz) fun p H' s h => q p H' s ⟨by rw [List.map_append]; exact h, (ha.2.same s).app (hb.2.same s)⟩
theorem slice_ints {K : PySem.W.Frag} {H : Hp} {a : Addr} {xs : List Int} {lo hi : Option Int} {Q : VK} (ha : IntsAt H a xs) (q : ∀ p H' n m, Same H H' → IntsAt H' p ((xs.drop n).take m) → Q (.ref p) H') : rSlA K (.ref a) lo hi H Q := by
  obtain ⟨n, m, e⟩ := cut_ex xs.length lo hi
  exact slice_read ha fun p H' s h => q p H' n m s (by unfold IntsAt; rw [← e V.int xs rfl]; exact h)
theorem slice_rows {K : PySem.W.Frag} {H : Hp} {a : Addr} {as : List Addr} {ll : List (List Int)} {lo hi : Option Int} {Q : VK} (ha : RowsAt H a as ll)
    (q : ∀ p H' n m, Same H H' → RowsAt H' p ((as.drop n).take m) ((ll.drop n).take m) → Q (.ref p) H') : rSlA K (.ref a) lo hi H Q := by
  obtain ⟨n, m, e⟩ := cut_ex as.length lo hi
  exact slice_read ha.1 fun p H' s h => q p H' n m s ⟨by rw [← e V.ref as rfl]; exact h, ((ha.2.same s).drop n).take m⟩
theorem len_cut {α : Type} (l : List α) (n m : Nat) : ((l.drop n).take m).length ≤ l.length := by
  rw [List.length_take, List.length_drop]
  omega
theorem mem_cut {α : Type} {l : List α} {n m : Nat} {x : α} (h : x ∈ (l.drop n).take m) : x ∈ l := List.mem_of_mem_drop (List.mem_of_mem_take h)
theorem one_row {H : Hp} {t r : Addr} {row : List Int} (h : IntsAt H r row) (nt : H t = none) : RowsAt (upd H t (.tup [.ref r])) t [r] [row] := ⟨upd_same, ⟨(same_new nt) _ _ h, True.intro⟩⟩
theorem sz_1 (v : V) : [v].length ≤ sizeLine := by
  show 1 ≤ sizeLine
  decide
theorem noPart {σ : L2.St} {H : Hp} {Q : Option Int → Hp → Prop} (h : Q none H) : tNoPart σ H Q := h
end HL

set_option pp.maxSteps 3000
namespace HL
open PySem PySem.Spec PyProof.Rows L2
open C8 (pss_cut)
open RZ (pi_zipA ItzT iZipA)
abbrev G30 : Int := 1000000000000000000000000000000
section
variable {prog : Program} {w : World} {A : Around} {E : Value → Shared → Prop} {s : Shared} {a b : Int} {t u : Tok}
theorem imul_int {Q : Value → Shared → Prop} (h : Q (.int (a * b) s.toks) { s with toks := s.toks + 1 }) (hm : IntMulOk a b) : wpAny (model prog w) A (inplaceOp .Mult (.int a t) (.int b u)) Q E s :=
  inplaceOp_gives (op := .Mult) (typeIs_int s a t) (typeIs_int s b u) F.noI_int_mul F.fills_int_mul F.slot_int_mul F.entry_int_mul (F.args_int_mul_2 _ _) (gives_int_mul a b t u hm) trivial h
end
/-- x *= y -/
def ipM : TIp := fun x y H Q => ∃ i j, x = .int i ∧ y = .int j ∧ CMul i j ∧ Q (.int (i * j)) H
theorem ip_mul {X : Cx} : PIp X .Mult ipM := by
  intro pins s σ H x y v u Q I r1 r2 h
  obtain ⟨i, j, e1, e2, hc, q⟩ := h
  subst e1; subst e2
  obtain ⟨t, rfl⟩ := r1
  obtain ⟨t', rfl⟩ := r2
  exact imul_int ⟨.int _, H, I.tok _, ⟨_, rfl⟩, q⟩ hc.ok
def boxI (b : List Int) : Int := b.foldl (fun x a => x * (a + 1)) 1
theorem box_from : ∀ {b : List Int} {x : Int}, 1 ≤ x → (∀ n ∈ b, 0 ≤ n) → x ≤ b.foldl (fun x a => x * (a + 1)) x
  | [], x, _, _ => Int.le_refl _
  | a :: b, x, hx, hb => by
    have a0 := hb a List.mem_cons_self
    have h1 : x * 1 ≤ x * (a + 1) := Int.mul_le_mul_of_nonneg_left (by omega) (by omega)
    rw [Int.mul_one] at h1
    exact Int.le_trans h1 (box_from (by omega) fun n hn => hb n (List.mem_cons_of_mem _ hn))
theorem box_take {b : List Int} {i : Nat} (hb : ∀ n ∈ b, 0 ≤ n) : 1 ≤ boxI (b.take i) ∧ boxI (b.take i) ≤ boxI b := by
  have h1 : 1 ≤ boxI (b.take i) := box_from (Int.le_refl _) fun n hn => hb n (List.mem_of_mem_take hn)
  refine ⟨h1, ?_⟩
  have e : boxI b = (b.drop i).foldl (fun x a => x * (a + 1)) (boxI (b.take i)) := by
    unfold boxI
    rw [← List.foldl_append, List.take_append_drop]
  rw [e]
  exact box_from h1 fun n hn => hb n (List.mem_of_mem_drop hn)
theorem scBx : FnScope ["bill", "box", "amount"] ["bill"] (defScope sBox) := ⟨rfl, rfl, rfl, by decide +kernel, rfl, by decide +kernel, by decide +kernel⟩
theorem scBt : FnScope ["lot", "bill"] ["lot", "bill"] (defScope sBoth) := ⟨rfl, rfl, rfl, by decide +kernel, rfl, by decide +kernel, by decide +kernel⟩
theorem scLe : FnScope ["row", "other", "times", "number", "taken"] ["row", "other", "times"] (defScope sLess) := ⟨rfl, rfl, rfl, by decide +kernel, rfl, by decide +kernel, by decide +kernel⟩
section
variable {P : Program} {w : World} {K : PySem.W.Frag} {mg : Str → Option Value} {base : Heap}
theorem okRow_all {ll : List (List Int)} (h : flaw ll = none) : ∀ r ∈ ll, okRow (width ll) r = true := fun r hr => by
  have h0 := flaw_ok h
  unfold flaw at h
  rw [if_pos ⟨h0.1, h0.2.1, h0.2.2.1, h0.2.2.2⟩] at h
  unfold flawIn at h
  have e : ll.findIdx? (fun r => !okRow (width ll) r) = none := by
    cases z : ll.findIdx? (fun r => !okRow (width ll) r) with
    | none => rfl
    | some i => rw [z] at h; cases h
  have := List.findIdx?_eq_none_iff.mp e r hr
  cases z : okRow (width ll) r with
  | true => rfl
  | false => rw [z] at this; cases this
/-! ### a lot that is one -/
def spLook0 : Sp := fun vs H Q _ => ∃ (p : Addr) (as : List Addr) (ll : List (List Int)), vs = [.ref p] ∧ RowsAt H p as ll ∧ flaw ll = none ∧ ∀ H', Same H H' → Q .non H'
theorem ok_look0 {f : Addr} {fd : FuncData} (F : Fun K "look_lot" "look_lot" sLook f fd) (B : Bl mg) (M : Consts mg) (CH : Cal P w K mg base CX0 1 "is_hold" ["hold", "goods"] spIsHold) : FnOk P w K mg base CX0 2 f fd ["lot"] spLook0 := by
  obtain ⟨t5, m5⟩ := M.kinds
  obtain ⟨t3, m3⟩ := M.goods
  obtain ⟨fH, fdH, GH, gH, kH, bH⟩ := CH.ex
  refine F.ok scLk (fun vs H Q E h => ?_) (fun cdv A outer s H vs Q E hr h => ?_)
  · obtain ⟨p, as, ll, rfl, _⟩ := h
    rfl
  · obtain ⟨p, as, ll, rfl, hL, ef, q0⟩ := h
    have hok := flaw_ok ef
    have hrows := flaw_rows ef
    have hlen := hL.2.len
    refine ⟨_, pss_cons (ps_if (PW.pt (pw_or (pt_not (pt_chain op_le op_le pe_int (pe_callB call_len_seq (by rfl) B.len PySem.boot_len (pa_cons (pv 0) pa_nil)) (pe_glob (v := .int 5) rfl m5 ⟨_, rfl⟩)))
          (pw_or1 (pt_not (pt_chain op_le op_le pe_int (pe_callB call_len_seq (by rfl) B.len PySem.boot_len (pa_cons (pe_ix ix_tup (pv 0) pe_int (fun _ _ => rfl)) pa_nil)) (pe_glob (v := .int 3) rfl m3 ⟨_, rfl⟩)))))) pss_never pss_nil)
      (pss_one (ps_for PassesOwn.never rfl (pi_enumT (by rfl) B.enumerate (pa_cons (pv 0) pa_nil)) (pg_tup rfl (pgs_cons (pg_name (i := 1) scLk.nd rfl (.inl rfl)) (pgs_cons (pg_name (i := 2) scLk.nd rfl (.inl rfl)) pgs_nil)))
        (pss_one (ps_if (pt_not (pt_val (pe_call GH hr (by rfl) gH kH bH .nil pass0 (pa_cons (pv 2) (pa_cons (pe_callB call_len_seq (by rfl) B.len PySem.boot_len (pa_cons (pe_ix ix_tup (pv 0) pe_int (fun _ _ => rfl)) pa_nil)) pa_nil))))) pss_never pss_nil)))), ?_⟩
    have sP : SqT K H p (as.map V.ref) := SqT.of hL.1
    obtain ⟨a0, ha0, hh0, hw⟩ := hL.2.head hok.1
    have at0 : atI (as.map V.ref) 0 = some (.ref a0) := atI_nat (j := 0) (by rw [List.getElem?_map, ha0]; rfl)
    refine ⟨.ref p, rfl, p, _, rfl, .inr sP, 1, _, rfl, rfl, _, rfl, chainI ?_⟩
    rw [List.length_map, hlen, decide_eq_true (show (1 : Int) ≤ (ll.length : Nat) ∧ ((ll.length : Nat) : Int) ≤ 5 by omega)]
    refine iteF ?_
    refine ⟨.ref p, rfl, p, _, 0, .ref a0, rfl, rfl, sP, at0, a0, _, rfl, .inr (SqT.of hh0), 1, _, rfl, rfl, _, rfl, chainI ?_⟩
    rw [List.length_map, hw, decide_eq_true (show (1 : Int) ≤ (width ll : Nat) ∧ ((width ll : Nat) : Int) ≤ 3 by omega)]
    refine iteF ?_
    refine ⟨.ref p, rfl, p, _, rfl, sP, ?_⟩
    refine ⟨fun i m σ H' => i + m = as.length ∧ Same H H' ∧ (∃ y1 y2, σ = [some (.ref p), y1, y2]), ⟨as.length, by omega, Same.refl _, ⟨none, none, rfl⟩⟩, fun i m σ H' hW => ?_⟩
    obtain ⟨em, sm, ⟨y1, y2, rfl⟩⟩ := hW
    have sP' : SqT K H' p (as.map V.ref) := SqT.of (sm _ _ hL.1)
    by_cases hi : i < as.length
    · have hai : as[i]? = some as[i] := List.getElem?_eq_getElem hi
      obtain ⟨r, hr1, hr2⟩ := hL.2.at hai
      have g1 : (as.map V.ref)[i]? = some (.ref as[i]) := by rw [List.getElem?_map, hai]; rfl
      refine .inr ⟨⟨_, _, sP', g1⟩, fun σ' H2 => Same H H2 ∧ (∃ y1 y2, σ' = [some (.ref p), y1, y2]), fun σ' H2 hN => ⟨m - 1, by omega, by omega, hN⟩, fun x H2 hy => ?_⟩
      obtain ⟨T2, x2, rfl, nT, rfl, f2⟩ := hy
      have ex2 : x2 = .ref as[i] := Option.some.inj ((f2 _ sP').symm.trans g1)
      subst ex2
      have s3 : Same H (upd H' T2 (.tup [.int (i : Nat), .ref as[i]])) := sm.trans (same_new nT)
      refine ⟨T2, _, rfl, SqT.of upd_same, rfl, _, _, rfl, _, _, rfl, rfl, ?_⟩
      refine ⟨.ref as[i], rfl, .ref p, rfl, p, _, 0, .ref a0, rfl, rfl, SqT.of (s3 _ _ hL.1), at0, a0, _, rfl, .inr (SqT.of (s3 _ _ hh0)), as[i], width ll, r, ?_, s3 _ _ hr2, by have := (hrows r (List.mem_of_getElem? hr1)).1; omega, hok.2.2.1, fun H4 s4 => ⟨_, rfl, ?_⟩⟩
      · rw [List.length_map, hw]
        rfl
      · rw [okRow_all ef r (List.mem_of_getElem? hr1)]
        exact iteF ⟨s3.trans s4, ⟨_, _, rfl⟩⟩
    · exact .inl ⟨⟨_, sP', by rw [List.length_map]; omega⟩, q0 H' sm⟩
def spGoods0 : Sp := fun vs H Q _ => ∃ (p : Addr) (as : List Addr) (ll : List (List Int)), vs = [.ref p] ∧ RowsAt H p as ll ∧ flaw ll = none ∧ ∀ H', Same H H' → Q (.int (width ll : Nat)) H'
theorem ok_goods0 {f : Addr} {fd : FuncData} (F : Fun K "goods_of" "goods_of" sGoods f fd) (B : Bl mg) (CL : Cal P w K mg base CX0 2 "look_lot" ["lot"] spLook0) : FnOk P w K mg base CX0 3 f fd ["lot"] spGoods0 := by
  obtain ⟨fL, fdL, GL, gL, kL, bL⟩ := CL.ex
  refine F.ok scGo (fun vs H Q E h => ?_) (fun cdv A outer s H vs Q E hr h => ?_)
  · obtain ⟨p, as, ll, rfl, _⟩ := h
    rfl
  · obtain ⟨p, as, ll, rfl, hL, ef, q0⟩ := h
    refine ⟨_, pss_cons (ps_expr (pe_call GL hr (by rfl) gL kL bL .nil pass0 (pa_cons (pv 0) pa_nil)))
      (pss_one (ps_ret (pe_callB call_len_seq (by rfl) B.len PySem.boot_len (pa_cons (pe_ix ix_tup (pv 0) pe_int (fun _ _ => rfl)) pa_nil)))), ?_⟩
    refine ⟨.ref p, rfl, p, as, ll, rfl, hL, ef, fun H' sm => ?_⟩
    obtain ⟨a0, ha0, hh0, hw⟩ := (hL.same sm).2.head (flaw_ok ef).1
    have at0 : atI (as.map V.ref) 0 = some (.ref a0) := atI_nat (j := 0) (by rw [List.getElem?_map, ha0]; rfl)
    refine ⟨.ref p, rfl, p, _, 0, .ref a0, rfl, rfl, SqT.of (hL.same sm).1, at0, a0, _, rfl, .inr (SqT.of hh0), ?_⟩
    rw [List.length_map, hw]
    exact q0 H' sm
def spBox0 : Sp := fun vs H Q _ => ∃ (b : Addr) (row : List Int), vs = [.ref b] ∧ IntsAt H b row ∧ row.length ≤ 100 ∧ (∀ n ∈ row, 0 ≤ n) ∧ boxI row ≤ 4000 ∧ Q .non H
theorem ok_box0 {f : Addr} {fd : FuncData} {k : Nat} (F : Fun K "look_box" "look_box" sBox f fd) (mB : ∃ t, mg "MOST_BOX" = some (.int 4000 t)) : FnOk P w K mg base CX0 (k + 1) f fd ["bill"] spBox0 := by
  obtain ⟨tB, mB⟩ := mB
  refine F.ok scBx (fun vs H Q E h => ?_) (fun cdv A outer s H vs Q E hr h => ?_)
  · obtain ⟨b, row, rfl, _⟩ := h
    rfl
  · obtain ⟨b, row, rfl, hB, hz, h0, hx, q⟩ := h
    refine ⟨_, (pss_cons (ps_set (i := 1) scBx.nd rfl (.inl rfl) pe_int)
      (pss_cons (ps_for PassesOwn.never rfl (pi_tup (pv 0)) (pg_name (i := 2) scBx.nd rfl (.inl rfl))
      (pss_one (ps_aug (i := 1) scBx.nd rfl (.inl rfl) (pe_op op_add (pv 2) pe_int) ip_mul)))
      (pss_one (ps_if (pt_cmpR op_gt (pv 1) (pe_glob (v := .int 4000) rfl mB ⟨_, rfl⟩) (nomark _)) pss_never pss_nil)))), ?_⟩
    refine ⟨.ref b, rfl, b, rfl, ⟨_, SqT.of hB⟩, ?_⟩
    refine for_it (walk_tup (K := K) (a := b) (xs := row.map V.int)) (fun i σ H2 => H2 = H ∧ ∃ y2, σ = [some (.ref b), some (.int (boxI (row.take i))), y2]) ⟨rfl, none, rfl⟩ (fun i σ H2 _ ⟨e, _⟩ => by rw [e]; exact SqT.of hB) (fun i x σ H2 H3 hi ⟨eH, y2, eσ⟩ ⟨eY, hx'⟩ => ?_) (fun σ H2 ⟨eH, y2, eσ⟩ => ?_)
    · subst eH eY eσ
      rw [List.length_map] at hi
      have hri : row[i]? = some row[i] := List.getElem?_eq_getElem hi
      have ex : x = .int row[i] := by
        rw [List.getElem?_map, hri] at hx'
        exact (Option.some.inj hx').symm
      subst ex
      have n0 := h0 _ (List.mem_of_getElem? hri)
      have bt := box_take (b := row) (i := i) h0
      refine ⟨_, rfl, _, rfl, row[i], 1, rfl, rfl, _, _, rfl, rfl, .inl ⟨by omega, by omega⟩, rfl, some (.int row[i]), ?_⟩
      have e : boxI (row.take (i + 1)) = boxI (row.take i) * (row[i] + 1) := by
        rw [List.take_add_one, hri]
        unfold boxI
        rw [List.foldl_append]
        rfl
      rw [e]
      rfl
    · subst eH eσ
      rw [List.length_map, List.take_length]
      refine ⟨_, rfl, _, _, rfl, rfl, _, rfl, ?_⟩
      rw [decide_eq_false (by omega)]
      exact iteF q
/-! ### less -/
theorem zipI_at {xs ys : List Int} {i : Nat} {x y : Int} (h1 : xs[i]? = some x) (h2 : ys[i]? = some y) : (xs.zip ys)[i]? = some (x, y) := by
  rw [List.getElem?_zip_eq_some]
  exact ⟨h1, h2⟩
def spLess : Sp := fun vs H Q _ => ∃ (a b : Addr) (xs ys : List Int) (k : Int), vs = [.ref a, .ref b, .int k] ∧ IntsAt H a xs ∧ IntsAt H b ys ∧ xs.length = ys.length ∧ xs.length ≤ 100 ∧ -1000 ≤ k ∧ k ≤ 1000 ∧ ∀ H' p, Same H H' → IntsAt H' p (subR xs ys k) → Q (.ref p) H'
theorem ok_less {f : Addr} {fd : FuncData} {k : Nat} {dvs : List V} (F : FunD K "less" "less" (defArgs sLess) (defBody sLess) (defScope sLess) dvs [] f fd) (B : Bl mg) (mz : mg "zip" = none) : FnOk P w K mg base CX0 (k + 1) f fd ["row", "other", "times"] spLess := by
  refine F.ok scLe (fun vs H Q E h => ?_) (fun cdv A outer s H vs Q E hr h => ?_)
  · obtain ⟨a, b, xs, ys, k, rfl, _⟩ := h
    rfl
  · obtain ⟨a, b, xs, ys, k, rfl, hA, hB, hl, hz, k1, k2, q⟩ := h
    refine ⟨_, pss_one (ps_ret (pe_callTy call_tuple_of (by rfl) B.tuple (by decide +kernel) (pa_cons (pe_lc (own := [("number", 3), ("taken", 4)]) (g := gTup K 2 (gCons (gName 3) (gCons (gName 4) gNil))) (tt := tYes) rfl scLe.nd (pi_zipA (by rfl) mz (pa_cons (pv 0) (pa_cons (pv 1) pa_nil)))
        (blkOk_by (own := [("number", 3), ("taken", 4)]) (N := ["row", "other", "times", "number", "taken"]) (sc := defScope sLess) (by decide +kernel)) (fun _ _ _ _ _ => (pg_tup rfl (pgs_cons (pg_name (i := 3) scLe.nd rfl (Or.inl rfl)) (pgs_cons (pg_name (i := 4) scLe.nd rfl (Or.inl rfl)) pgs_nil)))) (fun _ _ _ _ _ => pts_nil)
        (fun _ _ _ _ _ => (pe_op op_sub (pv 3) (pe_op op_mul (pv 2) (pv 4))))) pa_nil))), ?_⟩
    refine ⟨.ref a, rfl, .ref b, rfl, a, b, _, _, rfl, .inr ⟨SqT.of hA, SqT.of hB, fun D nD => ?_⟩⟩
    refine ⟨fun i m H' => i + m = xs.length ∧ Same H H' ∧ H' D = some (.lst ((((xs.zip ys).take i).map fun q => q.1 - k * q.2).map V.int)), ⟨xs.length, by omega, same_new nD, upd_same⟩, fun i m H' hW => ?_⟩
    obtain ⟨em, sm, hD⟩ := hW
    have sA : SqT K H' a (xs.map V.int) := SqT.of (hA.same sm)
    have sB : SqT K H' b (ys.map V.int) := SqT.of (hB.same sm)
    by_cases hi : i < xs.length
    · have hx : xs[i]? = some (xs[i]'hi) := List.getElem?_eq_getElem hi
      have hy : ys[i]? = some (ys[i]'(by omega)) := List.getElem?_eq_getElem (by omega)
      have g1 : (xs.map V.int)[i]? = some (.int (xs[i]'hi)) := by rw [List.getElem?_map, hx]; rfl
      have g2 : (ys.map V.int)[i]? = some (.int (ys[i]'(by omega))) := by rw [List.getElem?_map, hy]; rfl
      refine .inr ⟨⟨_, _, _, _, sA, sB, g1, g2⟩, fun H2 => Same H H2 ∧ H2 D = some (.lst ((((xs.zip ys).take (i + 1)).map fun q => q.1 - k * q.2).map V.int)), fun H2 hN => ⟨m - 1, by omega, by omega, hN⟩, fun x H2 hyy => ?_⟩
      obtain ⟨T, x1, x2, rfl, nT, rfl, f1, f2⟩ := hyy
      have ex1 := Option.some.inj ((f1 _ sA).symm.trans g1)
      have ex2 := Option.some.inj ((f2 _ sB).symm.trans g2)
      subst ex1 ex2
      have sT := same_new (o := .tup [V.int (xs[i]'hi), V.int (ys[i]'(by omega))]) nT
      refine ⟨T, _, rfl, SqT.of upd_same, rfl, _, _, rfl, _, _, rfl, rfl, rfl, yes (iteT ?_)⟩
      refine ⟨_, rfl, .int k, rfl, _, rfl, k, _, rfl, rfl, .inl ⟨by omega, by omega⟩, _, _, rfl, rfl, _, sT _ _ hD, ?_, same_late (sm.trans sT) nD, ?_⟩
      · rw [List.length_map, List.length_map]
        exact small1000 (Nat.le_trans (List.length_take_le _ _) (by omega))
      · rw [upd_same, List.take_add_one, zipI_at hx hy, List.map_append, List.map_append]
        rfl
    · refine .inl ⟨⟨_, _, sA, sB, .inl ?_⟩, ?_⟩
      · rw [List.length_map]
        omega
      · have e : (xs.zip ys).take i = xs.zip ys := List.take_of_length_le (by rw [List.length_zip]; omega)
        rw [e] at hD
        exact ⟨D, _, rfl, .inl ⟨SqL.of hD, fun t nt => q _ t (sm.trans (same_new nt)) upd_same⟩⟩
end
end HL

set_option pp.maxSteps 3000
namespace HL
open PySem PySem.Spec PyProof.Rows L2
open C8 (pss_cut)
open LamX (CodeO Tabs TabS TabB ExtN tLam LamS lamS_by lamCx lamEnv codeO_ne)
abbrev sBillInit : Stmt := inClass (topS 3) 0
/-- what is known of a refusal's class whose __init__ stores a word and a field -/
structure Cls2 (K : PySem.W.Frag) (C : Addr) (f : Str) : Prop where
  ox : OexC K C
  noW : PySem.W.findIn K (.ref C) "word" = some none
  noF : PySem.W.findIn K (.ref C) f = some none
abbrev exF (f wd : Str) (v : V) : List (Str × V) := [(f, v), ("word", .str wd)]
def spInit2 (C : Addr) (f wd : Str) : Sp := fun vs H Q _ => ∃ (a : Addr) (v : V), vs = [.ref a, v] ∧ H a = some (exo a C none) ∧
  ∀ dx, H dx = none → dx ≠ a → Q .non (upd (upd (upd H dx (exd dx [("word", .str wd)])) a (exo a C (some dx))) dx (exd dx (exF f wd v)))
abbrev sManyInit : Stmt := inClass (topS 4) 0
theorem scMI : FnScope ["self", "most"] ["self", "most"] (defScope sManyInit) := ⟨rfl, rfl, rfl, by decide +kernel, rfl, by decide +kernel, by decide +kernel⟩
theorem scBI : FnScope ["self", "good"] ["self", "good"] (defScope sBillInit) := ⟨rfl, rfl, rfl, by decide +kernel, rfl, by decide +kernel, by decide +kernel⟩
section
variable {P : Program} {w : World} {K : PySem.W.Frag} {mg : Str → Option Value} {base : Heap}
theorem ok_billInit {f : Addr} {fd : FuncData} {k : Nat} {C : Addr} (F : Fun K "__init__" "BadBill.__init__" sBillInit f fd) (T : Cls2 K C "good") : FnOk P w K mg base CX0 (k + 1) f fd ["self", "good"] (spInit2 C "good" "bad bill") := by
  refine F.ok scBI (fun vs H Q E h => ?_) (fun cdv A outer s H vs Q E hr h => ?_)
  · obtain ⟨a, v, rfl, _⟩ := h
    rfl
  · obtain ⟨a, v, rfl, ha, q⟩ := h
    refine ⟨_, pss_cons (ps_ost (pv 0) pe_str) (pss_one (ps_ost (pv 0) (pv 1))), ?_⟩
    refine ⟨.ref a, rfl, a, C, rfl, T.ox, T.noW, .inl ⟨ha, fun dx nd ne => ?_⟩⟩
    refine ⟨v, rfl, .ref a, rfl, a, C, rfl, T.ox, T.noF, .inr ⟨dx, _, upd_same, ?_, (by show 1 ≤ 900; decide), q dx nd ne⟩⟩
    rw [upd_ne ne, upd_same]
theorem ok_manyInit {f : Addr} {fd : FuncData} {k : Nat} {C : Addr} (F : Fun K "__init__" "TooMany.__init__" sManyInit f fd) (T : Cls2 K C "most") : FnOk P w K mg base CX0 (k + 1) f fd ["self", "most"] (spInit2 C "most" "too many") := by
  refine F.ok scMI (fun vs H Q E h => ?_) (fun cdv A outer s H vs Q E hr h => ?_)
  · obtain ⟨a, v, rfl, _⟩ := h
    rfl
  · obtain ⟨a, v, rfl, ha, q⟩ := h
    refine ⟨_, pss_cons (ps_ost (pv 0) pe_str) (pss_one (ps_ost (pv 0) (pv 1))), ?_⟩
    refine ⟨.ref a, rfl, a, C, rfl, T.ox, T.noW, .inl ⟨ha, fun dx nd ne => ?_⟩⟩
    refine ⟨v, rfl, .ref a, rfl, a, C, rfl, T.ox, T.noF, .inr ⟨dx, _, upd_same, ?_, (by show 1 ≤ 900; decide), q dx nd ne⟩⟩
    rw [upd_ne ne, upd_same]
/-- the heap behind a refusal that was made -/
theorem xd_same {H : Hp} {a dx : Addr} {o1 o2 o3 o4 o5 : HO} (na : H a = none) (nd : H dx = none) : Same H (upd (del (upd (upd (upd (upd H a o1) dx o2) a o3) dx o4) a) dx o5) := fun b o e => by
  have n1 := ne_of_none e na
  have n2 := ne_of_none e nd
  rw [upd_ne n2, del_ne n1, upd_ne n2, upd_ne n1, upd_ne n2, upd_ne n1]
  exact e
/-- refused with the class at C, field f holding v -/
def Refd (C : Addr) (f wd : Str) (v : V) (H : Hp) (E : XK) : Prop := ∀ H' d, Same H H' → H d = none → H' d = some (.xd (exF f wd v)) → E (.ref C) (some d) H'
theorem Refd.same {C : Addr} {f wd : Str} {v : V} {H H1 : Hp} {E : XK} (h : Refd C f wd v H E) (s : Same H H1) : Refd C f wd v H1 E := fun H' d s' n e => h H' d (s.trans s') (s.free n) e
/-- raise C(v): its reading from what is wanted -/
theorem mk_refd {C : Addr} {f wd : Str} {v : V} {H : Hp} {E : XK} (h : Refd C f wd v H E) : [v].length ≤ 1000 ∧ ∀ a, H a = none → spInit2 C f wd (.ref a :: ([v] ++ [])) (upd H a (exo a C none))
    (fun u H2 => u = .non ∧ ∃ (d : Addr) (fs : List (Str × V)), H2 a = some (exo a C (some d)) ∧ H2 d = some (exd d fs) ∧ H d = none ∧ E (.ref C) (some d) (upd (del H2 a) d (.xd fs))) (fun _ _ _ => False) := by
  refine ⟨(by show 1 ≤ 1000; decide), fun a na => ⟨a, v, rfl, upd_same, fun dx nd ne => ⟨rfl, dx, exF f wd v, ?_, upd_same, ?_, ?_⟩⟩⟩
  · rw [upd_ne (Ne.symm ne), upd_same]
  · rw [upd_ne ne] at nd
    exact nd
  · rw [upd_ne ne] at nd
    exact h _ dx (xd_same na nd) nd upd_same
/-- BadLot as it stands: its class, its __init__ -/
structure BadTxt (P : Program) (w : World) (K : PySem.W.Frag) (mg : Str → Option Value) (base : Heap) (x : Str) (C : Addr) (f wd : Str) : Prop where
  c2 : Cls2 K C f
  gC : mg x = some (.ref C)
  ini : ∃ (fI : Addr) (fd : FuncData), PySem.W.findIn K (.ref C) "__init__" = some (some (.ref fI)) ∧ PySem.W.typeIn K (.ref fI) = some (.type "function") ∧
    FnOk P w K mg base CX0 1 fI fd ["self", f] (spInit2 C f wd) ∧ Binds K fd ["self", f] []
end
/-- refused with the class at C, its word wd -/
def RefW (C : Addr) (wd : Str) (H : Hp) (E : XK) : Prop := ∀ H' d fs, Same H H' → H' d = some (.xd fs) → fs.lookup (Str.ofString "word") = some (V.str wd) → E (.ref C) (some d) H'
theorem RefW.same {C : Addr} {wd : Str} {H H1 : Hp} {E : XK} (h : RefW C wd H E) (s : Same H H1) : RefW C wd H1 E := fun H' d fs s' e l => h H' d fs (s.trans s') e l
theorem RefW.refd {C : Addr} {f wd : Str} {v : V} {H : Hp} {E : XK} (h : RefW C wd H E) (hf : (("word" : Str) == f) = false) : Refd C f wd v H E := fun H' d s nd e => h H' d _ s e (by
  show List.lookup (Str.ofString "word") [(f, v), (Str.ofString "word", V.str wd)] = _
  rw [List.lookup_cons, hf]
  exact List.lookup_cons_self)
/-- f(k = v, ..) -/
theorem pe_kw0 {X : Cx} {CX : CXT} {k : Nat} {f : Addr} {fd : FuncData} {ps ks : List Str} {sp : Sp} {E : XK} {x : Str} {p pos : Pos} {kws : List Keyword} {tk : TA} {g : List Value → List Value → List Value} {gV : List V → List V → List V}
    (F : FnOk X.prog X.w X.K X.mg X.base CX k f fd ps sp) (hr : Room k X.A) (hg : Gl X x) (hm : X.mg x = some (.ref f)) (hk : PySem.W.keepIn X.K (.ref f) = true) (hb : KBn X.K fd ps 0 ks g gV) (hx : Passes CX X E) (hkw : PK X kws tk)
    (hall : (backToKw pos (keywordEach kws X.env)).all (·.1.isSome) = true := by rfl)
    (hks : (backToKw pos (keywordEach kws X.env)).filterMap (·.1) = ks := by rfl) (hdb : (x == ("__debug__" : Str)) = false := by decide)
    (hpl : ((backTo pos (starEach [] X.env)).any (·.1) || (backToKw pos (keywordEach kws X.env)).any (·.1.isNone)) = false := by rfl) : PE X (.Call (.Name x p) [] kws pos) (tCallN 0 ks.length sp gV E tNil tk) := by
  refine ⟨fun pins s σ H Q I h => wpAny_Call_Name_kw (ld_glob I hg hm ?_ hdb)⟩
  refine PySem.W.callWith_KW0 (h₀ := X.base) I.ok.mod.kin hk hall (thn (hkw.run pos pins s σ H _ I h) fun ws s2 ⟨zs, H2, I2, rz, l1, l2, q2⟩ => ⟨I2.kIn, ?_⟩) hpl
  rw [hks]
  exact run_fnN (us := []) (vs := []) F hr hb hx I2 .nil rz rfl l2 q2
theorem FeedAt.ext {c : Addr} {H H' : Hp} {f : Addr} (F : FeedAt c H f) (e : ExtN H H') : FeedAt c H' f := by
  obtain ⟨ns, i, b, m, n, h1, h2, h3⟩ := F
  exact ⟨ns, i, b, m, n, e _ _ h1 (fun ps z => by cases z), e _ _ h2 (fun ps z => by cases z), h3⟩
theorem IntsAt.ext {H H' : Hp} {p : Addr} {ns : List Int} (h : IntsAt H p ns) (e : ExtN H H') : IntsAt H' p ns := e _ _ h (fun ps z => by cases z)
theorem tabs_kp {T : List (Addr × Str)} {H H' : Hp} {f c : Addr} (t : Tabs T H) (F : FeedAt c H f) (k : Kp f H H') : Tabs T H' := fun p hp => by
  obtain ⟨ps, h1, h2, h3⟩ := t p hp
  obtain ⟨ns, i, b, m, n, g1, _⟩ := F
  refine ⟨ps, k _ _ (ne_of h1 g1 (fun z => by cases z)) h1, h2, fun pos cv hc => ?_⟩
  obtain ⟨c0, e1, e2⟩ := h3 pos cv hc
  refine ⟨c0, e1, k _ _ (ne_of e2 g1 (fun z => ?_)) e2⟩
  unfold CodeO at z
  cases z
theorem tabs_list {T : List (Addr × Str)} {H : Hp} {l : Addr} {xs ys : List V} (t : Tabs T H) (h : H l = some (.lst xs)) : Tabs T (upd H l (.lst ys)) := fun p hp => by
  obtain ⟨ps, h1, h2, h3⟩ := t p hp
  refine ⟨ps, by rw [upd_ne (ne_of h1 h (fun z => by cases z))]; exact h1, h2, fun pos cv hc => ?_⟩
  obtain ⟨c0, e1, e2⟩ := h3 pos cv hc
  refine ⟨c0, e1, ?_⟩
  rw [upd_ne (ne_of e2 h (fun z => ?_))]
  · exact e2
  · unfold CodeO at z
    cases z
/-- the slots of a def are as many as its names -/
theorem takes_len {X : Cx} {W : WX} (tk : Takes X W) : Takes X (fun cls d σ H => σ.length = X.N.length → W cls d σ H) := fun u s' ⟨a, B, sI, pins, σ, H, cls, d, e, I, nb, up, sky, na, os, ag, w⟩ =>
  tk u s' ⟨a, B, sI, pins, σ, H, cls, d, e, I, nb, up, sky, na, os, ag, w I.len⟩
theorem eqd_tup {H : Hp} {a b : Addr} {xs : List V} {d : Nat} (ha : H a = some (.tup xs)) (hb : H b = some (.tup xs)) (hz : xs.length ≤ 1000) (hl : ∀ x ∈ xs, leafV x = true) : Eqd H (d + 1) (.ref a) (.ref b) :=
  .inr ⟨a, b, xs, xs, rfl, rfl, .inr ⟨ha, hb⟩, rfl, Nat.le_trans hz (by decide), fun i x y h1 h2 => by
    rw [h1] at h2
    cases h2
    have e := hl x (List.mem_of_getElem? h1)
    cases d with
    | zero => exact ⟨rfl, e⟩
    | succ d => exact .inl ⟨rfl, e⟩⟩
theorem sz_2 (v w : V) : [v, w].length ≤ sizeLine := by
  show 2 ≤ sizeLine
  decide
end HL

set_option pp.maxSteps 3000
namespace HL
open PySem PySem.Spec PyProof.Rows L2
open C8 (pss_cut)
def IT (K : PySem.W.Frag) (H : Hp) (a : Addr) (ns : List Int) : Prop := SqT K H a (ns.map V.int)
theorem sqT_same {K : PySem.W.Frag} {H H' : Hp} {a : Addr} {xs : List V} (h : SqT K H a xs) (s : Same H H') : SqT K H' a xs := by
  rcases h with (h | ⟨o, h⟩) | h
  · exact .inl (.inl (s _ _ h))
  · exact .inl (.inr ⟨o, s _ _ h⟩)
  · exact .inr h
theorem IT.same {K : PySem.W.Frag} {H H' : Hp} {a : Addr} {ns : List Int} (h : IT K H a ns) (s : Same H H') : IT K H' a ns := sqT_same h s
theorem IntsAt.it {K : PySem.W.Frag} {H : Hp} {a : Addr} {ns : List Int} (h : IntsAt H a ns) : IT K H a ns := SqT.of h
/-! ### where a row is wrong -/
def inB (n : Int) : Bool := decide (0 ≤ n ∧ n < G30)
def wrong (m : Int) (row : List Int) : Option Int := if (row.length : Int) = m then (row.findIdx? fun n => !inB n).map fun i => (i : Int) else some (-1)
def wrongV (m : Int) (row : List Int) : V := match wrong m row with
  | none => .non
  | some k => .int k
theorem wrong_at {m : Int} {row : List Int} {i : Nat} {n : Int} (hl : (row.length : Int) = m) (h : row[i]? = some n) (hb : inB n = false) (ha : ∀ (j : Nat) (z : Int), j < i → row[j]? = some z → inB z = true) : wrong m row = some (i : Int) := by
  unfold wrong
  rw [if_pos hl]
  obtain ⟨hi, he⟩ := List.getElem?_eq_some_iff.mp h
  have e : row.findIdx? (fun n => !inB n) = some i := by
    refine List.findIdx?_eq_some_iff_getElem.mpr ⟨hi, by rw [he, hb]; rfl, fun j hj => ?_⟩
    rw [ha j row[j] hj (List.getElem?_eq_getElem (by omega))]
    decide
  rw [e]
  rfl
theorem wrong_none {m : Int} {row : List Int} (hl : (row.length : Int) = m) (ha : ∀ (j : Nat) (z : Int), j < row.length → row[j]? = some z → inB z = true) : wrong m row = none := by
  unfold wrong
  rw [if_pos hl]
  have e : row.findIdx? (fun n => !inB n) = none := by
    refine List.findIdx?_eq_none_iff.mpr fun r hr => ?_
    obtain ⟨j, hj, hjr⟩ := List.mem_iff_getElem.mp hr
    rw [ha j r hj (by rw [List.getElem?_eq_getElem hj, hjr])]
    rfl
  rw [e]
  rfl
theorem wrong_len {m : Int} {row : List Int} (hl : ¬ (row.length : Int) = m) : wrong m row = some (-1) := by
  unfold wrong
  rw [if_neg hl]
theorem wrong_ok {m : Int} {row : List Int} (h : wrong m row = none) : (row.length : Int) = m ∧ ∀ n ∈ row, 0 ≤ n ∧ n < G30 := by
  unfold wrong at h
  by_cases c : (row.length : Int) = m
  · rw [if_pos c] at h
    refine ⟨c, fun n hn => ?_⟩
    have e : row.findIdx? (fun n => !inB n) = none := by
      cases z : row.findIdx? (fun n => !inB n) with
      | none => rfl
      | some i => rw [z] at h; cases h
    have := List.findIdx?_eq_none_iff.mp e n hn
    have b : inB n = true := by
      cases z : inB n with
      | true => rfl
      | false => rw [z] at this; cases this
    exact of_decide_eq_true b
  · rw [if_neg c] at h
    cases h
/-- 0 <= x < y as a test -/
theorem chainL {i j L : Int} {H : Hp} {Q : Bool → Hp → Prop} (h : Q (decide (i ≤ L ∧ L < j)) H) :
    if decide (i ≤ L) = true then (∃ a b : Int, V.int L = V.int a ∧ V.int j = V.int b ∧ ∃ k, V.bl (decide (a < b)) = V.bl k ∧ Q k H) else ∃ k, V.bl false = V.bl k ∧ Q k H := by
  by_cases c : i ≤ L
  · rw [if_pos (decide_eq_true c)]
    refine ⟨L, j, rfl, rfl, _, rfl, ?_⟩
    rw [show decide (L < j) = decide (i ≤ L ∧ L < j) by simp [c]]
    exact h
  · rw [if_neg (fun z => c (of_decide_eq_true z))]
    refine ⟨false, rfl, ?_⟩
    rw [show false = decide (i ≤ L ∧ L < j) by simp [c]]
    exact h
theorem scFirst : FnScope ["row", "many", "place", "number"] ["row", "many"] (defScope sFirst) := ⟨rfl, rfl, rfl, by decide +kernel, rfl, by decide +kernel, by decide +kernel⟩
theorem scLB : FnScope ["lot", "bill", "wrong"] ["lot", "bill"] (defScope sLookBill) := ⟨rfl, rfl, rfl, by decide +kernel, rfl, by decide +kernel, by decide +kernel⟩
section
variable {P : Program} {w : World} {K : PySem.W.Frag} {mg : Str → Option Value} {base : Heap}
def spFirst (K : PySem.W.Frag) : Sp := fun vs H Q _ => ∃ (a : Addr) (m : Int) (row : List Int), vs = [.ref a, .int m] ∧ IT K H a row ∧ row.length ≤ 100 ∧ ∀ H', Same H H' → Q (wrongV m row) H'
theorem ok_first {f : Addr} {fd : FuncData} {k : Nat} (F : Fun K "first_wrong" "first_wrong" sFirst f fd) (B : Bl mg) (mG : ∃ t, mg "GREAT" = some (.int G30 t)) : FnOk P w K mg base CX0 (k + 1) f fd ["row", "many"] (spFirst K) := by
  obtain ⟨tG, mG⟩ := mG
  refine F.ok scFirst (fun vs H Q E h => ?_) (fun cdv A outer s H vs Q E hr h => ?_)
  · obtain ⟨a, m, row, rfl, _⟩ := h
    rfl
  · obtain ⟨a, m, row, rfl, hA, hz, q⟩ := h
    refine ⟨_, pss_cons (ps_if (pt_cmpR op_ne (pe_callB call_len_seq (by rfl) B.len PySem.boot_len (pa_cons (pv 0) pa_nil)) (pv 1) (nomark _)) (pss_one (ps_ret (pe_un un_neg pe_int))) pss_nil)
      (pss_cons (ps_for PassesOwn.never rfl (pi_enumT (by rfl) B.enumerate (pa_cons (pv 0) pa_nil)) (pg_tup rfl (pgs_cons (pg_name (i := 2) scFirst.nd rfl (.inl rfl)) (pgs_cons (pg_name (i := 3) scFirst.nd rfl (.inl rfl)) pgs_nil)))
        (pss_one (ps_if (pt_not (pt_chain op_le op_lt pe_int (pv 3) (pe_glob (v := .int G30) rfl mG ⟨_, rfl⟩))) (pss_one (ps_ret (pv 2))) pss_nil)))
      (pss_one (ps_ret pe_non))), ?_⟩
    refine ⟨.ref a, rfl, a, _, rfl, .inr hA, .int m, rfl, rfl, _, rfl, ?_⟩
    rw [List.length_map]
    refine ite2 (fun c1 => ?_) (fun c1 => ?_)
    · have hl : ¬ (row.length : Int) = m := fun z => by rw [z, decide_eq_true rfl] at c1; cases c1
      have q1 := q H (Same.refl _)
      unfold wrongV at q1
      rw [wrong_len hl] at q1
      exact ⟨1, rfl, q1⟩
    · have hl : (row.length : Int) = m := by
        by_cases z : (row.length : Int) = m
        · exact z
        · refine absurd ?_ c1
          rw [decide_eq_false (fun y => z (V.int.inj y))]
          rfl
      refine ⟨.ref a, rfl, a, _, rfl, hA, ?_⟩
      refine ⟨fun i mm σ H' => i + mm = row.length ∧ Same H H' ∧ (∃ y2 y3, σ = [some (.ref a), some (.int m), y2, y3]) ∧ ∀ (j : Nat) (z : Int), j < i → row[j]? = some z → inB z = true,
        ⟨row.length, by omega, Same.refl _, ⟨none, none, rfl⟩, fun j r' hj => absurd hj (Nat.not_lt_zero j)⟩, fun i mm σ H' hW => ?_⟩
      obtain ⟨em, sm, ⟨y2, y3, rfl⟩, ih⟩ := hW
      have sA : SqT K H' a (row.map V.int) := sqT_same hA sm
      by_cases hi : i < row.length
      · have hri : row[i]? = some row[i] := List.getElem?_eq_getElem hi
        have g1 : (row.map V.int)[i]? = some (.int row[i]) := by rw [List.getElem?_map, hri]; rfl
        refine .inr ⟨⟨_, _, sA, g1⟩, fun σ' H2 => Same H H2 ∧ (∃ y2 y3, σ' = [some (.ref a), some (.int m), y2, y3]) ∧ inB row[i] = true, fun σ' H2 hN => ?_, fun x H2 hy => ?_⟩
        · obtain ⟨s2, hσ, hk⟩ := hN
          refine ⟨mm - 1, by omega, by omega, s2, hσ, fun j z hj hjr => ?_⟩
          by_cases hji : j < i
          · exact ih j z hji hjr
          · have e : j = i := by omega
            subst e
            rw [hri] at hjr
            cases hjr
            exact hk
        · obtain ⟨T2, x2, rfl, nT, rfl, f2⟩ := hy
          have ex2 : x2 = .int row[i] := Option.some.inj ((f2 _ sA).symm.trans g1)
          subst ex2
          have s3 : Same H (upd H' T2 (.tup [.int (i : Nat), .int row[i]])) := sm.trans (same_new nT)
          refine ⟨T2, _, rfl, SqT.of upd_same, rfl, _, _, rfl, _, _, rfl, rfl, ?_⟩
          refine ⟨.int row[i], rfl, 0, row[i], rfl, rfl, _, rfl, chainL ?_⟩
          refine ite2 (fun d1 => ?_) (fun d1 => ?_)
          · have hb : inB row[i] = false := by
              unfold inB
              cases e : decide (0 ≤ row[i] ∧ row[i] < G30) with
              | false => rfl
              | true => rw [e] at d1; cases d1
            have q1 := q _ s3
            unfold wrongV at q1
            rw [wrong_at hl hri hb ih] at q1
            exact ⟨_, rfl, q1⟩
          · refine ⟨s3, ⟨_, _, rfl⟩, ?_⟩
            unfold inB
            cases e : decide (0 ≤ row[i] ∧ row[i] < G30) with
            | true => rfl
            | false => rw [e] at d1; exact absurd rfl d1
      · refine .inl ⟨⟨_, sA, ?_⟩, ?_⟩
        · rw [List.length_map]
          omega
        · have q1 := q H' sm
          unfold wrongV at q1
          rw [wrong_none hl (fun j z hj => ih j z (by omega))] at q1
          exact q1
def LotB (H : Hp) (p : Addr) (as : List Addr) (ll : List (List Int)) : Prop := RowsAt H p as ll ∧ ll.length ≤ 100 ∧ ∀ r ∈ ll, r.length ≤ 100
theorem LotB.same {H H' : Hp} {p : Addr} {as : List Addr} {ll : List (List Int)} (h : LotB H p as ll) (s : Same H H') : LotB H' p as ll := ⟨h.1.same s, h.2⟩
theorem wrongV_non {m : Int} {row : List Int} : wrongV m row = .non ↔ wrong m row = none := by
  unfold wrongV
  cases wrong m row with
  | none => exact ⟨fun _ => rfl, fun _ => rfl⟩
  | some k => exact ⟨fun z => (by cases z), fun z => (by cases z)⟩
theorem wrongV_some {m : Int} {row : List Int} (h : ¬ wrongV m row = .non) : ∃ k, wrong m row = some k ∧ wrongV m row = .int k := by
  cases e : wrong m row with
  | none => exact absurd (wrongV_non.mpr e) h
  | some k => exact ⟨k, rfl, by unfold wrongV; rw [e]⟩
def spLookBillR (K : PySem.W.Frag) (CB : Addr) : Sp := fun vs H Q E => ∃ (p b : Addr) (as : List Addr) (ll : List (List Int)) (row : List Int), vs = [.ref p, .ref b] ∧ RowsAt H p as ll ∧ flaw ll = none ∧ IntsAt H b row ∧ row.length ≤ 100 ∧
  (wrong (width ll : Nat) row = none → ∀ H', Same H H' → Q .non H') ∧ (∀ k, wrong (width ll : Nat) row = some k → Refd CB "good" "bad bill" (.int k) H E)
theorem ok_lookBillR {f : Addr} {fd : FuncData} {CB : Addr} (F : Fun K "look_bill" "look_bill" sLookBill f fd) (T : BadTxt P w K mg base "BadBill" CB "good" "bad bill") (CF : Cal P w K mg base CX0 1 "first_wrong" ["row", "many"] (spFirst K)) (CG : Cal P w K mg base CX0 3 "goods_of" ["lot"] spGoods0) : FnOk P w K mg base (L2.CX P w) 4 f fd ["lot", "bill"] (spLookBillR K CB) := by
  obtain ⟨fF, fdF, GF, gF, kF, bF⟩ := CF.ex
  obtain ⟨fG, fdG, GG, gG, kG, bG⟩ := CG.ex
  obtain ⟨fI, fdI, iC, tI, GI, bI⟩ := T.ini
  refine F.okX scLB (fun vs H Q E h => ?_) (fun cdv A outer s H vs Q E hr h => ?_)
  · obtain ⟨p, b, as, ll, row, rfl, _⟩ := h
    rfl
  · obtain ⟨p, b, as, ll, row, rfl, hL, ef, hB, hl, q1, q2⟩ := h
    refine ⟨_, pss_cons (ps_set (i := 2) scLB.nd rfl (.inl rfl) (pe_call GF (hr.mono (by decide)) (by rfl) gF kF bF .nil pass0 (pa_cons (pv 1) (pa_cons (pe_call GG hr (by rfl) gG kG bG .nil pass0 (pa_cons (pv 0) pa_nil)) pa_nil))))
      (pss_one (ps_if (pt_cmpR op_notN (pv 2) pe_non (nomark _)) (pss_one (ps_raise rfl (takes_of rfl rfl rfl rfl) (pmk_oex T.c2.ox iC tI GI (hr.mono (by decide)) bI .nil pass0 (by rfl) T.gC (pa_cons (pv 2) pa_nil)))) pss_nil)), ?_⟩
    refine ⟨.ref b, rfl, .ref p, rfl, p, as, ll, rfl, hL, ef, fun H1 s1 => ?_⟩
    refine ⟨b, (width ll : Nat), row, rfl, (hB.same s1).it, hl, fun H2 s2 => ?_⟩
    have s12 := s1.trans s2
    unfold wrongV
    cases e : wrong (width ll : Nat) row with
    | none => exact ⟨_, rfl, rfl, _, rfl, iteF (q1 e H2 s12)⟩
    | some k => exact ⟨_, rfl, rfl, _, rfl, iteT ⟨_, rfl, mk_refd ((q2 k e).same s12)⟩⟩
end
theorem wrong_bad {n : Int} {xs : List Int} (h : (xs.length : Int) ≠ n ∨ ∃ z ∈ xs, ¬ (0 ≤ z ∧ z < G30)) : wrong n xs ≠ none := fun e => by
  obtain ⟨e1, e2⟩ := wrong_ok e
  rcases h with h | ⟨z, hz, hn⟩
  · exact h e1
  · exact hn (e2 z hz)
theorem wrong_good {n : Int} {xs : List Int} (hl : (xs.length : Int) = n) (h : ∀ z ∈ xs, 0 ≤ z ∧ z < G30) : wrong n xs = none := wrong_none hl fun j z hj hz => decide_eq_true (h z (List.mem_of_getElem? hz))
end HL

namespace HL
open PySem PySem.Spec PyProof.Rows L2
open C8 (pss_cut)
abbrev NCe : List Str := ["bill", "cells", "amount", "cell", "part"]
theorem scCe : FnScope NCe ["bill"] (defScope sCells) := ⟨rfl, rfl, rfl, by decide +kernel, rfl, by decide +kernel, by decide +kernel⟩
/-- a list of rows in the heap -/
def CellsAt (H : Hp) (l : Addr) (cs : List (List Int)) : Prop := ∃ bs : List Addr, H l = some (.lst (bs.map V.ref)) ∧ Rows H bs cs
theorem CellsAt.same {H H' : Hp} {l : Addr} {cs : List (List Int)} (h : CellsAt H l cs) (s : Same H H') : CellsAt H' l cs := by
  obtain ⟨bs, h1, h2⟩ := h
  exact ⟨bs, s _ _ h1, h2.same s⟩
theorem Rows.lput {H : Hp} {D : Addr} {xs ys : List V} {bs : List Addr} {ll : List (List Int)} (R : Rows H bs ll) (hD : H D = some (.lst xs)) : Rows (upd H D (.lst ys)) bs ll := R.mono fun b zs e => by
  rw [upd_ne (ne_of e hD (fun z => by cases z))]
  exact e
theorem cells_box {b : List Int} (hb : ∀ n ∈ b, 0 ≤ n) : ∀ {i : Nat}, i ≤ b.length → ((cellsI b i).length : Int) = boxI (b.take i)
  | 0, _ => rfl
  | i + 1, hi => by
    have hg : 0 ≤ b.getD i 0 := by
      rw [List.getD_eq_getElem?_getD, List.getElem?_eq_getElem (show i < b.length by omega)]
      exact hb _ (List.getElem_mem _)
    rw [cells_many, take_snoc (by omega)]
    have ih := cells_box hb (i := i) (by omega)
    unfold boxI at ih ⊢
    rw [List.foldl_append, ← ih, Int.natCast_mul, Int.toNat_of_nonneg (by omega)]
    rfl
section
variable {P : Program} {w : World} {K : PySem.W.Frag} {mg : Str → Option Value} {base : Heap}
def spCells : Sp := fun vs H Q _ => ∃ (b : Addr) (row : List Int), vs = [.ref b] ∧ IntsAt H b row ∧ row.length ≤ 100 ∧ (∀ n ∈ row, 0 ≤ n) ∧ boxI row ≤ 4000 ∧ ∀ H' l, Same H H' → CellsAt H' l (cellsI row row.length) → Q (.ref l) H'
theorem small4000 {n : Nat} (h : n ≤ 4000) : n < sizeLine := Nat.lt_of_le_of_lt h (by decide)
theorem ok_cells {f : Addr} {fd : FuncData} {k : Nat} (F : Fun K "cells_of" "cells_of" sCells f fd) (B : Bl mg) : FnOk P w K mg base CX0 (k + 1) f fd ["bill"] spCells := by
  refine F.ok scCe (fun vs H Q E h => ?_) (fun cdv A outer s H vs Q E hr h => ?_)
  · obtain ⟨b, row, rfl, _⟩ := h
    rfl
  · obtain ⟨b, row, rfl, hB, hz, h0, hx, q⟩ := h
    refine ⟨_, (pss_cons (ps_set (i := 1) scCe.nd rfl (.inl rfl) (pe_lst (pa_cons (pe_tup pa_nil) pa_nil)))
      (pss_cons (ps_for PassesOwn.never rfl (pi_tup (pv 0)) (pg_name (i := 2) scCe.nd rfl (.inr rfl))
        (pss_one (ps_setLc2 (i := 1) (own := [("cell", 3), ("part", 4)]) (vs1 := [4]) (g := gName 3) (g1 := gName 4) (tt := tYes) (tt1 := tYes) rfl scCe.nd rfl rfl (sw_true rfl rfl rfl (by decide +kernel)) (pi_list (pv 1))
          (blkOk_by (own := [("cell", 3), ("part", 4)]) (N := NCe) (sc := defScope sCells) (by decide +kernel)) (by decide) (fun _ _ _ _ _ => pg_name (i := 3) scCe.nd rfl (Or.inl rfl)) (fun _ _ _ _ _ => pts_nil)
          (fun _ _ _ _ _ => pi_range1 (by rfl) B.range (pa_cons (pe_op op_add (pv 2) pe_int) pa_nil)) (fun _ _ _ _ _ => pg_name (i := 4) scCe.nd rfl (Or.inl rfl)) (fun _ _ _ _ _ => pts_nil)
          (fun _ _ _ _ _ => pe_op (r := rCatA K) op_catA (pv 3) (pe_tup (pa_cons (pv 4) pa_nil))))))
      (pss_one (ps_ret (pv 1))))), ?_⟩
    refine ⟨Nat.zero_le _, fun t0 nt0 => ⟨sz_1 _, fun l0 nl0 => ?_⟩⟩
    have s0 := (same_new (o := .tup []) nt0).trans (same_new (o := .lst [.ref t0]) nl0)
    refine ⟨.ref b, rfl, b, rfl, ⟨_, SqT.of (hB.same s0)⟩, ?_⟩
    refine for_it (walk_tup (K := K) (a := b) (xs := row.map V.int)) (fun i σ H2 => Same H H2 ∧ ∃ l y2, σ = [some (.ref b), some (.ref l), y2, none, none] ∧ CellsAt H2 l (cellsI row i))
      ⟨s0, l0, none, rfl, [t0], upd_same, ⟨(same_new nl0) _ _ upd_same, True.intro⟩⟩ (fun i σ H2 _ ⟨s2, _⟩ => SqT.of (hB.same s2)) (fun i x σ H2 H3 hi ⟨s2, l, y2, eσ, bs, hl, hR⟩ ⟨eY, hx'⟩ => ?_) (fun σ H2 ⟨s2, l, y2, eσ, hC⟩ => ?_)
    · subst eY eσ
      rw [List.length_map] at hi
      have hri : row[i]? = some row[i] := List.getElem?_eq_getElem hi
      have ex : x = .int row[i] := by
        rw [List.getElem?_map, hri] at hx'
        exact (Option.some.inj hx').symm
      subst ex
      have n0 := h0 _ (List.mem_of_getElem? hri)
      have eg : row.getD i 0 = row[i] := by rw [List.getD_eq_getElem?_getD, hri]; rfl
      have hbl := hR.len
      have big := cells_box h0 (i := i + 1) (by omega)
      have bt := box_take (b := row) (i := i + 1) h0
      have hmany := cells_many (b := row) (i := i)
      rw [eg] at hmany
      have hrow : row[i] + 1 ≤ 4000 := by
        have h1 : 1 ≤ (cellsI row i).length := by
          have := cells_head h0 (i := i) (by omega)
          cases e : cellsI row i with
          | nil => rw [e] at this; cases this
          | cons c cs => simp
        have h2 : (row[i] + 1).toNat ≤ (cellsI row i).length * (row[i] + 1).toNat := Nat.le_mul_of_pos_left _ (by omega)
        omega
      refine ⟨.ref l, rfl, l, rfl, ⟨_, SqL.of hl⟩, fun D nD => ?_⟩
      have cell : ∀ c : List Int, ∀ j, ((List.range j).map fun (p : Nat) => c ++ [(p : Int)]).length = j := fun c j => by rw [List.length_map, List.length_range]
      -- what is made by the first cells, and by some parts of the next one
      let G : Nat → List (List Int) := fun a => ((cellsI row i).take a).flatMap fun c => (List.range (row[i] + 1).toNat).map fun (p : Nat) => c ++ [(p : Int)]
      have hG : ∀ a, (G a).length ≤ (cellsI row i).length * (row[i] + 1).toNat := fun a => by
        show (((cellsI row i).take a).flatMap _).length ≤ _
        rw [flat_len (n := (row[i] + 1).toNat) fun c _ => cell c _]
        exact Nat.mul_le_mul_right _ (by rw [List.length_take]; omega)
      have mk : ∀ (H4 H5 : Hp) (acc : List (List Int)) (cc : List Int) (cb : Addr) (p : Nat), Same H3 H4 → (∃ ds : List Addr, H4 D = some (.lst (ds.map V.ref)) ∧ Rows H4 ds acc) → acc.length < 4000 → Same H4 H5 → IntsAt H5 cb cc →
          ∃ ac, H5 D = some (.lst ac) ∧ ac.length < sizeLine ∧ Same H3 (upd H5 D (.lst (ac ++ [.ref cb]))) ∧ ∃ ds : List Addr, upd H5 D (.lst (ac ++ [.ref cb])) D = some (.lst (ds.map V.ref)) ∧ Rows (upd H5 D (.lst (ac ++ [.ref cb]))) ds (acc ++ [cc]) := fun H4 H5 acc cc cb p s34 ⟨ds, hd, hdr⟩ hsm s45 hcb => by
        have hd5 := s45 _ _ hd
        refine ⟨_, hd5, ?_, same_late (s34.trans s45) nD, ds ++ [cb], ?_, ?_⟩
        · rw [List.length_map, hdr.len]
          exact small4000 (by omega)
        · rw [upd_same, List.map_append]
          rfl
        · exact ((hdr.same s45).lput hd5).app ⟨by rw [upd_ne (ne_of hcb hd5 (fun z => by cases z))]; exact hcb, True.intro⟩
      refine ⟨fun a m H4 => a + m = bs.length ∧ Same H3 H4 ∧ ∃ ds : List Addr, H4 D = some (.lst (ds.map V.ref)) ∧ Rows H4 ds (G a), ⟨bs.length, by omega, same_new nD, [], upd_same, True.intro⟩, fun a m H4 hW => ?_⟩
      obtain ⟨em, s4, hds⟩ := hW
      by_cases ha : a < bs.length
      · have hba : bs[a]? = some (bs[a]'ha) := List.getElem?_eq_getElem ha
        obtain ⟨c, hc1, hc2⟩ := hR.at hba
        have hli : H4 l = some (.lst (bs.map V.ref)) := s4 _ _ hl
        have g1 : (bs.map V.ref)[a]? = some (.ref (bs[a]'ha)) := by rw [List.getElem?_map, hba]; rfl
        refine .inr ⟨⟨_, _, SqL.of hli, g1⟩, fun H5 => Same H3 H5 ∧ ∃ ds : List Addr, H5 D = some (.lst (ds.map V.ref)) ∧ Rows H5 ds (G (a + 1)), fun H5 hN => ⟨m - 1, by omega, by omega, hN⟩, fun x H5 hy => ?_⟩
        obtain ⟨e5, f5⟩ := hy
        subst e5
        have exx : x = .ref (bs[a]'ha) := Option.some.inj ((f5 _ (SqL.of hli)).symm.trans g1)
        subst exx
        have eG : ∀ z : Nat, z ≤ (row[i] + 1).toNat → (G a ++ (List.range z).map fun (p : Nat) => c ++ [(p : Int)]).length ≤ (cellsI row i).length * (row[i] + 1).toNat := fun z hz' => by
          rw [List.length_append, cell]
          show (((cellsI row i).take a).flatMap _).length + z ≤ _
          rw [flat_len (n := (row[i] + 1).toNat) fun c _ => cell c _, List.length_take, Nat.min_eq_left (by omega)]
          have : (a + 1) * (row[i] + 1).toNat ≤ (cellsI row i).length * (row[i] + 1).toNat := Nat.mul_le_mul_right _ (by omega)
          rw [Nat.add_mul] at this
          omega
        refine ⟨rfl, yes (iteT ?_)⟩
        refine ⟨.int row[i], rfl, row[i], 1, rfl, rfl, _, rfl, by omega, by omega, ?_⟩
        refine ⟨fun j mm H6 => j + mm = (row[i] + 1).toNat ∧ Same H3 H6 ∧ ∃ ds : List Addr, H6 D = some (.lst (ds.map V.ref)) ∧ Rows H6 ds (G a ++ (List.range j).map fun (p : Nat) => c ++ [(p : Int)]), ⟨(row[i] + 1).toNat, by omega, s4, by simpa using hds⟩, fun j mm H6 hW => ?_⟩
        obtain ⟨em6, s6, hds6⟩ := hW
        by_cases hj : j < (row[i] + 1).toNat
        · refine .inr ⟨hj, fun H7 => Same H3 H7 ∧ ∃ ds : List Addr, H7 D = some (.lst (ds.map V.ref)) ∧ Rows H7 ds (G a ++ (List.range (j + 1)).map fun (p : Nat) => c ++ [(p : Int)]), fun H7 hN => ⟨mm - 1, by omega, by omega, hN⟩, fun x H7 hy => ?_⟩
          obtain ⟨e7, ex7⟩ := hy
          subst e7 ex7
          have ez : (0 : Int) + (j : Nat) = ((j : Nat) : Int) := by omega
          rw [ez]
          refine ⟨rfl, yes (iteT ?_)⟩
          refine ⟨.ref (bs[a]'ha), rfl, .int (j : Nat), rfl, sz_1 _, fun t nt => ?_⟩
          have st := same_new (o := .tup [.int (j : Nat)]) nt
          have hcc : IntsAt H7 (bs[a]'ha) c := s6 _ _ hc2
          have hcl : c.length ≤ 100 := by rw [cells_len (List.mem_of_getElem? hc1)]; omega
          refine cat_ints (ys := [(j : Int)]) (hcc.same st) (show IntsAt _ t [(j : Int)] from upd_same) (by rw [List.length_singleton]; omega) fun z H8 s8 hz8 => ?_
          obtain ⟨ac, m1, m2, m3, ds, m4, m5⟩ := mk H7 H8 _ (c ++ [(j : Int)]) z j s6 hds6 (by
            have := eG (j + 1) hj
            rw [List.range_succ, List.map_append, ← List.append_assoc, List.length_append] at this
            have e1 : ([j].map fun (p : Nat) => c ++ [(p : Int)]).length = 1 := rfl
            omega) (st.trans s8) hz8
          refine ⟨ac, m1, m2, m3, ds, m4, ?_⟩
          rw [List.range_succ, List.map_append, ← List.append_assoc]
          exact m5
        · refine .inl ⟨show (row[i] + 1).toNat ≤ j by omega, s6, ?_⟩
          have ej : j = (row[i] + 1).toNat := by omega
          obtain ⟨ds, d1, d2⟩ := hds6
          refine ⟨ds, d1, ?_⟩
          have e2 : G (a + 1) = G a ++ (List.range j).map fun (p : Nat) => c ++ [(p : Int)] := by
            show ((cellsI row i).take (a + 1)).flatMap _ = ((cellsI row i).take a).flatMap _ ++ _
            rw [List.take_add_one, hc1, List.flatMap_append, ej]
            simp
          rw [e2]
          exact d2
      · refine .inl ⟨⟨_, SqL.of (s4 _ _ hl), by rw [List.length_map]; omega⟩, s2.trans s4, D, _, rfl, ?_⟩
        obtain ⟨ds, d1, d2⟩ := hds
        refine ⟨ds, d1, ?_⟩
        have e2 : G a = cellsI row (i + 1) := by
          show ((cellsI row i).take a).flatMap _ = (cellsI row i).flatMap _
          rw [List.take_of_length_le (by omega), eg]
        rw [← e2]
        exact d2
    · subst eσ
      rw [List.length_map] at hC
      exact ⟨.ref l, rfl, q H2 l s2 hC⟩
end
end HL

namespace HL
open PySem PySem.Spec PyProof.Rows L2
open C8 (pss_cut)
theorem scOm : FnScope ["cells", "table", "hold", "fuller", "cell", "many"] ["cells", "table", "hold"] (defScope sOneMore) := ⟨rfl, rfl, rfl, by decide +kernel, rfl, by decide +kernel, by decide +kernel⟩
theorem scTb : FnScope ["lot", "bill", "cells", "tables", "hold"] ["lot", "bill"] (defScope sTables) := ⟨rfl, rfl, rfl, by decide +kernel, rfl, by decide +kernel, by decide +kernel⟩
/-- a row as a key -/
def kI (r : List Int) : List Key := r.map Sum.inl
theorem kI_V (r : List Int) : (kI r).map kV = r.map V.int := by
  unfold kI
  rw [List.map_map]
  rfl
theorem kI_inj : ∀ {r s : List Int}, kI r = kI s → r = s
  | [], [], _ => rfl
  | x :: r, y :: s, h => by
    have h' : (Sum.inl x :: kI r : List Key) = Sum.inl y :: kI s := h
    obtain ⟨h1, h2⟩ := List.cons.inj h'
    rw [Sum.inl.inj h1, kI_inj h2]
  | [], _ :: _, h => by cases h
  | _ :: _, [], h => by cases h
/-- a table: of the rows of S, how many ways there are by the kinds of l, where there are any -/
def TabIs (kvs : List (List Key × V)) (S : List (List Int)) (l : List (List Int)) : Prop := ∀ r : List Int, valV kvs (kI r) = if r ∈ S ∧ 0 < cnt l r then some (V.int (cnt l r : Nat)) else none
theorem TabIs.get {kvs : List (List Key × V)} {S l : List (List Int)} {r : List Int} (h : TabIs kvs S l) (hr : r ∈ S ∨ cnt l r = 0) : (valV kvs (kI r)).getD (V.int 0) = V.int (cnt l r : Nat) := by
  rw [h r]
  by_cases c : r ∈ S ∧ 0 < cnt l r
  · rw [if_pos c]
    rfl
  · rw [if_neg c]
    have : cnt l r = 0 := by
      rcases hr with hr | hr
      · by_cases z : 0 < cnt l r
        · exact absurd ⟨hr, z⟩ c
        · omega
      · exact hr
    rw [this]
    rfl
theorem TabIs.more {kvs : List (List Key × V)} {S l : List (List Int)} {c : List Int} (h : TabIs kvs S l) (hc : c ∉ S) (hp : 0 < cnt l c) : TabIs (putK kvs (kI c) (V.int (cnt l c : Nat))) (S ++ [c]) l := fun r => by
  rw [valV_put]
  by_cases e : r = c
  · subst e
    rw [if_pos rfl, if_pos ⟨List.mem_append_right _ List.mem_cons_self, hp⟩]
  · rw [if_neg (fun z => e (kI_inj z)), h r]
    have : (r ∈ S ++ [c]) ↔ r ∈ S := by
      rw [List.mem_append, List.mem_singleton]
      exact ⟨fun q => q.elim id fun z => absurd z e, .inl⟩
    by_cases q : r ∈ S ∧ 0 < cnt l r
    · rw [if_pos q, if_pos ⟨this.mpr q.1, q.2⟩]
    · rw [if_neg q, if_neg fun z => q ⟨this.mp z.1, z.2⟩]
theorem TabIs.skip {kvs : List (List Key × V)} {S l : List (List Int)} {c : List Int} (h : TabIs kvs S l) (hp : cnt l c = 0) : TabIs kvs (S ++ [c]) l := fun r => by
  rw [h r]
  by_cases e : r = c
  · subst e
    rw [if_neg (fun z => by omega), if_neg (fun z => by omega)]
  · have : (r ∈ S ++ [c]) ↔ r ∈ S := by
      rw [List.mem_append, List.mem_singleton]
      exact ⟨fun q => q.elim id fun z => absurd z e, .inl⟩
    by_cases q : r ∈ S ∧ 0 < cnt l r
    · rw [if_pos q, if_pos ⟨this.mpr q.1, q.2⟩]
    · rw [if_neg q, if_neg fun z => q ⟨this.mp z.1, z.2⟩]
theorem TabIs.first {S : List (List Int)} {g : Nat} (hS : ∀ r ∈ S, r.length = g) (h0 : List.replicate g 0 ∈ S) : TabIs [(kI (List.replicate g 0), V.int 1)] S [] := fun r => by
  have ev : valV [(kI (List.replicate g 0), V.int 1)] (kI r) = if kI r = kI (List.replicate g 0) then some (V.int 1) else none := by
    have := valV_put ([] : List (List Key × V)) (kI (List.replicate g 0)) (kI r) (V.int 1)
    rw [valV_nil] at this
    exact this
  rw [ev]
  by_cases e : r = List.replicate g 0
  · subst e
    have hz : cnt [] (List.replicate g (0 : Int)) = 1 := by
      unfold cnt
      rw [if_pos (zeroB_iff.mpr fun n hn => List.eq_of_mem_replicate hn)]
    rw [if_pos rfl, if_pos ⟨h0, by rw [hz]; decide⟩, hz]
    rfl
  · rw [if_neg (fun z => e (kI_inj z)), if_neg]
    rintro ⟨h1, h2⟩
    refine e ?_
    have hz : zeroB r = true := by
      unfold cnt at h2
      by_cases z : zeroB r = true
      · exact z
      · rw [if_neg z] at h2
        cases h2
    exact List.eq_replicate_iff.mpr ⟨hS r h1, zeroB_iff.mp hz⟩
/-- the dict of a table in the heap -/
def tabL (S l : List (List Int)) : List (List Key × V) := (S.filter fun r => decide (0 < cnt l r)).map fun r => (kI r, V.int (cnt l r : Nat))
theorem tabL_put {S l : List (List Int)} {c : List Int} (h : 0 < cnt l c) : tabL (S ++ [c]) l = tabL S l ++ [(kI c, V.int (cnt l c : Nat))] := by
  unfold tabL
  rw [List.filter_append, List.map_append]
  simp [h]
theorem tabL_skip {S l : List (List Int)} {c : List Int} (h : cnt l c = 0) : tabL (S ++ [c]) l = tabL S l := by
  unfold tabL
  rw [List.filter_append, List.map_append]
  simp [h]
def TabAt (H : Hp) (d : Addr) (S l : List (List Int)) : Prop := ∃ kvs, H d = some (.dT kvs) ∧ TabIs kvs S l ∧ (l ≠ [] → kvs = tabL S l)
theorem TabAt.same {H H' : Hp} {d : Addr} {S l : List (List Int)} (h : TabAt H d S l) (s : Same H H') : TabAt H' d S l := by
  obtain ⟨kvs, h1, h2⟩ := h
  exact ⟨kvs, s _ _ h1, h2⟩
/-- a bill whose cells are counted -/
structure BoxOk (b : List Int) : Prop where
  nn : ∀ n ∈ b, 0 ≤ n
  few : b.length ≤ 100
  box : boxI b ≤ 4000
abbrev cellsB (b : List Int) : List (List Int) := cellsI b b.length
theorem BoxOk.many {b : List Int} (h : BoxOk b) : (cellsB b).length ≤ 4000 := by
  have := cells_box h.nn (i := b.length) (Nat.le_refl _)
  rw [List.take_length] at this
  have := h.box
  show (cellsI b b.length).length ≤ 4000
  omega
theorem BoxOk.nodup {b : List Int} {i : Nat} {c : List Int} (hc : (cellsB b)[i]? = some c) : c ∉ (cellsB b).take i := fun hm => by
  obtain ⟨j, hj, ej⟩ := List.mem_iff_getElem.mp hm
  rw [List.length_take] at hj
  rw [List.getElem_take] at ej
  obtain ⟨hi, ei⟩ := List.getElem?_eq_some_iff.mp hc
  have hj' : j < min i (cellsI b b.length).length := hj
  have hi' : i < (cellsI b b.length).length := hi
  have := List.pairwise_iff_getElem.mp (cells_rise (b := b) (i := b.length)) j i (by omega) hi' (by omega)
  rw [ej, ei] at this
  exact lx_asymm this this
section
variable {P : Program} {w : World} {K : PySem.W.Frag} {mg : Str → Option Value} {base : Heap}
/-- less, with its default -/
def CalLess (P : Program) (w : World) (K : PySem.W.Frag) (mg : Str → Option Value) (base : Heap) : Prop := ∃ (f : Addr) (fd : FuncData) (t : Tok), FnOk P w K mg base CX0 1 f fd ["row", "other", "times"] spLess ∧ mg "less" = some (.ref f) ∧ PySem.W.keepIn K (.ref f) = true ∧ Binds K fd ["row", "other", "times"] [.int 1 t]
def spOneMore : Sp := fun vs H Q _ => ∃ (l d hd : Addr) (b h : List Int) (t : List (List Int)), vs = [.ref l, .ref d, .ref hd] ∧ BoxOk b ∧ CellsAt H l (cellsB b) ∧ TabAt H d (cellsB b) t ∧ IntsAt H hd h ∧ (∀ x ∈ h :: t, Kd b.length x) ∧
  ∀ H' d', Same H H' → H d' = none → TabAt H' d' (cellsB b) (h :: t) → Q (.ref d') H'
theorem ok_oneMore {f : Addr} {fd : FuncData} (F : Fun K "with_one_more" "with_one_more" sOneMore f fd) (CLe : CalLess P w K mg base) : FnOk P w K mg base CX0 2 f fd ["cells", "table", "hold"] spOneMore := by
  obtain ⟨fL, fdL, tL, GL, gL, kL, bL⟩ := CLe
  have vd : Vals [V.int 1] [Value.int 1 tL] := .cons ⟨_, rfl⟩ .nil
  refine F.ok scOm (fun vs H Q E h => ?_) (fun cdv A outer s H vs Q E hr h => ?_)
  · obtain ⟨l, d, hd, b, h, t, rfl, _⟩ := h
    rfl
  · obtain ⟨l, d, hd, b, h, t, rfl, bo, ⟨bs, hl, hR⟩, ⟨kvs0, hd0, T0, _⟩, hH, hk, q⟩ := h
    have hu := hu_of hr
    refine ⟨_, (pss_cons (ps_set (i := 3) scOm.nd rfl (.inl rfl) pe_dnewT)
      (pss_cons (ps_for PassesOwn.never rfl (pi_list (pv 0)) (pg_name (i := 4) scOm.nd rfl (.inl rfl))
        (pss_cons (ps_set (i := 5) scOm.nd rfl (.inl rfl) (pe_op op_add (pe_dget2 hu (pv 1) (pv 4) pe_int ⟨rfl, rfl, rfl, rfl⟩) (pe_dget2 hu (pv 3) (pe_call GL hr (by rfl) gL kL bL vd pass0 (pa_cons (pv 4) (pa_cons (pv 2) pa_nil))) pe_int ⟨rfl, rfl, rfl, rfl⟩)))
        (pss_one (ps_if (pt_cmpR op_gt (pv 5) pe_int (nomark _)) (pss_one (ps_dput hu (pv 3) (pv 4) (pv 5) rfl)) pss_nil))))
      (pss_one (ps_ret (pv 3))))), ?_⟩
    have kh := hk h List.mem_cons_self
    have hkt : ∀ x ∈ t, Kd b.length x := fun x hx => hk x (List.mem_cons_of_mem _ hx)
    have hlen := hR.len
    have hmany := bo.many
    intro D nD
    have sD := same_new (o := .dT []) nD
    refine ⟨.ref l, rfl, l, rfl, ⟨_, SqL.of (sD _ _ hl)⟩, ?_⟩
    refine for_list (K := K) (a := l) (xs := bs.map V.ref) (fun i σ H' => Same H H' ∧ (∃ y4 y5, σ = [some (.ref l), some (.ref d), some (.ref hd), some (.ref D), y4, y5]) ∧ ∃ kvs, H' D = some (.dT kvs) ∧ kvs.length ≤ i ∧ TabIs kvs ((cellsB b).take i) (h :: t) ∧ kvs = tabL ((cellsB b).take i) (h :: t))
      ⟨sD, ⟨none, none, rfl⟩, [], upd_same, Nat.zero_le _, fun r => by rw [List.take_zero, valV_nil, if_neg (fun z => by cases z.1)], rfl⟩ (fun i σ H' _ hI => SqL.of (hI.1 _ _ hl)) (fun i x σ H' hx hI => ?_) (fun σ H' hI => ?_)
    · obtain ⟨sm, ⟨y4, y5, rfl⟩, kvs, hD, hkl, TI, TE⟩ := hI
      obtain ⟨cb, hcb, rfl⟩ : ∃ n, bs[i]? = some n ∧ x = V.ref n := by
        rw [List.getElem?_map] at hx
        cases e : bs[i]? with
        | none => rw [e] at hx; cases hx
        | some n => rw [e] at hx; exact ⟨n, rfl, (Option.some.inj hx).symm⟩
      obtain ⟨c, hc1, hc2⟩ := hR.at hcb
      have hil : i < (cellsB b).length := (List.getElem?_eq_some_iff.mp hc1).1
      have hcm : c ∈ cellsB b := List.mem_of_getElem? hc1
      have hcl : c.length = b.length := cells_len hcm
      have hclh : c.length = h.length := by rw [hcl, kh.1]
      have hcb' : H' cb = some (.tup ((kI c).map kV)) := by rw [kI_V]; exact sm _ _ hc2
      refine ⟨.ref d, rfl, d, rfl, .inr ⟨_, .inl (sm _ _ hd0)⟩, .ref cb, rfl, _, DGet.t (sm _ _ hd0) hcb', ?_⟩
      rw [T0.get (.inl hcm)]
      refine ⟨.ref D, rfl, D, rfl, .inr ⟨_, .inl hD⟩, .ref cb, rfl, .ref hd, rfl, cb, hd, c, h, 1, rfl, sm _ _ hc2, sm _ _ hH, hclh, by rw [hcl]; exact bo.few, by decide, by decide, fun H2 z s2 hz => ?_⟩
      have hz' : H2 z = some (.tup ((kI (subR c h 1)).map kV)) := by rw [kI_V]; exact hz
      refine ⟨_, DGet.t (s2 _ _ hD) hz', ?_⟩
      have inS : subR c h 1 ∈ (cellsB b).take i ∨ cnt (h :: t) (subR c h 1) = 0 := by
        cases e : nnB (subR c h 1) with
        | true => exact .inl (cell_ahead bo.nn kh hc1 e)
        | false => exact .inr (cnt_neg hk (by rw [subR_len hclh, hcl]) e)
      rw [TI.get inS]
      have es : (cnt t c : Int) + (cnt (h :: t) (subR c h 1) : Int) = (cnt (h :: t) c : Int) := by
        rw [cnt_step hk hcl]
        omega
      refine ⟨_, _, rfl, rfl, ?_⟩
      refine ⟨_, rfl, (cnt t c : Int) + (cnt (h :: t) (subR c h 1) : Int), 0, rfl, rfl, _, rfl, ?_⟩
      rw [es]
      have etk : (cellsB b).take (i + 1) = (cellsB b).take i ++ [c] := by rw [List.take_add_one, hc1]; rfl
      refine ite2 (fun p1 => ?_) (fun p1 => ?_)
      · have p1' : 0 < cnt (h :: t) c := by
          have := of_decide_eq_true p1
          omega
        refine ⟨_, rfl, .ref D, rfl, .ref cb, rfl, D, _, rfl, DPut.t (s2 _ _ hD) (s2 _ _ hcb') (Nat.lt_of_le_of_lt hkl (small4000 (by omega))), same_late (sm.trans s2) nD, ⟨_, _, rfl⟩, _, upd_same, Nat.le_trans (length_putK _ _ _) (by omega), ?_⟩
        rw [etk]
        have hno : valV kvs (kI c) = none := by rw [TI c, if_neg fun z => BoxOk.nodup hc1 z.1]
        have h1 := TI.more (BoxOk.nodup hc1) p1'
        rw [← es] at h1
        have h2 : putK kvs (kI c) (V.int (cnt (h :: t) c : Nat)) = tabL ((cellsB b).take i ++ [c]) (h :: t) := by rw [putK_new _ hno, tabL_put p1', TE]
        rw [← es] at h2
        exact ⟨h1, h2⟩
      · have p1' : cnt (h :: t) c = 0 := by
          by_cases z : 0 < cnt (h :: t) c
          · exact absurd (decide_eq_true (by omega)) p1
          · omega
        refine ⟨sm.trans s2, ⟨_, _, rfl⟩, kvs, s2 _ _ hD, by omega, ?_⟩
        rw [etk]
        exact ⟨TI.skip p1', by rw [tabL_skip p1']; exact TE⟩
    · obtain ⟨sm, ⟨y4, y5, rfl⟩, kvs, hD, _, TI, TE⟩ := hI
      rw [List.length_map, hlen, List.take_length] at TI TE
      exact ⟨.ref D, rfl, q H' D sm nD ⟨kvs, hD, TI, fun _ => TE⟩⟩
/-- for each kind, and behind all, its table -/
def TabsAt (H0 H : Hp) (l : Addr) (S ll : List (List Int)) : Prop := ∃ ds : List Addr, H l = some (.lst (ds.map V.ref)) ∧ ds.length = ll.length + 1 ∧ ∀ (k : Nat) (d : Addr), ds[k]? = some d → H0 d = none ∧ TabAt H d S (ll.drop k)
def spTables : Sp := fun vs H Q _ => ∃ (p bl : Addr) (as : List Addr) (ll : List (List Int)) (b : List Int), vs = [.ref p, .ref bl] ∧ RowsAt H p as ll ∧ ll.length ≤ 100 ∧ IntsAt H bl b ∧ BoxOk b ∧ (∀ x ∈ ll, Kd b.length x) ∧ ∀ H' l, Same H H' → TabsAt H H' l (cellsB b) ll → Q (.ref l) H'
theorem ok_tables {f : Addr} {fd : FuncData} (F : Fun K "tables_of" "tables_of" sTables f fd) (B : Bl mg) (mr : mg "reversed" = none) (CC : Cal P w K mg base CX0 1 "cells_of" ["bill"] spCells) (CO : Cal P w K mg base CX0 2 "with_one_more" ["cells", "table", "hold"] spOneMore) : FnOk P w K mg base CX0 3 f fd ["lot", "bill"] spTables := by
  obtain ⟨fC, fdC, GC, gC, kC, bC⟩ := CC.ex
  obtain ⟨fO, fdO, GO, gO, kO, bO⟩ := CO.ex
  refine F.ok scTb (fun vs H Q E h => ?_) (fun cdv A outer s H vs Q E hr h => ?_)
  · obtain ⟨p, bl, as, ll, b, rfl, _⟩ := h
    rfl
  · obtain ⟨p, bl, as, ll, b, rfl, R, hz, hB, bo, hk, q⟩ := h
    have hu := hu_of hr
    refine ⟨_, (pss_cons (ps_set (i := 2) scTb.nd rfl (.inl rfl) (pe_call GC (hr.mono (by decide)) (by rfl) gC kC bC .nil pass0 (pa_cons (pv 1) pa_nil)))
      (pss_cons (ps_set (i := 3) scTb.nd rfl (.inl rfl) (pe_lst (pa_cons (pe_disp1T hu (pe_ix ix_list (pv 2) pe_int (fun _ _ => rfl)) pe_int) pa_nil)))
      (pss_cons (ps_for PassesOwn.never rfl (RT.pi_revA (by rfl) mr (pv 0)) (pg_name (i := 4) scTb.nd rfl (.inl rfl))
        (pss_one (ps_expr (pe_bm PySem.F.plainAttrs_list PySem.F.slot_list_append PySem.F.type_list_append mt_append (pv 3) (pa_cons (pe_call GO hr (by rfl) gO kO bO .nil pass0 (pa_cons (pv 2) (pa_cons (pe_ix ix_list (pv 3) (pe_un un_neg pe_int) (fun _ _ => rfl)) (pa_cons (pv 4) pa_nil)))) pa_nil)))))
      (pss_one (ps_ret (pe_revL (pv 3))))))), ?_⟩
    have hlen := R.2.len
    refine ⟨.ref bl, rfl, bl, b, rfl, hB, bo.few, bo.nn, bo.box, fun H1 l s1 hC => ?_⟩
    obtain ⟨bs, hl, hbs⟩ := hC
    have hhd := cells_head bo.nn (i := b.length) (Nat.le_refl _)
    have hb0 : ∃ c0, bs[0]? = some c0 := by
      cases e : bs with
      | nil =>
        rw [e] at hbs
        cases e2 : cellsB b with
        | nil => rw [show cellsI b b.length = [] from e2] at hhd; cases hhd
        | cons c cs => rw [show cellsI b b.length = c :: cs from e2] at hbs; exact hbs.elim
      | cons c0 cs => exact ⟨c0, rfl⟩
    obtain ⟨c0, hc0⟩ := hb0
    obtain ⟨r0, hr1, hr2⟩ := hbs.at hc0
    have er0 : r0 = List.replicate b.length 0 := Option.some.inj (hr1.symm.trans hhd)
    subst er0
    intro D nD
    have sD := same_new (o := .dT []) nD
    have hc0' : (upd H1 D (.dT [])) c0 = some (.tup ((kI (List.replicate b.length 0)).map kV)) := by rw [kI_V]; exact sD _ _ hr2
    refine ⟨.ref l, rfl, l, _, 0, .ref c0, rfl, rfl, SqL.of (sD _ _ hl), atI_nat (j := 0) (by rw [List.getElem?_map, hc0]; rfl), kI (List.replicate b.length 0), c0, rfl, hc0', upd_same, ?_⟩
    refine ⟨sz_1 _, fun T nT => ?_⟩
    have nD0 : H D = none := s1.free nD
    have sE : Same H1 (upd (upd H1 D (.dT [])) D (.dT [(kI (List.replicate b.length 0), V.int 1)])) := same_late sD nD
    have sT := same_new (o := .lst [.ref D]) nT
    have s2 : Same H1 _ := sE.trans sT
    have nT1 : H1 T = none := sE.free nT
    have nT0 : H T = none := s1.free nT1
    have lT : l ≠ T := fun e => by rw [e, nT1] at hl; cases hl
    have tab0 : TabAt (upd (upd (upd H1 D (.dT [])) D (.dT [(kI (List.replicate b.length 0), V.int 1)])) T (.lst [.ref D])) D (cellsB b) [] := ⟨_, sT _ _ upd_same, TabIs.first (fun r hr => cells_len hr) (List.mem_of_getElem? hr1), fun z => absurd rfl z⟩
    refine ⟨.ref p, rfl, p, as.map V.ref, rfl, .inr ⟨SqT.of ((R.same s1).same s2).1, ?_⟩⟩
    refine RT.for_ItvT (K := K) (a := p) (xs := as.map V.ref) (fun i σ H' => Same H1 H' ∧ (∃ y4, σ = [some (.ref p), some (.ref bl), some (.ref l), some (.ref T), y4]) ∧ ∃ (ts : List Addr) (z : Addr), H' T = some (.lst ((ts ++ [z]).map V.ref)) ∧ ts.length = i ∧ ∀ (k : Nat) (d : Addr), (ts ++ [z])[k]? = some d → H d = none ∧ TabAt H' d (cellsB b) (ll.drop (ll.length - k)))
      ⟨s2, ⟨none, rfl⟩, [], D, upd_same, rfl, fun k d hkd => ?_⟩ (fun i σ H' hI => SqT.of ((R.same s1).same hI.1).1) (fun i x σ H' hi hx hI => ?_) (fun σ H' hI => ?_)
    · match k, hkd with
      | 0, hkd =>
        cases Option.some.inj hkd
        rw [Nat.sub_zero, List.drop_length]
        exact ⟨nD0, tab0⟩
      | k + 1, hkd => simp at hkd
    · obtain ⟨sm, ⟨y4, rfl⟩, ts, z, hT, htl, htab⟩ := hI
      rw [List.length_map] at hi hx
      have hj : as.length - 1 - i < as.length := by omega
      have haj : as[as.length - 1 - i]? = some (as[as.length - 1 - i]'hj) := List.getElem?_eq_getElem hj
      obtain ⟨h, hh1, hh2⟩ := R.2.at haj
      have ex : x = .ref (as[as.length - 1 - i]'hj) := by
        rw [List.getElem?_map, haj] at hx
        exact (Option.some.inj hx).symm
      subst ex
      have edr : ll.drop (ll.length - (i + 1)) = h :: ll.drop (ll.length - i) := by
        rw [List.drop_eq_getElem_cons (show ll.length - (i + 1) < ll.length by omega)]
        have e1 : ll.length - (i + 1) = as.length - 1 - i := by omega
        obtain ⟨q1, q2⟩ := List.getElem?_eq_some_iff.mp hh1
        congr 1
        · rw [← q2]
          congr 1
        · congr 1
          omega
      have hkk : ∀ x ∈ h :: ll.drop (ll.length - i), Kd b.length x := fun x hx => hk x (by rw [← edr] at hx; exact List.mem_of_mem_drop hx)
      have htz : TabAt H' z (cellsB b) (ll.drop (ll.length - i)) := (htab i z (by rw [List.getElem?_append_right (by omega), htl, Nat.sub_self]; rfl)).2
      refine ⟨.ref T, rfl, .inl ⟨rfl, _, SqL.of hT⟩, .ref l, rfl, .ref T, rfl, 1, rfl, T, _, -1, .ref z, rfl, rfl, SqL.of hT, by rw [List.map_append]; exact atI_last _ _, .ref (as[as.length - 1 - i]'hj), rfl, l, z, _, b, h, _, rfl, bo, ⟨bs, sm _ _ hl, hbs.same sm⟩, htz, sm _ _ (s1 _ _ hh2), hkk, fun H2 d' s3 nd' hd' => ?_⟩
      have hT2 := s3 _ _ hT
      have keep : ∀ (d : Addr) (l' : List (List Int)), TabAt H2 d (cellsB b) l' → TabAt (upd H2 T (.lst ((ts ++ [z]).map V.ref ++ [.ref d']))) d (cellsB b) l' := fun d l' ⟨kvs, k1, k2⟩ => ⟨kvs, by rw [upd_ne (ne_of k1 hT2 (fun z => by cases z))]; exact k1, k2⟩
      refine ⟨T, _, _, rfl, rfl, hT2, ?_, same_late (sm.trans s3) nT1, ⟨_, rfl⟩, ts ++ [z], d', ?_, ?_, fun k d hkd => ?_⟩
      · rw [List.length_map, List.length_append]
        exact small1000 (by show ts.length + 1 ≤ 1000; omega)
      · rw [upd_same, List.map_append (l₁ := ts ++ [z])]
        rfl
      · rw [List.length_append, htl]
        rfl
      · by_cases c : k < (ts ++ [z]).length
        · rw [List.getElem?_append_left c] at hkd
          exact ⟨(htab k d hkd).1, keep d _ ((htab k d hkd).2.same s3)⟩
        · rw [List.getElem?_append_right (by omega)] at hkd
          have ek : k = i + 1 := by
            rw [List.length_append] at c hkd
            have e1 : [z].length = 1 := rfl
            have : k - (ts.length + 1) < 1 := by
              have := (List.getElem?_eq_some_iff.mp hkd).1
              simpa using this
            omega
          subst ek
          have e0 : i + 1 - (ts ++ [z]).length = 0 := by
            rw [List.length_append, htl]
            exact Nat.sub_self _
          rw [e0] at hkd
          cases Option.some.inj hkd
          rw [edr]
          exact ⟨s1.free (sm.free nd'), keep d' _ hd'⟩
    · obtain ⟨sm, ⟨y4, rfl⟩, ts, z, hT, htl, htab⟩ := hI
      rw [List.length_map] at htl
      refine ⟨.ref T, rfl, T, _, rfl, SqL.of hT, fun l2 nl2 => ?_⟩
      refine q _ l2 (s1.trans (sm.trans (same_new nl2))) ⟨(ts ++ [z]).reverse, by rw [upd_same, List.map_reverse], by rw [List.length_reverse, List.length_append, htl, hlen]; rfl, fun k d hkd => ?_⟩
      have hkl := (List.getElem?_eq_some_iff.mp hkd).1
      rw [List.length_reverse, List.length_append] at hkl
      have e1 : [z].length = 1 := rfl
      rw [List.getElem?_reverse (by rw [List.length_append]; omega)] at hkd
      have := htab _ d hkd
      have ek : ll.length - ((ts ++ [z]).length - 1 - k) = k := by
        rw [List.length_append]
        omega
      rw [ek] at this
      exact ⟨this.1, this.2.same (same_new nl2)⟩
theorem flaw_kd {ll : List (List Int)} (h : flaw ll = none) : ∀ x ∈ ll, Kd (width ll) x := fun x hx => by
  obtain ⟨h1, h2, h3⟩ := okRow_iff.mp (okRow_all h x hx)
  exact ⟨h1, fun n hn => (h2 n hn).1, h3⟩
end
end HL

set_option pp.maxSteps 3000
namespace HL
open PySem PySem.Spec PyProof.Rows L2
open C8 (pss_cut)
section
variable {P : Program} {w : World} {K : PySem.W.Frag} {mg : Str → Option Value} {base : Heap}
def spBothR (CB : Addr) : Sp := fun vs H Q E => ∃ (p b : Addr) (as : List Addr) (ll : List (List Int)) (row : List Int), vs = [.ref p, .ref b] ∧ RowsAt H p as ll ∧ flaw ll = none ∧ IntsAt H b row ∧ row.length ≤ 100 ∧
  (wrong (width ll : Nat) row = none → boxI row ≤ 4000 ∧ ∀ H', Same H H' → Q .non H') ∧ (∀ k, wrong (width ll : Nat) row = some k → Refd CB "good" "bad bill" (.int k) H E)
theorem ok_bothR {f : Addr} {fd : FuncData} {CB : Addr} (F : Fun K "look_both" "look_both" sBoth f fd) (CL : Cal P w K mg base (L2.CX P w) 4 "look_bill" ["lot", "bill"] (spLookBillR K CB)) (CX : Cal P w K mg base CX0 1 "look_box" ["bill"] spBox0) : FnOk P w K mg base (L2.CX P w) 5 f fd ["lot", "bill"] (spBothR CB) := by
  obtain ⟨fL, fdL, GL, gL, kL, bL⟩ := CL.ex
  obtain ⟨fX, fdX, GX, gX, kX, bX⟩ := CX.ex
  refine F.okX scBt (fun vs H Q E h => ?_) (fun cdv A outer s H vs Q E hr h => ?_)
  · obtain ⟨p, b, as, ll, row, rfl, _⟩ := h
    rfl
  · obtain ⟨p, b, as, ll, row, rfl, R, ef, hB, hz, q1, q2⟩ := h
    refine ⟨_, pss_cons (ps_expr (pe_call GL hr (by rfl) gL kL bL .nil (passes_call (takes_of rfl rfl rfl rfl) (fun _ _ _ _ h => h)) (pa_cons (pv 0) (pa_cons (pv 1) pa_nil))))
      (pss_one (ps_expr (pe_call GX (hr.mono (by decide)) (by rfl) gX kX bX .nil pass0 (pa_cons (pv 1) pa_nil)))), ?_⟩
    refine ⟨.ref p, rfl, .ref b, rfl, p, b, as, ll, row, rfl, R, ef, hB, hz, fun ew H1 s1 => ?_, q2⟩
    obtain ⟨hx, q⟩ := q1 ew
    obtain ⟨hl, hb⟩ := wrong_ok ew
    exact ⟨.ref b, rfl, b, row, rfl, hB.same s1, hz, fun n hn => (hb n hn).1, hx, q H1 s1⟩
end
end HL

set_option pp.maxSteps 3000
namespace HL
open PySem PySem.Spec PyProof.Rows L2
open C8 (pss_cut)
/-! ### slices just so -/
theorem cut_to {xs : List V} {n : Nat} : cutV xs none (some (n : Int)) = xs.take n := by
  unfold cutV
  rw [HT.sIx_none, HT.sIx_nat, List.drop_zero, Nat.sub_zero]
  by_cases h : n ≤ xs.length
  · rw [Nat.min_eq_left h]
  · rw [Nat.min_eq_right (by omega), List.take_length, List.take_of_length_le (by omega)]
theorem cut_from {xs : List V} {n : Nat} : cutV xs (some (n : Int)) none = xs.drop n := by
  unfold cutV
  rw [HT.sIx_none, HT.sIx_nat]
  by_cases h : n ≤ xs.length
  · rw [Nat.min_eq_left h]
    exact List.take_of_length_le (by rw [List.length_drop]; omega)
  · rw [Nat.min_eq_right (by omega), List.drop_eq_nil_of_le (by omega), List.drop_eq_nil_of_le (by omega), List.take_nil]
theorem slice_to {K : PySem.W.Frag} {H : Hp} {a : Addr} {as : List Addr} {ll : List (List Int)} {n : Nat} {Q : VK} (ha : RowsAt H a as ll) (q : ∀ p H', Same H H' → RowsAt H' p (as.take n) (ll.take n) → Q (.ref p) H') : rSlA K (.ref a) none (some (n : Int)) H Q :=
  slice_read ha.1 fun p H' s h => q p H' s ⟨by rw [cut_to, ← List.map_take] at h; exact h, (ha.2.same s).take n⟩
theorem slice_from {K : PySem.W.Frag} {H : Hp} {a : Addr} {as : List Addr} {ll : List (List Int)} {n : Nat} {Q : VK} (ha : RowsAt H a as ll) (q : ∀ p H', Same H H' → RowsAt H' p (as.drop n) (ll.drop n) → Q (.ref p) H') : rSlA K (.ref a) (some (n : Int)) none H Q :=
  slice_read ha.1 fun p H' s h => q p H' s ⟨by rw [cut_from, ← List.map_drop] at h; exact h, (ha.2.same s).drop n⟩
def zeros (n : Nat) : List Int := List.replicate n 0
theorem rep0_read {K : PySem.W.Frag} {H : Hp} {t : Addr} {n : Nat} {Q : VK} (ht : H t = some (.tup [.int 0])) (n1 : 1 ≤ n) (n2 : n ≤ 1000) (q : ∀ p H', Same H H' → IntsAt H' p (zeros n) → Q (.ref p) H') : rRepA K (.ref t) (.int (n : Nat)) H Q := by
  refine ⟨t, (n : Nat), [.int 0], rfl, rfl, SqT.of ht, by decide, by omega, by omega, by decide, fun e => ?_, fun e p np => ?_⟩
  · have : n = 1 := by omega
    subst this
    exact q t H (Same.refl _) ht
  · refine q p _ (same_new np) ?_
    unfold IntsAt
    rw [upd_same, rep_one, Int.toNat_natCast]
    unfold zeros
    rw [List.map_replicate]
theorem zeros_len (n : Nat) : (zeros n).length = n := List.length_replicate
theorem scMi : FnScope ["_law_one", "_law_other", "_law_at"] ["_law_one", "_law_other"] (defScope sMinus) := ⟨rfl, rfl, rfl, by decide +kernel, rfl, by decide +kernel, by decide +kernel⟩
theorem scTi : FnScope ["_law_row", "_law_many", "_law_number"] ["_law_row", "_law_many"] (defScope sTimes) := ⟨rfl, rfl, rfl, by decide +kernel, rfl, by decide +kernel, by decide +kernel⟩
theorem scWn : FnScope ["_law_one", "_law_other", "_law_at"] ["_law_one", "_law_other"] (defScope sWithin) := ⟨rfl, rfl, rfl, by decide +kernel, rfl, by decide +kernel, by decide +kernel⟩
theorem subR_at {xs ys : List Int} {i : Nat} {k : Int} (h1 : i < xs.length) (h2 : i < ys.length) : (subR xs ys k)[i]? = some (xs.getD i 0 - k * ys.getD i 0) := by
  unfold subR
  rw [List.getElem?_map, zipI_at (List.getElem?_eq_getElem h1) (List.getElem?_eq_getElem h2), List.getD_eq_getElem?_getD, List.getElem?_eq_getElem h1, List.getD_eq_getElem?_getD, List.getElem?_eq_getElem h2]
  rfl
theorem subR_times {k : Int} : ∀ {b h : List Int}, subR b (h.map fun z => z * k) 1 = subR b h k
  | [], _ => rfl
  | _ :: _, [] => rfl
  | x :: b, y :: h => by
    rw [List.map_cons, subR_cons, subR_cons, subR_times]
    congr 1
    rw [Int.one_mul, Int.mul_comm]
/-- one turn of a comprehension over a range whose list is told by a function -/
theorem turn_fn {H H4 H5 : Hp} {D : Addr} {xs : List Int} {i : Nat} {v : Int} (nD : H D = none) (hx : xs[i]? = some v) (hz : xs.length ≤ 1000) (s4 : Same H H4) (hD : H4 D = some (.lst ((xs.take i).map V.int))) (s5 : Same H4 H5) :
    ∃ acc, H5 D = some (.lst acc) ∧ acc.length < sizeLine ∧ Same H (upd H5 D (.lst (acc ++ [.int v]))) ∧ upd H5 D (.lst (acc ++ [.int v])) D = some (.lst ((xs.take (i + 1)).map V.int)) := by
  refine ⟨_, s5 _ _ hD, ?_, same_late (s4.trans s5) nD, ?_⟩
  · rw [List.length_map]
    exact small1000 (Nat.le_trans (List.length_take_le' _ _) hz)
  · rw [upd_same, List.take_add_one, hx, List.map_append]
    rfl
theorem atIT {xs : List Int} {i : Nat} (h : i < xs.length) : atI (xs.map V.int) (i : Int) = some (.int (xs.getD i 0)) := atI_nat (by rw [List.getElem?_map, List.getD_eq_getElem?_getD, List.getElem?_eq_getElem h]; rfl)
section
variable {P : Program} {w : World} {K : PySem.W.Frag} {mg : Str → Option Value} {base : Heap}
/-! ### the law's own -/
def spMinus : Sp := fun vs H Q _ => ∃ (a b : Addr) (xs ys : List Int), vs = [.ref a, .ref b] ∧ IntsAt H a xs ∧ IntsAt H b ys ∧ xs.length = ys.length ∧ xs.length ≤ 100 ∧ ∀ H' p, Same H H' → IntsAt H' p (subR xs ys 1) → Q (.ref p) H'
theorem ok_minus {f : Addr} {fd : FuncData} {k : Nat} (F : Fun K "_law_minus" "_law_minus" sMinus f fd) (B : Bl mg) : FnOk P w K mg base CX0 (k + 1) f fd ["_law_one", "_law_other"] spMinus := by
  refine F.ok scMi (fun vs H Q E h => ?_) (fun cdv A outer s H vs Q E hr h => ?_)
  · obtain ⟨a, b, xs, ys, rfl, _⟩ := h
    rfl
  · obtain ⟨a, b, xs, ys, rfl, ha, hb, hl, hz, q⟩ := h
    refine ⟨_, pss_one (ps_ret (pe_callTy call_tuple_of (by rfl) B.tuple (by decide +kernel) (pa_cons (pe_lc (own := [("_law_at", 2)]) (g := gName 2) (tt := tYes) rfl scMi.nd (pi_range1 (by rfl) B.range (pa_cons (pe_callB call_len_seq (by rfl) B.len PySem.boot_len (pa_cons (pv 0) pa_nil)) pa_nil))
        (blkOk_by (own := [("_law_at", 2)]) (N := ["_law_one", "_law_other", "_law_at"]) (sc := defScope sMinus) (by decide +kernel)) (fun _ _ _ _ _ => pg_name (i := 2) scMi.nd rfl (Or.inl rfl)) (fun _ _ _ _ _ => pts_nil)
        (fun _ _ _ _ _ => pe_op op_sub (pe_ix (r := rIxT K) ix_tup (pv 0) (pv 2) (fun _ _ => rfl)) (pe_ix (r := rIxT K) ix_tup (pv 1) (pv 2) (fun _ _ => rfl)))) pa_nil))), ?_⟩
    refine ⟨.ref a, rfl, a, _, rfl, .inr (SqT.of ha), _, rfl, by rw [List.length_map]; omega, by rw [List.length_map]; omega, fun D nD => ?_⟩
    rw [List.length_map]
    refine lc_range (lo := 0) (n := ((xs.length : Nat) : Int).toNat) (fun i H' => Same H H' ∧ H' D = some (.lst (((subR xs ys 1).take i).map V.int))) ⟨same_new nD, upd_same⟩ (fun i H4 hi ⟨s4, hD⟩ => ?_) (fun H4 ⟨s4, hD⟩ => ?_)
    · have hi' : i < xs.length := by omega
      have ez : (0 : Int) + (i : Nat) = ((i : Nat) : Int) := by omega
      rw [ez]
      refine ⟨rfl, yes (iteT ?_)⟩
      refine ⟨.ref a, rfl, .int (i : Int), rfl, a, _, _, _, rfl, rfl, SqT.of (ha.same s4), atIT hi', .ref b, rfl, .int (i : Int), rfl, b, _, _, _, rfl, rfl, SqT.of (hb.same s4), atIT (by omega), _, _, rfl, rfl, ?_⟩
      refine turn_fn (xs := subR xs ys 1) nD ?_ (by rw [subR_len hl]; omega) s4 hD (Same.refl _)
      rw [subR_at hi' (by omega), Int.one_mul]
    · rw [Int.toNat_natCast, List.take_of_length_le (by rw [subR_len hl]; exact Nat.le_refl _)] at hD
      exact ⟨D, _, rfl, .inl ⟨SqL.of hD, fun z nz => q _ z (s4.trans (same_new nz)) upd_same⟩⟩
def spTimes : Sp := fun vs H Q _ => ∃ (a : Addr) (xs : List Int) (k : Int), vs = [.ref a, .int k] ∧ IntsAt H a xs ∧ xs.length ≤ 100 ∧ (∀ n ∈ xs, -1000 ≤ n ∧ n ≤ 1000) ∧ ∀ H' p, Same H H' → IntsAt H' p (xs.map fun z => z * k) → Q (.ref p) H'
theorem ok_times {f : Addr} {fd : FuncData} {k : Nat} (F : Fun K "_law_times" "_law_times" sTimes f fd) (B : Bl mg) : FnOk P w K mg base CX0 (k + 1) f fd ["_law_row", "_law_many"] spTimes := by
  refine F.ok scTi (fun vs H Q E h => ?_) (fun cdv A outer s H vs Q E hr h => ?_)
  · obtain ⟨a, xs, k, rfl, _⟩ := h
    rfl
  · obtain ⟨a, xs, k, rfl, ha, hz, hb, q⟩ := h
    refine ⟨_, pss_one (ps_ret (pe_callTy call_tuple_of (by rfl) B.tuple (by decide +kernel) (pa_cons (pe_lc (own := [("_law_number", 2)]) (g := gName 2) (tt := tYes) rfl scTi.nd (pi_tup (pv 0))
        (blkOk_by (own := [("_law_number", 2)]) (N := ["_law_row", "_law_many", "_law_number"]) (sc := defScope sTimes) (by decide +kernel)) (fun _ _ _ _ _ => pg_name (i := 2) scTi.nd rfl (Or.inl rfl)) (fun _ _ _ _ _ => pts_nil)
        (fun _ _ _ _ _ => pe_op op_mul (pv 2) (pv 1))) pa_nil))), ?_⟩
    refine ⟨.ref a, rfl, a, rfl, ⟨_, SqT.of ha⟩, fun D nD => ?_⟩
    refine lc_tup (K := K) (a := a) (xs := xs.map V.int) (fun i H' => Same H H' ∧ H' D = some (.lst (((xs.map fun z => z * k).take i).map V.int))) ⟨same_new nD, upd_same⟩ (fun i H' _ hP => SqT.of (ha.same hP.1)) (fun i x H' hx ⟨sm, hD⟩ => ?_) (fun H' ⟨sm, hD⟩ => ?_)
    · obtain ⟨n, hn, rfl⟩ : ∃ n, xs[i]? = some n ∧ x = V.int n := by
        rw [List.getElem?_map] at hx
        cases e : xs[i]? with
        | none => rw [e] at hx; cases hx
        | some n => rw [e] at hx; exact ⟨n, rfl, (Option.some.inj hx).symm⟩
      have hnb := hb n (List.mem_of_getElem? hn)
      refine ⟨rfl, yes (iteT ?_)⟩
      refine ⟨.int n, rfl, .int k, rfl, n, k, rfl, rfl, .inl ⟨by omega, by omega⟩, ?_⟩
      exact turn_fn (xs := xs.map fun z => z * k) nD (by rw [List.getElem?_map, hn]; rfl) (by rw [List.length_map]; omega) sm hD (Same.refl _)
    · rw [List.length_map, List.take_of_length_le (by rw [List.length_map]; exact Nat.le_refl _)] at hD
      exact ⟨D, _, rfl, .inl ⟨SqL.of hD, fun z nz => q _ z (sm.trans (same_new nz)) upd_same⟩⟩
def spWithin : Sp := fun vs H Q _ => ∃ (a b : Addr) (xs ys : List Int), vs = [.ref a, .ref b] ∧ IntsAt H a xs ∧ IntsAt H b ys ∧ xs.length = ys.length ∧ xs.length ≤ 100 ∧ ∀ H', Same H H' → Q (.bl (nnB (subR ys xs 1))) H'
theorem ok_within {f : Addr} {fd : FuncData} {k : Nat} (F : Fun K "_law_within" "_law_within" sWithin f fd) (B : Bl mg) : FnOk P w K mg base CX0 (k + 1) f fd ["_law_one", "_law_other"] spWithin := by
  refine F.ok scWn (fun vs H Q E h => ?_) (fun cdv A outer s H vs Q E hr h => ?_)
  · obtain ⟨a, b, xs, ys, rfl, _⟩ := h
    rfl
  · obtain ⟨a, b, xs, ys, rfl, ha, hb, hl, hz, q⟩ := h
    refine ⟨_, pss_one (ps_ret (pe_callB (cr_all rfl) (by rfl) B.all (by decide +kernel) (pa_cons (pe_lc (own := [("_law_at", 2)]) (g := gName 2) (tt := tYes) rfl scWn.nd (pi_range1 (by rfl) B.range (pa_cons (pe_callB call_len_seq (by rfl) B.len PySem.boot_len (pa_cons (pv 0) pa_nil)) pa_nil))
        (blkOk_by (own := [("_law_at", 2)]) (N := ["_law_one", "_law_other", "_law_at"]) (sc := defScope sWithin) (by decide +kernel)) (fun _ _ _ _ _ => pg_name (i := 2) scWn.nd rfl (Or.inl rfl)) (fun _ _ _ _ _ => pts_nil)
        (fun _ _ _ _ _ => pe_cmpR op_le (pe_ix (r := rIxT K) ix_tup (pv 0) (pv 2) (fun _ _ => rfl)) (pe_ix (r := rIxT K) ix_tup (pv 1) (pv 2) (fun _ _ => rfl)) (nomark _))) pa_nil))), ?_⟩
    refine ⟨.ref a, rfl, a, _, rfl, .inr (SqT.of ha), _, rfl, by rw [List.length_map]; omega, by rw [List.length_map]; omega, fun D nD => ?_⟩
    rw [List.length_map]
    refine lc_range (lo := 0) (n := ((xs.length : Nat) : Int).toNat) (fun i H' => Same H H' ∧ H' D = some (.lst ((((subR ys xs 1).take i).map fun z => decide (0 ≤ z)).map V.bl))) ⟨same_new nD, upd_same⟩ (fun i H4 hi ⟨s4, hD⟩ => ?_) (fun H4 ⟨s4, hD⟩ => ?_)
    · have hi' : i < xs.length := by omega
      have ez : (0 : Int) + (i : Nat) = ((i : Nat) : Int) := by omega
      rw [ez]
      refine ⟨rfl, yes (iteT ?_)⟩
      refine ⟨.ref a, rfl, .int (i : Int), rfl, a, _, _, _, rfl, rfl, SqT.of (ha.same s4), atIT hi', .ref b, rfl, .int (i : Int), rfl, b, _, _, _, rfl, rfl, SqT.of (hb.same s4), atIT (by omega), _, _, rfl, rfl, _, hD, ?_, same_late s4 nD, ?_⟩
      · rw [List.length_map, List.length_map]
        exact small1000 (Nat.le_trans (List.length_take_le' _ _) (by rw [subR_len hl.symm]; omega))
      · rw [upd_same, List.take_add_one, subR_at (by omega) hi', List.map_append, List.map_append]
        have e : decide (xs.getD i 0 ≤ ys.getD i 0) = decide (0 ≤ ys.getD i 0 - 1 * xs.getD i 0) := by
          by_cases z : xs.getD i 0 ≤ ys.getD i 0
          · rw [decide_eq_true z, decide_eq_true (by omega)]
          · rw [decide_eq_false z, decide_eq_false (by omega)]
        show some (HO.lst (_ ++ [V.bl (decide (xs.getD i 0 ≤ ys.getD i 0))])) = _
        rw [e]
        rfl
    · rw [Int.toNat_natCast, List.take_of_length_le (by rw [subR_len hl.symm]; omega)] at hD
      have q1 := q H4 s4
      have e : ((subR ys xs 1).map fun z => decide (0 ≤ z)).all id = nnB (subR ys xs 1) := by
        rw [List.all_map]
        rfl
      rw [← e] at q1
      exact ⟨D, _, rfl, SqL.of hD, q1⟩
end
theorem seq_c {v : V} {i : Nat} {B : TS} {D : Ends} {σ : L2.St} {H : Hp} (h : B D (σ.set i (some v)) H) : tSeq (tAsg (tC v) (gName i)) B D σ H := h
theorem seq_e {te : TE} {i : Nat} {B : TS} {D : Ends} {σ : L2.St} {H : Hp} (h : te σ H fun v H1 => B D (σ.set i (some v)) H1) : tSeq (tAsg te (gName i)) B D σ H := h
theorem asg_e {te : TE} {i : Nat} {D : Ends} {σ : L2.St} {H : Hp} (h : te σ H fun v H1 => D.nx (σ.set i (some v)) H1) : tAsg te (gName i) D σ H := h
end HL

set_option pp.maxSteps 3000
namespace HL
open PySem PySem.Spec PyProof.Rows L2
open C8 (pss_cut)
/-! ### loads as the law lists them -/
def LdAt (H : Hp) (a : Addr) (q : List Int × List Int) : Prop := ∃ r1 r2 : Addr, H a = some (.tup [.ref r1, .ref r2]) ∧ IntsAt H r1 q.1 ∧ IntsAt H r2 q.2
theorem IntsAt.put {H : Hp} {a D : Addr} {ns : List Int} {xs ys : List V} (x : IntsAt H a ns) (hD : H D = some (.lst xs)) : IntsAt (upd H D (.lst ys)) a ns := by
  have x' : H a = some (.tup (ns.map V.int)) := x
  show upd H D (.lst ys) a = some (.tup (ns.map V.int))
  rw [upd_ne fun e => ?_]
  · exact x'
  · rw [e, hD] at x'
    cases x'
theorem LdAt.same {H H' : Hp} {a : Addr} {q : List Int × List Int} (x : LdAt H a q) (s : Same H H') : LdAt H' a q := by
  obtain ⟨r1, r2, h1, h2, h3⟩ := x
  exact ⟨r1, r2, s _ _ h1, h2.same s, h3.same s⟩
theorem LdAt.put {H : Hp} {a D : Addr} {q : List Int × List Int} {xs ys : List V} (x : LdAt H a q) (hD : H D = some (.lst xs)) : LdAt (upd H D (.lst ys)) a q := by
  obtain ⟨r1, r2, h1, h2, h3⟩ := x
  refine ⟨r1, r2, ?_, h2.put hD, h3.put hD⟩
  rw [upd_ne fun e => ?_]
  · exact h1
  · rw [e, hD] at h1
    cases h1
def LdsAt (H : Hp) (as : List Addr) (qs : List (List Int × List Int)) : Prop := as.length = qs.length ∧ ∀ (i : Nat) (a : Addr) (q : List Int × List Int), as[i]? = some a → qs[i]? = some q → LdAt H a q
theorem LdsAt.map {H H' : Hp} {as : List Addr} {qs : List (List Int × List Int)} (x : LdsAt H as qs) (f : ∀ a q, LdAt H a q → LdAt H' a q) : LdsAt H' as qs := ⟨x.1, fun i a q h1 h2 => f a q (x.2 i a q h1 h2)⟩
theorem LdsAt.same {H H' : Hp} {as : List Addr} {qs : List (List Int × List Int)} (x : LdsAt H as qs) (s : Same H H') : LdsAt H' as qs := x.map fun _ _ y => y.same s
theorem LdsAt.more {H : Hp} {as : List Addr} {qs : List (List Int × List Int)} {a : Addr} {q : List Int × List Int} (x : LdsAt H as qs) (y : LdAt H a q) : LdsAt H (as ++ [a]) (qs ++ [q]) := by
  refine ⟨by rw [List.length_append, List.length_append, x.1]; rfl, fun i b p h1 h2 => ?_⟩
  by_cases c : i < as.length
  · rw [List.getElem?_append_left c] at h1
    rw [List.getElem?_append_left (by rw [← x.1]; exact c)] at h2
    exact x.2 i b p h1 h2
  · rw [List.getElem?_append_right (by omega)] at h1
    rw [List.getElem?_append_right (by rw [← x.1]; omega)] at h2
    rw [← x.1] at h2
    cases e : i - as.length with
    | zero =>
      rw [e] at h1 h2
      cases Option.some.inj h1
      cases Option.some.inj h2
      exact y
    | succ n =>
      rw [e] at h1
      simp at h1
/-- one load and a kind: all takings -/
def stp1 (h : List Int) (q : List Int × List Int) : List (List Int × List Int) := (takes q.2 h).map fun (k : Nat) => (q.1 ++ [(k : Int)], subR q.2 h (k : Int))
def stp (h : List Int) (rows : List (List Int × List Int)) : List (List Int × List Int) := rows.flatMap (stp1 h)
theorem lds_app : ∀ {l1 l2 : List (List Int)} {rows : List (List Int × List Int)}, lds (l1 ++ l2) rows = lds l2 (lds l1 rows)
  | [], _, _ => rfl
  | h :: t, l2, rows => lds_app (l1 := t)
theorem lds_one {h : List Int} {rows : List (List Int × List Int)} : lds [h] rows = stp h rows := rfl
theorem lds_take {ll : List (List Int)} {i : Nat} {h : List Int} {rows : List (List Int × List Int)} (e : ll[i]? = some h) : lds (ll.take (i + 1)) rows = stp h (lds (ll.take i) rows) := by
  rw [List.take_add_one, e, lds_app]
  rfl
theorem tk_len {b h : List Int} : (takes b h).length ≤ b.sum.toNat + 1 := by
  unfold takes
  exact Nat.le_trans (List.length_filter_le _ _) (by rw [List.length_range]; exact Nat.le_refl _)
/-- what holds of each load on the way -/
def LdOk (g S : Nat) (n : Nat) (q : List Int × List Int) : Prop := q.1.length = n ∧ q.2.length = g ∧ q.2.sum.toNat ≤ S
theorem stp_ok {g S n : Nat} {h : List Int} (kh : Kd g h) {rows : List (List Int × List Int)} (hr : ∀ q ∈ rows, LdOk g S n q) : ∀ q ∈ stp h rows, LdOk g S (n + 1) q := fun q hq => by
  obtain ⟨p, hp, hm⟩ := List.mem_flatMap.mp hq
  obtain ⟨k, _, rfl⟩ := List.mem_map.mp hm
  obtain ⟨h1, h2, h3⟩ := hr p hp
  have e : p.2.length = h.length := by rw [h2, kh.1]
  refine ⟨by rw [List.length_append, h1]; rfl, by rw [subR_len e, h2], ?_⟩
  show (subR p.2 h (k : Int)).sum.toNat ≤ S
  rw [subR_sum e]
  have := sum_kd kh
  have : 0 ≤ (k : Int) * h.sum := Int.mul_nonneg (by omega) (by omega)
  omega
theorem stp_len {g S n : Nat} {h : List Int} : ∀ {rows : List (List Int × List Int)}, (∀ q ∈ rows, LdOk g S n q) → (stp h rows).length ≤ rows.length * (S + 1)
  | [], _ => Nat.zero_le _
  | q :: rows, hr => by
    have ih := stp_len (h := h) (rows := rows) fun p hp => hr p (List.mem_cons_of_mem _ hp)
    have h1 : (stp1 h q).length ≤ S + 1 := by
      unfold stp1
      rw [List.length_map]
      have := tk_len (b := q.2) (h := h)
      have := (hr q List.mem_cons_self).2.2
      omega
    show ((q :: rows).flatMap (stp1 h)).length ≤ _
    rw [List.flatMap_cons, List.length_append, List.length_cons, Nat.add_mul]
    have : (rows.flatMap (stp1 h)).length ≤ rows.length * (S + 1) := ih
    omega
theorem lds_all {g S : Nat} {ll : List (List Int)} {b : List Int} (hk : ∀ h ∈ ll, Kd g h) (hb : b.length = g) (hS : b.sum.toNat ≤ S) : ∀ {i : Nat}, i ≤ ll.length → (∀ q ∈ lds (ll.take i) [([], b)], LdOk g S i q) ∧ (lds (ll.take i) [([], b)]).length ≤ (S + 1) ^ i
  | 0, _ => by
    rw [List.take_zero]
    refine ⟨fun q hq => ?_, by simp [lds]⟩
    have : q ∈ [(([] : List Int), b)] := hq
    rw [List.mem_singleton.mp this]
    exact ⟨rfl, hb, hS⟩
  | i + 1, hi => by
    obtain ⟨h1, h2⟩ := lds_all hk hb hS (i := i) (by omega)
    have e : ll[i]? = some (ll[i]'(by omega)) := List.getElem?_eq_getElem _
    rw [lds_take e]
    refine ⟨stp_ok (hk _ (List.getElem_mem _)) h1, Nat.le_trans (stp_len h1) ?_⟩
    rw [Nat.pow_succ]
    exact Nat.mul_le_mul_right _ h2
abbrev NLd : List Str := ["_law_mlot", "_law_mbill", "_law_rows", "_law_hold_here", "_law_longer", "_law_counts", "_law_left", "_law_many"]
theorem scLd : FnScope NLd ["_law_mlot", "_law_mbill"] (defScope sLoads) := ⟨rfl, rfl, rfl, by decide +kernel, rfl, by decide +kernel, by decide +kernel⟩
theorem smallM {n : Nat} (h : n ≤ 1000000) : n < sizeLine := Nat.lt_of_le_of_lt h (by decide)
section
variable {P : Program} {w : World} {K : PySem.W.Frag} {mg : Str → Option Value} {base : Heap}
def spLoads : Sp := fun vs H Q _ => ∃ (p bl : Addr) (as : List Addr) (ll : List (List Int)) (b : List Int), vs = [.ref p, .ref bl] ∧ RowsAt H p as ll ∧ ll.length ≤ 100 ∧ IntsAt H bl b ∧ (∀ h ∈ ll, Kd b.length h ∧ ∀ n ∈ h, n ≤ 1000) ∧ b.length ≤ 100 ∧ (b.sum.toNat + 1) ^ ll.length ≤ 500000 ∧
  ∀ H' l ra, Same H H' → H' l = some (.lst (ra.map V.ref)) → LdsAt H' ra (lds ll [([], b)]) → Q (.ref l) H'
theorem ok_loads {f : Addr} {fd : FuncData} (F : Fun K "_law_loads" "_law_loads" sLoads f fd) (CW : Cal P w K mg base CX0 1 "_law_within" ["_law_one", "_law_other"] spWithin) (CT : Cal P w K mg base CX0 1 "_law_times" ["_law_row", "_law_many"] spTimes) (CM : Cal P w K mg base CX0 1 "_law_minus" ["_law_one", "_law_other"] spMinus) :
    FnOk P w K mg base CX0 2 f fd ["_law_mlot", "_law_mbill"] spLoads := by
  obtain ⟨fW, fdW, GW, gW, kW, bW⟩ := CW.ex
  obtain ⟨fT, fdT, GT, gT, kT, bT⟩ := CT.ex
  obtain ⟨fM, fdM, GM, gM, kM, bM⟩ := CM.ex
  refine F.ok scLd (fun vs H Q E h => ?_) (fun cdv A outer s H vs Q E hr h => ?_)
  · obtain ⟨p, bl, as, ll, b, rfl, _⟩ := h
    rfl
  · obtain ⟨p, bl, as, ll, b, rfl, R, hz, hB, hkk, hbz, hpow, q⟩ := h
    refine ⟨_, (pss_cons (ps_set (i := 2) scLd.nd rfl (.inl rfl) (pe_lst (pa_cons (pe_tup (pa_cons (pe_tup pa_nil) (pa_cons (pv 1) pa_nil))) pa_nil)))
      (pss_cons (ps_for PassesOwn.never rfl (pi_tup (pv 0)) (pg_name (i := 3) scLd.nd rfl (.inl rfl))
      (pss_cons (ps_set (i := 4) scLd.nd rfl (.inl rfl) (pe_lst pa_nil))
      (pss_cons (ps_for PassesOwn.never rfl (pi_list (pv 2)) (pg_tup rfl (pgs_cons (pg_name (i := 5) scLd.nd rfl (.inl rfl)) (pgs_cons (pg_name (i := 6) scLd.nd rfl (.inl rfl)) pgs_nil)))
      (pss_cons (ps_set (i := 7) scLd.nd rfl (.inl rfl) pe_int)
      (pss_one (ps_while PassesOwn.never (pt_val (pe_call GW hr (by rfl) gW kW bW .nil pass0 (pa_cons (pe_call GT hr (by rfl) gT kT bT .nil pass0 (pa_cons (pv 3) (pa_cons (pv 7) pa_nil))) (pa_cons (pv 6) pa_nil))))
      (pss_cons (ps_expr (pe_bm PySem.F.plainAttrs_list PySem.F.slot_list_append PySem.F.type_list_append mt_append (pv 4) (pa_cons (pe_tup (pa_cons (pe_op op_catA (pv 5) (pe_tup (pa_cons (pv 7) pa_nil))) (pa_cons (pe_call GM hr (by rfl) gM kM bM .nil pass0 (pa_cons (pv 6) (pa_cons (pe_call GT hr (by rfl) gT kT bT .nil pass0 (pa_cons (pv 3) (pa_cons (pv 7) pa_nil))) pa_nil))) pa_nil))) pa_nil)))
      (pss_one (ps_set (i := 7) scLd.nd rfl (.inl rfl) (pe_op op_add (pv 7) pe_int))))))))
      (pss_one (ps_set (i := 2) scLd.nd rfl (.inl rfl) (pv 4))))))
      (pss_one (ps_ret (pv 2))))), ?_⟩
    have hlen := R.2.len
    have hkd : ∀ h ∈ ll, Kd b.length h := fun h hh => (hkk h hh).1
    have lall := fun (i : Nat) (hi : i ≤ ll.length) => lds_all hkd rfl (Nat.le_refl _) hi
    have lbd : ∀ i, i ≤ ll.length → (lds (ll.take i) [([], b)]).length ≤ 500000 := fun i hi => Nat.le_trans (lall i hi).2 (Nat.le_trans (Nat.pow_le_pow_right (by omega) hi) hpow)
    refine ⟨Nat.zero_le _, fun t0 nt0 => ⟨.ref bl, rfl, sz_2 _ _, fun t1 nt1 => ⟨sz_1 _, fun l0 nl0 => ?_⟩⟩⟩
    have s0 := same_new (o := .tup []) nt0
    have s1 := same_new (o := .tup [.ref t0, .ref bl]) nt1
    have s2 := same_new (o := .lst [.ref t1]) nl0
    have s02 := s0.trans (s1.trans s2)
    have ld0 : LdAt _ t1 (([] : List Int), b) := ⟨t0, bl, s2 _ _ upd_same, s2 _ _ (s1 _ _ upd_same), (hB.same s02)⟩
    refine ⟨.ref p, rfl, p, rfl, ⟨_, SqT.of (R.same s02).1⟩, ?_⟩
    refine for_it (walk_tup (K := K) (a := p) (xs := as.map V.ref)) (fun i σ H2 => Same H H2 ∧ ∃ (l : Addr) (y3 y4 y5 y6 y7 : Option V) (ra : List Addr), σ = [some (.ref p), some (.ref bl), some (.ref l), y3, y4, y5, y6, y7] ∧ H2 l = some (.lst (ra.map V.ref)) ∧ LdsAt H2 ra (lds (ll.take i) [([], b)]))
      ⟨s02, l0, none, none, none, none, none, [t1], rfl, upd_same, rfl, fun i a q h1 h2 => ?_⟩ (fun i σ H2 _ ⟨s2, _⟩ => SqT.of (R.same s2).1) (fun i x σ H3 H2 hi ⟨s2, l, y3, y4, y5, y6, y7, ra, eσ, hl, hLd⟩ ⟨eY, hx'⟩ => ?_) (fun σ H2 ⟨s2, l, y3, y4, y5, y6, y7, ra, eσ, hl, hLd⟩ => ?_)
    · rw [List.take_zero] at h2
      match i, h1, h2 with
      | 0, h1, h2 =>
        cases Option.some.inj h1
        cases Option.some.inj h2
        exact ld0
      | i + 1, h1, h2 => simp at h1
    · subst eY eσ
      rw [List.length_map] at hi
      have hai : as[i]? = some as[i] := List.getElem?_eq_getElem hi
      have ex : x = .ref as[i] := by
        rw [List.getElem?_map, hai] at hx'
        exact (Option.some.inj hx').symm
      subst ex
      obtain ⟨h, hh1, hh2⟩ := (R.same s2).2.at hai
      generalize as[i] = ai at hh2 ⊢
      have hil : i < ll.length := by omega
      have hmem := List.mem_of_getElem? hh1
      have kh := hkd h hmem
      have hhb := (hkk h hmem).2
      have hrows := (lall i (by omega)).1
      have hnext : stp h (lds (ll.take i) [([], b)]) = lds (ll.take (i + 1)) [([], b)] := (lds_take hh1).symm
      have hbd := lbd (i + 1) (by omega)
      rw [← hnext] at hbd
      rw [← hnext]
      generalize lds (ll.take i) [([], b)] = rows at hLd hrows hbd ⊢
      refine ⟨Nat.zero_le _, fun D nD => ?_⟩
      have sD := same_new (o := .lst []) nD
      refine ⟨.ref l, rfl, l, rfl, ⟨_, SqL.of (sD _ _ hl)⟩, ?_⟩
      refine for_list (K := K) (a := l) (xs := ra.map V.ref) (fun j σ H' => Same H2 H' ∧ ∃ (y5 y6 y7 : Option V) (da : List Addr), σ = [some (.ref p), some (.ref bl), some (.ref l), some (.ref ai), some (.ref D), y5, y6, y7] ∧ H' D = some (.lst (da.map V.ref)) ∧ LdsAt H' da (stp h (rows.take j)))
        ⟨sD, y5, y6, y7, [], rfl, upd_same, rfl, fun i a q h1 h2 => by simp at h1⟩ (fun j σ H' _ hI => SqL.of (hI.1 _ _ hl)) (fun j x σ H' hx hI => ?_) (fun σ H' hI => ?_)
      · obtain ⟨sj, y5, y6, y7, da, rfl, hD, hda⟩ := hI
        obtain ⟨a, ha, rfl⟩ : ∃ a, ra[j]? = some a ∧ x = V.ref a := by
          rw [List.getElem?_map] at hx
          cases e : ra[j]? with
          | none => rw [e] at hx; cases hx
          | some a => rw [e] at hx; exact ⟨a, rfl, (Option.some.inj hx).symm⟩
        have hjr : j < rows.length := by
          rw [← hLd.1]
          exact (List.getElem?_eq_some_iff.mp ha).1
        have hqj : rows[j]? = some rows[j] := List.getElem?_eq_getElem hjr
        obtain ⟨r1, r2, hra, hr1, hr2⟩ := (hLd.2 j a _ ha hqj).same sj
        obtain ⟨ok1, ok2, ok3⟩ := hrows _ (List.getElem_mem hjr)
        have etk : stp h (rows.take (j + 1)) = stp h (rows.take j) ++ stp1 h rows[j] := by
          unfold stp
          rw [List.take_add_one, hqj, List.flatMap_append]
          simp
        have hbd2 : (stp h (rows.take j) ++ stp1 h rows[j]).length ≤ 500000 := by
          rw [← etk]
          refine Nat.le_trans ?_ hbd
          have : stp h rows = stp h (rows.take (j + 1)) ++ stp h (rows.drop (j + 1)) := by
            unfold stp
            rw [← List.flatMap_append, List.take_append_drop]
          rw [this, List.length_append]
          omega
        rw [etk]
        generalize rows[j] = qj at hr1 hr2 ok1 ok2 ok3 hbd2 ⊢
        have eqh : qj.2.length = h.length := by rw [ok2, kh.1]
        refine ⟨a, _, rfl, SqT.of hra, rfl, _, _, rfl, _, _, rfl, rfl, ?_⟩
        refine seq_c ?_
        refine while_by (fun σ' H4 => ∃ (m : Nat) (da : List Addr), σ' = [some (.ref p), some (.ref bl), some (.ref l), some (.ref ai), some (.ref D), some (.ref r1), some (.ref r2), some (.int (m : Int))] ∧ Same H2 H4 ∧ IntsAt H4 r1 qj.1 ∧ IntsAt H4 r2 qj.2 ∧ H4 D = some (.lst (da.map V.ref)) ∧ LdsAt H4 da (stp h (rows.take j) ++ (List.range m).map fun (k : Nat) => (qj.1 ++ [(k : Int)], subR qj.2 h (k : Int))) ∧ ∀ k, k < m → nnB (subR qj.2 h (k : Int)) = true)
          (fun σ' _ => match σ' with | [_, _, _, _, _, _, _, some (.int m)] => qj.2.sum.toNat + 2 - m.toNat | _ => 0)
          ⟨0, da, rfl, sj, hr1, hr2, hD, by rw [List.range_zero, List.map_nil, List.append_nil]; exact hda, fun k hk => absurd hk (Nat.not_lt_zero _)⟩ ?_ ?_
        · rintro σ' H4 ⟨m, da, rfl, s4, hr1, hr2, hD, hda, hm⟩
          have hh4 : IntsAt H4 ai h := s4 _ _ hh2
          refine ⟨.ref ai, rfl, .int (m : Int), rfl, ai, h, (m : Int), rfl, hh4, by rw [← eqh, ok2]; exact hbz, fun n hn => ⟨by have := kh.2.1 n hn; omega, hhb n hn⟩, fun H5 z s5 hz => ?_⟩
          refine ⟨.ref r2, rfl, z, r2, _, qj.2, rfl, hz, hr2.same s5, by rw [List.length_map, eqh], by rw [List.length_map, ← eqh, ok2]; exact hbz, fun H6 s6 => ⟨_, rfl, ?_⟩⟩
          rw [subR_times]
          have s56 := s5.trans s6
          refine ite2 (fun c1 => ?_) (fun c1 => ?_)
          · have hfit := fits_lt kh ok2 c1
            have hlt : (stp h (rows.take j) ++ (List.range m).map fun (k : Nat) => (qj.1 ++ [(k : Int)], subR qj.2 h (k : Int))).length ≤ 1000000 := by
              rw [List.length_append, List.length_map, List.length_range]
              rw [List.length_append] at hbd2
              have : m ≤ (stp1 h qj).length := by
                unfold stp1
                rw [List.length_map]
                unfold takes
                have e1 : ((List.range m).filter fun (k : Nat) => nnB (subR qj.2 h (k : Int))) = List.range m := List.filter_eq_self.mpr fun k hk => hm k (List.mem_range.mp hk)
                rw [show qj.2.sum.toNat + 1 = m + (qj.2.sum.toNat + 1 - m) by omega, List.range_add, List.filter_append, e1, List.length_append, List.length_range]
                omega
              omega
            refine ⟨.ref D, rfl, .inl ⟨rfl, _, SqL.of (s56 _ _ hD)⟩, ?_⟩
            refine ⟨.ref r1, rfl, .int (m : Int), rfl, sz_1 _, fun t2 nt2 => ?_⟩
            have s7 := same_new (o := .tup [.int (m : Int)]) nt2
            refine cat_ints ((hr1.same s56).same s7) (show IntsAt _ t2 [(m : Int)] from upd_same) (by rw [ok1, List.length_singleton]; omega) fun t3 H8 s8 ht3 => ?_
            have s48 := s56.trans (s7.trans s8)
            refine ⟨.ref r2, rfl, .ref ai, rfl, .int (m : Int), rfl, ai, h, (m : Int), rfl, hh4.same s48, by rw [← eqh, ok2]; exact hbz, fun n hn => ⟨by have := kh.2.1 n hn; omega, hhb n hn⟩, fun H9 z9 s9 hz9 => ?_⟩
            refine ⟨r2, z9, qj.2, _, rfl, (hr2.same s48).same s9, hz9, by rw [List.length_map, eqh], by rw [ok2]; exact hbz, fun H10 z10 s10 hz10 => ?_⟩
            rw [subR_times] at hz10
            refine ⟨sz_2 _ _, fun t4 nt4 => ?_⟩
            have s11 := same_new (o := .tup [.ref t3, .ref z10]) nt4
            have s4t := s48.trans (s9.trans (s10.trans s11))
            have hDt := s4t _ _ hD
            refine ⟨D, _, .ref t4, rfl, rfl, hDt, by rw [List.length_map, hda.1]; exact smallM hlt, ?_⟩
            have ldn : LdAt (upd H10 t4 (.tup [.ref t3, .ref z10])) t4 (qj.1 ++ [(m : Int)], subR qj.2 h (m : Int)) := ⟨t3, z10, upd_same, ((ht3.same s9).same s10).same s11, hz10.same s11⟩
            generalize upd H10 t4 (.tup [.ref t3, .ref z10]) = H11 at s4t hDt ldn ⊢
            refine ⟨.int (m : Int), rfl, _, 1, rfl, rfl, ?_⟩
            refine ⟨⟨m + 1, da ++ [t4], ?_, same_late (s4.trans s4t) nD, (hr1.same s4t).put hDt, (hr2.same s4t).put hDt, ?_, ?_, fun k hk => ?_⟩, ?_⟩
            · rfl
            · rw [upd_same, List.map_append]
              rfl
            · rw [List.range_succ, List.map_append, ← List.append_assoc]
              exact ((hda.same s4t).more ldn).map fun _ _ y => y.put hDt
            · by_cases w : k < m
              · exact hm k w
              · rw [show k = m by omega]
                exact c1
            · show qj.2.sum.toNat + 2 - ((m : Int) + 1).toNat < qj.2.sum.toNat + 2 - ((m : Int)).toNat
              omega
          · have en : nnB (subR qj.2 h (m : Int)) = false := by
              cases e : nnB (subR qj.2 h (m : Int)) with
              | false => rfl
              | true => exact absurd e c1
            refine ⟨s4.trans s56, _, _, _, da, rfl, s56 _ _ hD, ?_⟩
            have : stp1 h qj = (List.range m).map fun (k : Nat) => (qj.1 ++ [(k : Int)], subR qj.2 h (k : Int)) := by
              unfold stp1
              rw [takes_to kh ok2 hm en]
            rw [this]
            exact hda.same s56
        · intro σ' H4 Q1 Q2 hq x
          obtain ⟨v, h1, v2, h2, a1, xs, k1, e1, g1, g2, g3, fx⟩ := x
          refine ⟨v, h1, v2, h2, a1, xs, k1, e1, g1, g2, g3, fun H5 z s5 hz => ?_⟩
          obtain ⟨v6, h6, a2, b2, xs2, ys2, e5, i1, i2, i3, i4, fy⟩ := fx H5 z s5 hz
          refine ⟨v6, h6, a2, b2, xs2, ys2, e5, i1, i2, i3, i4, fun H6 s6 => ?_⟩
          obtain ⟨bb, e, r⟩ := fy H6 s6
          exact ⟨bb, e, hq _ _ r⟩
      · obtain ⟨sj, y5, y6, y7, da, rfl, hD, hda⟩ := hI
        rw [List.length_map, hLd.1, List.take_length] at hda
        exact ⟨.ref D, rfl, s2.trans sj, D, _, _, _, _, _, da, rfl, hD, hda⟩
    · rw [List.length_map, hlen, List.take_length] at hLd
      subst eσ
      exact ⟨.ref l, rfl, q H2 l ra s2 hl hLd⟩
end
end HL

set_option pp.maxSteps 3000
namespace HL
open PySem PySem.Spec PyProof.Rows L2
open C8 (pss_cut)
/-! ### all fillings as the law lists them -/
theorem stp_nn {h : List Int} {rows : List (List Int × List Int)} : ∀ q ∈ stp h rows, nnB q.2 = true := fun q hq => by
  obtain ⟨p, hp, hm⟩ := List.mem_flatMap.mp hq
  obtain ⟨k, hk, rfl⟩ := List.mem_map.mp hm
  unfold takes at hk
  exact (List.mem_filter.mp hk).2
theorem lds_nn : ∀ {ll : List (List Int)} {rows : List (List Int × List Int)}, (∀ q ∈ rows, nnB q.2 = true) → ∀ q ∈ lds ll rows, nnB q.2 = true
  | [], _, h => h
  | x :: t, rows, _ => lds_nn (ll := t) (rows := stp x rows) stp_nn
theorem sum_zero_iff : ∀ {b : List Int}, (∀ n ∈ b, 0 ≤ n) → (b.sum = 0 ↔ zeroB b = true)
  | [], _ => ⟨fun _ => rfl, fun _ => rfl⟩
  | x :: b, h => by
    have x0 := h x List.mem_cons_self
    have hb : ∀ n ∈ b, 0 ≤ n := fun n hn => h n (List.mem_cons_of_mem _ hn)
    have b0 := sum_nn hb
    have ih := sum_zero_iff hb
    rw [List.sum_cons, zeroB_iff]
    constructor
    · intro e n hn
      rcases List.mem_cons.mp hn with c | c
      · omega
      · exact zeroB_iff.mp (ih.mp (by omega)) n c
    · intro e
      have := e x List.mem_cons_self
      have := ih.mpr (zeroB_iff.mpr fun n hn => e n (List.mem_cons_of_mem _ hn))
      omega
theorem scAl : FnScope ["_law_mlot", "_law_mbill", "_law_counts", "_law_loose"] ["_law_mlot", "_law_mbill"] (defScope sAll) := ⟨rfl, rfl, rfl, by decide +kernel, rfl, by decide +kernel, by decide +kernel⟩
theorem scSB : FnScope ["_law_feed_here", "_law_mlot", "_law_good"] ["_law_feed_here", "_law_mlot"] (defScope sSmallBill) := ⟨rfl, rfl, rfl, by decide +kernel, rfl, by decide +kernel, by decide +kernel⟩
/-- one more drawn number in a list -/
theorem drawn {H H' H2 : Hp} {a c D : Addr} {ns : List Int} {lim d : Int} (nD : H D = none) (nDf : D ≠ a) (nDc : D ≠ c) (kp : Kp a H H') (hD : H' D = some (.lst (ns.map V.int))) (k2 : Kp a H' H2) (F2 : FeedAt c H2 a) (hz : ns.length ≤ 900) (hb : ∀ n ∈ ns, 0 ≤ n ∧ n < lim) (d0 : 0 ≤ d) (d1 : d < lim) :
    ∃ acc, H2 D = some (.lst acc) ∧ acc.length < sizeLine ∧ Kp a H (upd H2 D (.lst (acc ++ [.int d]))) ∧ FeedAt c (upd H2 D (.lst (acc ++ [.int d]))) a ∧
      ∃ ms : List Int, upd H2 D (.lst (acc ++ [.int d])) D = some (.lst (ms.map V.int)) ∧ ms.length = ns.length + 1 ∧ ∀ n ∈ ms, 0 ≤ n ∧ n < lim := by
  have hD2 := k2 _ _ nDf hD
  refine ⟨_, hD2, ?_, (kp.trans k2).late nD, F2.put nDf nDc, ns ++ [d], ?_, ?_, ?_⟩
  · rw [List.length_map]
    exact small1000 (by omega)
  · rw [upd_same, List.map_append]
    rfl
  · rw [List.length_append]
    rfl
  · intro n hn
    rcases List.mem_append.mp hn with h | h
    · exact hb n h
    · rw [List.mem_singleton.mp h]
      exact ⟨d0, d1⟩
def limW (w : Nat) : Int := if w = 1 then 13 else if w = 2 then 6 else 4
section
variable {P : Program} {w : World} {K : PySem.W.Frag} {mg : Str → Option Value} {base : Heap}
def spAll : Sp := fun vs H Q _ => ∃ (p bl : Addr) (as : List Addr) (ll : List (List Int)) (b : List Int), vs = [.ref p, .ref bl] ∧ RowsAt H p as ll ∧ ll.length ≤ 100 ∧ IntsAt H bl b ∧ (∀ n ∈ b, 0 ≤ n) ∧ (∀ h ∈ ll, Kd b.length h ∧ ∀ n ∈ h, n ≤ 1000) ∧ b.length ≤ 100 ∧ (b.sum.toNat + 1) ^ ll.length ≤ 500000 ∧
  ∀ H' l ca, Same H H' → H l = none → H' l = some (.lst (ca.map V.ref)) → Rows H' ca (fils ll b) → Q (.ref l) H'
theorem ok_all {f : Addr} {fd : FuncData} (F : Fun K "_law_all" "_law_all" sAll f fd) (B : Bl mg) (CL : Cal P w K mg base CX0 2 "_law_loads" ["_law_mlot", "_law_mbill"] spLoads) : FnOk P w K mg base CX0 3 f fd ["_law_mlot", "_law_mbill"] spAll := by
  obtain ⟨fL, fdL, GL, gL, kL, bL⟩ := CL.ex
  refine F.ok scAl (fun vs H Q E h => ?_) (fun cdv A outer s H vs Q E hr h => ?_)
  · obtain ⟨p, bl, as, ll, b, rfl, _⟩ := h
    rfl
  · obtain ⟨p, bl, as, ll, b, rfl, R, hz, hB, hbn, hkk, hbz, hpow, q⟩ := h
    refine ⟨_, (pss_one (ps_ret (pe_lc (own := [("_law_counts", 2), ("_law_loose", 3)]) (g := gTup K 2 (gCons (gName 2) (gCons (gName 3) gNil))) (tt := tTest (tOp rEq (tCB (rSumT K) (tCons (tVar 3) tNil)) (tC (.int 0)))) rfl scAl.nd (pi_list (pe_call GL hr (by rfl) gL kL bL .nil pass0 (pa_cons (pv 0) (pa_cons (pv 1) pa_nil))))
        (blkOk_by (own := [("_law_counts", 2), ("_law_loose", 3)]) (N := ["_law_mlot", "_law_mbill", "_law_counts", "_law_loose"]) (sc := defScope sAll) (by decide +kernel)) (fun _ _ _ _ _ => (pg_tup rfl (pgs_cons (pg_name (i := 2) scAl.nd rfl (Or.inl rfl)) (pgs_cons (pg_name (i := 3) scAl.nd rfl (Or.inl rfl)) pgs_nil)))) (fun _ _ _ _ _ => pts_one (pt_cmpR op_eq (pe_callB (cr_sumT rfl) (by rfl) B.sum (by decide +kernel) (pa_cons (pv 3) pa_nil)) pe_int (nomark _)))
        (fun _ _ _ _ _ => (pv 2))))), ?_⟩
    refine ⟨.ref p, rfl, .ref bl, rfl, p, bl, as, ll, b, rfl, R, hz, hB, hkk, hbz, hpow, fun H1 l ra s1 hl hLd => ?_⟩
    refine ⟨l, rfl, ⟨_, SqL.of hl⟩, fun D nD => ?_⟩
    have hnn : ∀ q ∈ lds ll [([], b)], nnB q.2 = true := lds_nn fun q hq => by rw [List.mem_singleton.mp hq]; exact nnB_iff.mpr hbn
    have hkd : ∀ h ∈ ll, Kd b.length h := fun h hh => (hkk h hh).1
    have hbd : (lds ll [([], b)]).length ≤ 500000 := by
      have := (lds_all hkd rfl (Nat.le_refl _) (Nat.le_refl ll.length)).2
      rw [List.take_length] at this
      exact Nat.le_trans this hpow
    have efil := all_fils (b := b) hkd rfl
    generalize lds ll [([], b)] = L at hLd hnn hbd efil
    refine lc_list (K := K) (a := l) (xs := ra.map V.ref) (fun i H' => Same H1 H' ∧ ∃ ca : List Addr, H' D = some (.lst (ca.map V.ref)) ∧ Rows H' ca (((L.take i).filter fun q => zeroB q.2).map (·.1))) ⟨same_new nD, [], upd_same, by rw [List.take_zero]; exact True.intro⟩ (fun i H' _ hP => SqL.of (hP.1 _ _ hl)) (fun i x H' hx ⟨sj, ca, hD, hR⟩ => ?_) (fun H' ⟨sj, ca, hD, hR⟩ => ?_)
    · obtain ⟨a, ha, rfl⟩ : ∃ a, ra[i]? = some a ∧ x = V.ref a := by
        rw [List.getElem?_map] at hx
        cases e : ra[i]? with
        | none => rw [e] at hx; cases hx
        | some a => rw [e] at hx; exact ⟨a, rfl, (Option.some.inj hx).symm⟩
      have hiL : i < L.length := by
        rw [← hLd.1]
        exact (List.getElem?_eq_some_iff.mp ha).1
      have hqi : L[i]? = some L[i] := List.getElem?_eq_getElem hiL
      obtain ⟨r1, r2, hra, hr1, hr2⟩ := (hLd.2 i a _ ha hqi).same sj
      have hn2 := hnn _ (List.getElem_mem hiL)
      have etk : (L.take (i + 1)).filter (fun q => zeroB q.2) = (L.take i).filter (fun q => zeroB q.2) ++ (if zeroB L[i].2 = true then [L[i]] else []) := by
        rw [List.take_add_one, hqi, List.filter_append]
        congr 1
        show List.filter _ [L[i]] = _
        rw [List.filter_cons, List.filter_nil]
      rw [etk]
      generalize L[i] = qi at hr1 hr2 hn2 ⊢
      refine ⟨a, _, rfl, SqT.of hra, rfl, _, _, rfl, _, _, rfl, rfl, rfl, ?_⟩
      refine ⟨.ref r2, rfl, r2, _, rfl, SqT.of hr2, rfl, _, rfl, ite2 (fun c1 => ?_) (fun c1 => ?_)⟩
      · have hz0 : zeroB qi.2 = true := (sum_zero_iff (nnB_iff.mp hn2)).mp (V.int.inj (of_decide_eq_true c1))
        rw [if_pos hz0]
        refine ⟨.ref r1, rfl, _, hD, ?_, same_late sj nD, ca ++ [r1], ?_, ?_⟩
        · rw [List.length_map, hR.len, List.length_map]
          refine smallM (Nat.le_trans (List.length_filter_le _ _) (Nat.le_trans (List.length_take_le' _ _) (by omega)))
        · rw [upd_same, List.map_append]
          rfl
        · rw [List.map_append]
          exact (hR.lput hD).app ⟨hr1.put hD, True.intro⟩
      · have hz0 : ¬ zeroB qi.2 = true := fun z => c1 (decide_eq_true (by rw [(sum_zero_iff (nnB_iff.mp hn2)).mpr z]))
        rw [if_neg hz0, List.append_nil]
        exact ⟨sj, ca, hD, hR⟩
    · rw [List.length_map, hLd.1, List.take_length, efil] at hR
      exact q H' D ca (s1.trans sj) (s1.free nD) hD hR
def spSmallBill : Sp := fun vs H Q _ => ∃ (f c p : Addr) (as : List Addr) (ll : List (List Int)), vs = [.ref f, .ref p] ∧ FeedAt c H f ∧ RowsAt H p as ll ∧ 1 ≤ ll.length ∧ 1 ≤ width ll ∧ width ll ≤ 3 ∧
  ∀ H' t b, Kp f H H' → FeedAt c H' f → IntsAt H' t b → b.length = width ll → (∀ n ∈ b, 0 ≤ n ∧ n < limW (width ll)) → Q (.ref t) H'
theorem ok_smallBill {f : Addr} {fd : FuncData} (F : Fun K "_law_small_bill" "_law_small_bill" sSmallBill f fd) (B : Bl mg) (CD : Cal P w K mg base CX0 1 "_law_draw" ["_law_feed_here", "_law_many"] spDraw) : FnOk P w K mg base CX0 2 f fd ["_law_feed_here", "_law_mlot"] spSmallBill := by
  obtain ⟨fD, fdD, GD, gD, kD, bD⟩ := CD.ex
  refine F.ok scSB (fun vs H Q E h => ?_) (fun cdv A outer s H vs Q E hr h => ?_)
  · obtain ⟨a, c, p, as, ll, rfl, _⟩ := h
    rfl
  · obtain ⟨a, c, p, as, ll, rfl, Fd, R, l1, w1, w3, q⟩ := h
    refine ⟨_, (pss_one (ps_ret (pe_callTy call_tuple_of (by rfl) B.tuple (by decide +kernel) (pa_cons (pe_lc (own := [("_law_good", 2)]) (g := gName 2) (tt := tYes) (te := tCall spDraw [] E0 (tCons (tVar 0) (tCons (tOp (rIxL K) (tLst (tCons (tC (.int 13)) (tCons (tC (.int 6)) (tCons (tC (.int 4)) tNil)))) (tOp (rI0 fun i j => .int (i - j)) (tCB (fun xs H Q => ∃ p xs', xs = [.ref p] ∧ (SqL K H p xs' ∨ SqT K H p xs') ∧ Q (.int xs'.length) H) (tCons (tOp (rIxT K) (tVar 1) (tC (.int 0))) tNil)) (tC (.int 1)))) tNil))) rfl scSB.nd (pi_tup (pe_ix ix_tup (pv 1) pe_int (fun _ _ => rfl)))
        (blkOk_by (own := [("_law_good", 2)]) (N := ["_law_feed_here", "_law_mlot", "_law_good"]) (sc := defScope sSmallBill) (by decide +kernel)) (fun _ _ _ _ _ => pg_name (i := 2) scSB.nd rfl (Or.inl rfl)) (fun _ _ _ _ _ => pts_nil)
        (fun _ _ _ _ _ => (pe_call GD hr (by rfl) gD kD bD .nil pass0 (pa_cons (pv 0) (pa_cons (pe_ix (r := rIxL K) ix_list (pe_lst (pa_cons pe_int (pa_cons pe_int (pa_cons pe_int pa_nil)))) (pe_op op_sub (pe_callB call_len_seq (by rfl) B.len PySem.boot_len (pa_cons (pe_ix (r := rIxT K) ix_tup (pv 1) pe_int (fun _ _ => rfl)) pa_nil)) pe_int) (fun _ _ => rfl)) pa_nil))))) pa_nil)))), ?_⟩
    obtain ⟨a0, ha0, hh0, hw⟩ := R.2.head l1
    have at0 : atI (as.map V.ref) 0 = some (.ref a0) := atI_nat (j := 0) (by rw [List.getElem?_map, ha0]; rfl)
    have hal : as.length = ll.length := R.2.len
    refine ⟨.ref p, rfl, p, _, 0, .ref a0, rfl, rfl, SqT.of R.1, at0, a0, rfl, ⟨_, SqT.of hh0⟩, fun D nD => ?_⟩
    have nDf : D ≠ a := Fd.ne nD
    have nDc : D ≠ c := Fd.neC nD
    have hs0 : ∀ H', Kp a H H' → SqT K H' p (as.map V.ref) ∧ SqT K H' a0 _ := fun H' kp => ⟨SqT.of (kp _ _ (Fd.tup R.1) R.1), SqT.of (kp _ _ (Fd.tup hh0) hh0)⟩
    refine lc_tup (K := K) (a := a0) (fun i H' => Kp a H H' ∧ FeedAt c H' a ∧ ∃ ns : List Int, H' D = some (.lst (ns.map V.int)) ∧ ns.length = i ∧ ∀ n ∈ ns, 0 ≤ n ∧ n < limW (width ll)) ⟨Kp.new nD, Fd.new nD, [], upd_same, rfl, fun n hn => by cases hn⟩ (fun i H' _ hP => (hs0 H' hP.1).2) (fun i x H' hx ⟨kp, F', ns, hD, hl, hb⟩ => ?_) (fun H' ⟨kp, F', ns, hD, hl, hb⟩ => ?_)
    · have hil : i < width ll := by
        have := (List.getElem?_eq_some_iff.mp hx).1
        rw [List.length_map, hw] at this
        exact this
      refine ⟨rfl, yes (iteT ?_)⟩
      refine ⟨.ref a, rfl, by show 3 ≤ sizeLine; decide, fun L nL => ?_⟩
      have sL := same_new (o := .lst [.int 13, .int 6, .int 4]) nL
      have kL := kp.trans (Kp.new (f := a) (o := .lst [.int 13, .int 6, .int 4]) nL)
      obtain ⟨sp, sa⟩ := hs0 _ kL
      have el : atI [V.int 13, V.int 6, V.int 4] (((width ll : Nat) : Int) - 1) = some (.int (limW (width ll))) := by
        unfold limW
        have : width ll = 1 ∨ width ll = 2 ∨ width ll = 3 := by omega
        rcases this with e | e | e <;> rw [e] <;> rfl
      refine ⟨.ref p, rfl, p, _, 0, .ref a0, rfl, rfl, sp, at0, a0, _, rfl, .inr sa, _, 1, rfl, rfl, L, _, _, .int (limW (width ll)), rfl, rfl, SqL.of upd_same, by rw [List.length_map, hw]; exact el, ?_⟩
      have hl1 : 1 ≤ limW (width ll) ∧ limW (width ll) ≤ 13 := by
        unfold limW
        split
        · decide
        · split <;> decide
      refine ⟨a, c, limW (width ll), rfl, hl1.1, by omega, F'.same sL, fun d H2 d0 d1 k2 F2 => ?_⟩
      obtain ⟨acc, e1, e2, e3, e4, ms, e5, e6, e7⟩ := drawn nD nDf nDc kL (sL _ _ hD) k2 F2 (by omega) hb d0 d1
      exact ⟨acc, e1, e2, e3, e4, ms, e5, by rw [e6, hl], e7⟩
    · refine ⟨D, _, rfl, .inl ⟨SqL.of hD, fun t nt => ?_⟩⟩
      exact q _ t ns (kp.trans (Kp.new nt)) (F'.new nt) upd_same (by rw [hl, List.length_map, hw]) hb
end
end HL

set_option pp.maxSteps 3000
namespace HL
open PySem PySem.Spec PyProof.Rows L2
theorem scTk : FnScope ["bill", "hold", "told", "count", "left"] ["bill", "hold"] (defScope sTakings) := ⟨rfl, rfl, rfl, by decide +kernel, rfl, by decide +kernel, by decide +kernel⟩
/-- a pair of a count and a row -/
def PrAt (H : Hp) (a : Addr) (q : Int × List Int) : Prop := ∃ r : Addr, H a = some (.tup [.int q.1, .ref r]) ∧ IntsAt H r q.2
theorem PrAt.same {H H' : Hp} {a : Addr} {q : Int × List Int} (x : PrAt H a q) (s : Same H H') : PrAt H' a q := by
  obtain ⟨r, h1, h2⟩ := x
  exact ⟨r, s _ _ h1, h2.same s⟩
theorem PrAt.put {H : Hp} {a D : Addr} {q : Int × List Int} {xs ys : List V} (x : PrAt H a q) (hD : H D = some (.lst xs)) : PrAt (upd H D (.lst ys)) a q := by
  obtain ⟨r, h1, h2⟩ := x
  have h2' : H r = some (.tup (q.2.map V.int)) := h2
  refine ⟨r, ?_, ?_⟩
  · rw [upd_ne fun e => ?_]
    · exact h1
    · rw [e, hD] at h1
      cases h1
  · show upd H D (.lst ys) r = some (.tup (q.2.map V.int))
    rw [upd_ne fun e => ?_]
    · exact h2'
    · rw [e, hD] at h2'
      cases h2'
def PrsAt (H : Hp) (as : List Addr) (qs : List (Int × List Int)) : Prop := as.length = qs.length ∧ ∀ (i : Nat) (a : Addr) (q : Int × List Int), as[i]? = some a → qs[i]? = some q → PrAt H a q
theorem PrsAt.map {H H' : Hp} {as : List Addr} {qs : List (Int × List Int)} (x : PrsAt H as qs) (f : ∀ a q, PrAt H a q → PrAt H' a q) : PrsAt H' as qs := ⟨x.1, fun i a q h1 h2 => f a q (x.2 i a q h1 h2)⟩
theorem PrsAt.more {H : Hp} {as : List Addr} {qs : List (Int × List Int)} {a : Addr} {q : Int × List Int} (x : PrsAt H as qs) (y : PrAt H a q) : PrsAt H (as ++ [a]) (qs ++ [q]) := by
  refine ⟨by rw [List.length_append, List.length_append, x.1]; rfl, fun i b p h1 h2 => ?_⟩
  by_cases c : i < as.length
  · rw [List.getElem?_append_left c] at h1
    rw [List.getElem?_append_left (by rw [← x.1]; exact c)] at h2
    exact x.2 i b p h1 h2
  · rw [List.getElem?_append_right (by omega)] at h1
    rw [List.getElem?_append_right (by rw [← x.1]; omega)] at h2
    rw [← x.1] at h2
    cases e : i - as.length with
    | zero =>
      rw [e] at h1 h2
      cases Option.some.inj h1
      cases Option.some.inj h2
      exact y
    | succ n =>
      rw [e] at h1
      simp at h1
/-- the takings, as told -/
def tks (b h : List Int) (k : Nat) : List (Int × List Int) := (List.range k).map fun (j : Nat) => ((j : Int), subR b h (j : Int))
section
variable {P : Program} {w : World} {K : PySem.W.Frag} {mg : Str → Option Value} {base : Heap}
def spTakings : Sp := fun vs H Q _ => ∃ (a c : Addr) (b h : List Int), vs = [.ref a, .ref c] ∧ IntsAt H a b ∧ IntsAt H c h ∧ Kd b.length h ∧ b.length ≤ 3 ∧ (∀ n ∈ b, 0 ≤ n) ∧ b.sum ≤ 900 ∧
  ∀ H' l as k, Same H H' → H l = none → takes b h = List.range k → H' l = some (.lst (as.map V.ref)) → PrsAt H' as (tks b h k) → Q (.ref l) H'
theorem ok_takings {f : Addr} {fd : FuncData} (F : Fun K "takings" "takings" sTakings f fd) (B : Bl mg) (CLe : CalLess P w K mg base) : FnOk P w K mg base CX0 2 f fd ["bill", "hold"] spTakings := by
  obtain ⟨fLe, fdLe, tL, GLe, gLe, kLe, bLe⟩ := CLe
  have vd : Vals [V.int 1] [Value.int 1 tL] := .cons ⟨_, rfl⟩ .nil
  refine F.ok scTk (fun vs H Q E h => ?_) (fun cdv A outer s H vs Q E hr h => ?_)
  · obtain ⟨a, c, b, h, rfl, _⟩ := h
    rfl
  · obtain ⟨a, c, b, h, rfl, hA, hC, kh, hl3, hnn, hsum, q⟩ := h
    refine ⟨_, (pss_cons (ps_set (i := 2) scTk.nd rfl (.inl rfl) (pe_lst pa_nil))
      (pss_cons (ps_set (i := 3) scTk.nd rfl (.inl rfl) pe_int)
      (pss_cons (ps_set (i := 4) scTk.nd rfl (.inl rfl) (pv 0))
      (pss_cons (ps_while PassesOwn.never (pt_cmpR op_ge (pe_callB (cr_minT rfl hr.units) (by rfl) B.min (by decide +kernel) (pa_cons (pv 4) pa_nil)) pe_int (nomark _))
      (pss_cons (ps_expr (pe_bm PySem.F.plainAttrs_list PySem.F.slot_list_append PySem.F.type_list_append mt_append (pv 2) (pa_cons (pe_tup (pa_cons (pv 3) (pa_cons (pv 4) pa_nil))) pa_nil)))
      (pss_cons (ps_aug (i := 3) scTk.nd rfl (.inl rfl) pe_int ip_add)
      (pss_one (ps_set (i := 4) scTk.nd rfl (.inl rfl) (pe_call GLe hr (by rfl) gLe kLe bLe vd pass0 (pa_cons (pv 4) (pa_cons (pv 1) pa_nil))))))))
      (pss_one (ps_ret (pv 2))))))), ?_⟩
    have hg : 0 < b.length := by
      obtain ⟨n, hn, _⟩ := kh.2.2
      have := List.length_pos_of_mem hn
      rw [kh.1] at this
      exact this
    have eb : b.length = h.length := kh.1.symm
    refine ⟨by show 0 ≤ sizeLine; decide, fun D nD => ?_⟩
    have sD := same_new (o := .lst []) nD
    refine ⟨.ref a, rfl, ?_⟩
    refine while_by (fun σ H' => ∃ (k : Nat) (lf : Addr) (as : List Addr), σ = [some (.ref a), some (.ref c), some (.ref D), some (.int (k : Int)), some (.ref lf)] ∧ Same H H' ∧ H' D = some (.lst (as.map V.ref)) ∧ PrsAt H' as (tks b h k) ∧ IntsAt H' lf (subR b h (k : Int)) ∧ ∀ j, j < k → nnB (subR b h (j : Int)) = true)
      (fun σ _ => match σ with | [_, _, _, some (.int k), _] => b.sum.toNat + 2 - k.toNat | _ => 0)
      ⟨0, a, [], rfl, sD, upd_same, ⟨rfl, fun i _ _ h _ => by simp at h⟩, by rw [show ((0 : Nat) : Int) = 0 from rfl, subR_zero eb]; exact hA.same sD, fun j hj => absurd hj (Nat.not_lt_zero _)⟩ ?_ ?_
    · rintro σ H' ⟨k, lf, as, rfl, sm, hD, hP, hL, hk⟩
      have hll : (subR b h (k : Int)).length = b.length := subR_len eb
      refine ⟨.ref lf, rfl, lf, _, rfl, SqT.of hL, by rw [hll]; exact hg, fun mn hmn hmin => ⟨mn, 0, rfl, rfl, _, rfl, ?_⟩⟩
      refine ite2 (fun c1 => ?_) (fun c1 => ?_)
      · have c1' := of_decide_eq_true c1
        have en : nnB (subR b h (k : Int)) = true := nnB_iff.mpr fun n hn => Int.le_trans c1' (hmin n hn)
        have hkb := fits_lt kh rfl en
        refine ⟨.ref D, rfl, .inl ⟨rfl, _, SqL.of hD⟩, .int (k : Int), rfl, .ref lf, rfl, by show 2 ≤ sizeLine; decide, fun t nt => ?_⟩
        have st := same_new (o := .tup [.int (k : Int), .ref lf]) nt
        have hlen : as.length ≤ 900 := by
          rw [hP.1, tks, List.length_map, List.length_range]
          have := sum_nn hnn
          omega
        refine ⟨D, _, .ref t, rfl, rfl, st _ _ hD, by rw [List.length_map]; exact small1000 (by omega), ?_⟩
        have hD2 : upd H' t (.tup [.int (k : Int), .ref lf]) D = some (.lst (as.map V.ref)) := st _ _ hD
        have hL2 := hL.same st
        have hP2 : PrsAt (upd H' t (.tup [.int (k : Int), .ref lf])) (as ++ [t]) (tks b h (k + 1)) := by
          rw [show tks b h (k + 1) = tks b h k ++ [((k : Int), subR b h (k : Int))] by unfold tks; rw [List.range_succ, List.map_append]; rfl]
          exact (hP.map fun a q x => x.same st).more ⟨lf, upd_same, hL2⟩
        have sm2 := sm.trans st
        generalize upd H' t (.tup [.int (k : Int), .ref lf]) = H2 at *
        have hP3 := hP2.map fun a q x => x.put (ys := as.map V.ref ++ [.ref t]) hD2
        have sm3 : Same H (upd H2 D (.lst (as.map V.ref ++ [.ref t]))) := same_late sm2 nD
        have hL3 : IntsAt (upd H2 D (.lst (as.map V.ref ++ [.ref t]))) lf (subR b h (k : Int)) := by
          have hL2' : H2 lf = some (.tup ((subR b h (k : Int)).map V.int)) := hL2
          show upd H2 D _ lf = _
          rw [upd_ne fun e => ?_]
          · exact hL2'
          · rw [e, hD2] at hL2'
            cases hL2'
        refine ⟨.int (k : Int), rfl, (k : Int), 1, rfl, rfl, ?_⟩
        refine ⟨.ref lf, rfl, .ref c, rfl, lf, c, _, h, 1, rfl, hL3, hC.same sm3, by rw [hll, eb], by omega, by decide, by decide, fun H4 z s4 hz => ?_⟩
        rw [subR_add] at hz
        refine ⟨⟨k + 1, z, as ++ [t], rfl, sm3.trans s4, ?_, hP3.map fun a q x => x.same s4, hz, fun j hj => ?_⟩, ?_⟩
        · rw [List.map_append]
          exact s4 _ _ upd_same
        · by_cases w : j < k
          · exact hk j w
          · rw [show j = k by omega]
            exact en
        · show b.sum.toNat + 2 - ((k : Int) + 1).toNat < b.sum.toNat + 2 - ((k : Int)).toNat
          omega
      · have c1' : ¬ (0 ≤ mn) := fun z => c1 (decide_eq_true z)
        have en : nnB (subR b h (k : Int)) = false := by
          cases e : nnB (subR b h (k : Int)) with
          | false => rfl
          | true => exact absurd (nnB_iff.mp e mn hmn) c1'
        exact ⟨.ref D, rfl, q H' D as k sm nD (takes_to kh rfl hk en) hD hP⟩
    · intro σ H' Q1 Q2 hq x
      obtain ⟨v, h1, p, ns, h2, h3, h4, h5⟩ := x
      refine ⟨v, h1, p, ns, h2, h3, h4, fun m hm hmin => ?_⟩
      obtain ⟨i, j, e1, e2, bb, e3, r⟩ := h5 m hm hmin
      exact ⟨i, j, e1, e2, bb, e3, hq _ _ r⟩
end
end HL

set_option pp.maxSteps 3000
namespace HL
open PySem PySem.Spec PyProof.Rows L2
open C8 (pss_cut)
open RZ (pi_zipA ItzT iZipA)
abbrev NFi : List Str := ["lot", "bill", "most", "tables", "begun", "kind", "hold", "counts", "rest", "count", "left"]
theorem scFl : FnScope NFi ["lot", "bill", "most"] (defScope sFillings) := ⟨rfl, rfl, rfl, by decide +kernel, rfl, by decide +kernel, by decide +kernel⟩
section
variable {P : Program} {w : World} {K : PySem.W.Frag} {mg : Str → Option Value} {base : Heap}
theorem fil_term {f : Addr} {fd : FuncData} {CB CM : Addr} {cdv : Value} {A : Around} {outer : List Env} {s : Shared} {H : Hp} {E : XK} (B : Bl mg) (T : BadTxt P w K mg base "TooMany" CM "most" "too many") (CBo : Cal P w K mg base (L2.CX P w) 5 "look_both" ["lot", "bill"] (spBothR CB)) (CT : Cal P w K mg base CX0 3 "tables_of" ["lot", "bill"] spTables) (CK : Cal P w K mg base CX0 2 "takings" ["bill", "hold"] spTakings)
    (hr : Room 6 (cxOf (L2.CX P w) P w K mg base NFi "fillings" (defScope sFillings) f cdv A outer s H E).A) (hu : (cxOf (L2.CX P w) P w K mg base NFi "fillings" (defScope sFillings) f cdv A outer s H E).A.units + 1 < cLine) :
    ∃ t, PSs (cxOf (L2.CX P w) P w K mg base NFi "fillings" (defScope sFillings) f cdv A outer s H E) (defBody sFillings) t := by
  obtain ⟨fI, fdI, iC, tI, GI, bI⟩ := T.ini
  obtain ⟨fB, fdB, GB, gB, kB, bB⟩ := CBo.ex
  obtain ⟨fT, fdT, GT, gT, kT, bT⟩ := CT.ex
  obtain ⟨fK, fdK, GK, gK, kK, bK⟩ := CK.ex
  exact ⟨_, (pss_cons (ps_expr (pe_call GB (hr.mono (by decide)) (by rfl) gB kB bB .nil (passes_call (takes_of rfl rfl rfl rfl) (fun _ _ _ _ h => h)) (pa_cons (pv 0) (pa_cons (pv 1) pa_nil))))
    (pss_cons (ps_set (i := 3) scFl.nd rfl (.inr rfl) (pe_call GT (hr.mono (by decide)) (by rfl) gT kT bT .nil pass0 (pa_cons (pv 0) (pa_cons (pv 1) pa_nil))))
    (pss_cons (ps_if (pt_cmpR op_gt (pe_dget2 hu (pe_ix ix_list (pv 3) pe_int (fun _ _ => rfl)) (pv 1) pe_int ⟨rfl, rfl, rfl, rfl⟩) (pv 2) (nomark _)) (pss_one (ps_raise rfl (takes_of rfl rfl rfl rfl) (pmk_oex T.c2.ox iC tI GI (hr.mono (by decide)) bI .nil pass0 (by rfl) T.gC (pa_cons (pv 2) pa_nil)))) pss_nil)
    (pss_cut (ps_set (i := 4) scFl.nd rfl (.inl rfl) (pe_ifExp (pt_cmp (pc_din hu (pv 1) (pe_ix ix_list (pv 3) pe_int (fun _ _ => rfl))) (by rfl)) (pe_lst (pa_cons (pe_tup (pa_cons (pe_tup pa_nil) (pa_cons (pv 1) pa_nil))) pa_nil)) (pe_lst pa_nil)))
    (pss_cut (ps_for (passes_of rfl) rfl (pi_enumT (by rfl) B.enumerate (pa_cons (pe_slice sl_tupA (pv 0) po_none (po_some (pe_un un_neg pe_int))) pa_nil)) (pg_tup rfl (pgs_cons (pg_name (i := 5) scFl.nd rfl (.inr rfl)) (pgs_cons (pg_name (i := 6) scFl.nd rfl (.inr rfl)) pgs_nil)))
      (pss_one (ps_setLc2 (i := 4) (own := [("counts", 7), ("rest", 8), ("count", 9), ("left", 10)]) (vs1 := [9, 10]) (g := gTup K 2 (gCons (gName 7) (gCons (gName 8) gNil))) (g1 := gTup K 2 (gCons (gName 9) (gCons (gName 10) gNil))) (tt := tYes)
        (tt1 := tTest (tDIn (tVar 10) (tOp (rIxL K) (tVar 3) (tOp (rI0 fun i j => .int (i + j)) (tVar 5) (tC (.int 1)))))) (wi1 := iList K (tCall spTakings [] E0 (tCons (tVar 8) (tCons (tVar 6) tNil)))) rfl scFl.nd rfl rfl (sw_true rfl rfl rfl (by decide +kernel)) (pi_list (pv 4))
        (blkOk_by (own := [("counts", 7), ("rest", 8), ("count", 9), ("left", 10)]) (N := NFi) (sc := defScope sFillings) (by decide +kernel)) (by decide) (fun _ _ _ _ _ => pg_tup rfl (pgs_cons (pg_name (i := 7) scFl.nd rfl (Or.inl rfl)) (pgs_cons (pg_name (i := 8) scFl.nd rfl (Or.inl rfl)) pgs_nil))) (fun _ _ _ _ _ => pts_nil)
        (fun _ _ _ _ _ => pi_list (pe_call GK (hr.mono (by decide)) (by rfl) gK kK bK .nil pass0 (pa_cons (pv 8) (pa_cons (pv 6) pa_nil)))) (fun _ _ _ _ _ => pg_tup rfl (pgs_cons (pg_name (i := 9) scFl.nd rfl (Or.inl rfl)) (pgs_cons (pg_name (i := 10) scFl.nd rfl (Or.inl rfl)) pgs_nil)))
        (fun _ _ _ _ _ => pts_one (pt_cmp (pc_din hu (pv 10) (pe_ix (r := rIxL K) ix_list (pv 3) (pe_op op_add (pv 5) pe_int) (fun _ _ => rfl))) (by rfl)))
        (fun _ _ _ _ _ => pe_tup (pa_cons (pe_op (r := rCatA K) op_catA (pv 7) (pe_tup (pa_cons (pv 9) pa_nil))) (pa_cons (pv 10) pa_nil))))))
    (pss_one (ps_ret (pe_lc (own := [("counts", 7), ("rest", 8)]) (g := gTup K 2 (gCons (gName 7) (gCons (gName 8) gNil))) (tt := tYes) (te := tOp (rCatA K) (tVar 7) (tTup (tCons (tOp (rI CDiv fun i j => .int (i / j)) (tCB (rSumT K) (tCons (tVar 8) tNil)) (tCB (rSumT K) (tCons (tOp (rIxT K) (tVar 0) (tUn (rU fun i => .int (-i)) (tC (.int 1)))) tNil))) tNil))) rfl scFl.nd (pi_list (pv 4))
      (blkOk_by (own := [("counts", 7), ("rest", 8)]) (N := NFi) (sc := defScope sFillings) (by decide +kernel)) (fun _ _ _ _ _ => pg_tup rfl (pgs_cons (pg_name (i := 7) scFl.nd rfl (Or.inl rfl)) (pgs_cons (pg_name (i := 8) scFl.nd rfl (Or.inl rfl)) pgs_nil))) (fun _ _ _ _ _ => pts_nil)
      (fun _ _ _ _ _ => pe_op (r := rCatA K) op_catA (pv 7) (pe_tup (pa_cons (pe_op op_fdiv (pe_callB (cr_sumT rfl) (by rfl) B.sum (by decide +kernel) (pa_cons (pv 8) pa_nil)) (pe_callB (cr_sumT rfl) (by rfl) B.sum (by decide +kernel) (pa_cons (pe_ix (r := rIxT K) ix_tup (pv 0) (pe_un un_neg pe_int) (fun _ _ => rfl)) pa_nil))) pa_nil)))))))))))⟩
end
end HL

set_option pp.maxSteps 3000
namespace HL
open PySem PySem.Spec PyProof.Rows L2
open C8 (pss_cut)
theorem walk_enumT {K : PySem.W.Frag} {a : Addr} {xs : List V} : Walk (IteT K a) xs.length (fun H => SqT K H a xs) (YPair (fun i => some (.int (i : Nat))) (fun i => xs[i]?)) := by
  refine ⟨fun i _ hi q => ⟨xs, xs[i], q, by simp [hi]⟩, fun _ q => ⟨xs, q, Nat.le_refl _⟩, fun i H v H' _ q y => ?_⟩
  obtain ⟨T, x, h1, h2, h3, h4⟩ := y
  exact ⟨T, .int (i : Nat), x, h1, h2, h3, rfl, h4 xs q⟩
theorem cut_last {xs : List V} : cutV xs none (some (-1)) = xs.take (xs.length - 1) := by
  unfold cutV
  have e : HT.sIx xs.length xs.length (some (-1)) = xs.length - 1 := by
    show (if (-1 : Int) < 0 then ((-1 : Int) + (xs.length : Int)).toNat else min (-1 : Int).toNat xs.length) = _
    rw [if_pos (by decide)]
    omega
  rw [HT.sIx_none, e, List.drop_zero, Nat.sub_zero]
theorem beg_few {g : Nat} {ll : List (List Int)} {S : List (List Int × List Int)} (hl : ∀ x ∈ ll, Kd g x) (hS : ∀ q ∈ S, q.2.length = g ∧ 0 < cnt ll q.2) {i : Nat} (hi : i ≤ ll.length) : (begAt ll S i).length ≤ (S.flatMap fun q => (fils ll q.2).map fun c => q.1 ++ c).length := by
  rw [← begAt_fils hl (fun q hq => (hS q hq).1) hi]
  have hsome := begAt_some (fun q hq => (hS q hq).2) (i := i)
  generalize begAt ll S i = l at hsome
  induction l with
  | nil => exact Nat.zero_le _
  | cons q l ih =>
    rw [List.flatMap_cons, List.length_append, List.length_map, fils_len, List.length_cons]
    have := ih fun x hx => hsome x (List.mem_cons_of_mem _ hx)
    have := hsome q List.mem_cons_self
    omega
def begS (ll : List (List Int)) (b : List Int) : List (List Int × List Int) := if 0 < cnt ll b then [([], b)] else []
theorem begS_ok {ll : List (List Int)} {b : List Int} : ∀ q ∈ begS ll b, q.2.length = b.length ∧ 0 < cnt ll q.2 := fun q hq => by
  unfold begS at hq
  by_cases c : 0 < cnt ll b
  · rw [if_pos c] at hq
    rw [List.mem_singleton.mp hq]
    exact ⟨rfl, c⟩
  · rw [if_neg c] at hq
    cases hq
theorem begS_few {ll : List (List Int)} {b : List Int} (hl : ∀ x ∈ ll, Kd b.length x) {i : Nat} (hi : i ≤ ll.length) : (begAt ll (begS ll b) i).length ≤ cnt ll b := by
  refine Nat.le_trans (beg_few hl begS_ok hi) ?_
  unfold begS
  by_cases c : 0 < cnt ll b
  · rw [if_pos c, List.flatMap_cons, List.flatMap_nil, List.append_nil, List.length_map, fils_len]
    exact Nat.le_refl _
  · rw [if_neg c]
    exact Nat.zero_le _
theorem bel_sub : ∀ {r b h : List Int} {k : Int}, Bel r b → r.length = h.length → (∀ n ∈ h, 0 ≤ n) → 0 ≤ k → nnB (subR r h k) = true → Bel (subR r h k) b
  | [], [], [], _, _, _, _, _, _ => True.intro
  | x :: r, y :: b, z :: h, k, hb, hl, hn, hk, hnn => by
    rw [subR_cons] at hnn ⊢
    have hall := nnB_iff.mp hnn
    have h1 := hall _ List.mem_cons_self
    have h2 := Int.mul_nonneg hk (hn z List.mem_cons_self)
    have h3 := hb.1
    exact ⟨⟨h1, by omega⟩, bel_sub hb.2 (by simpa using hl) (fun n hn' => hn n (List.mem_cons_of_mem _ hn')) hk (nnB_iff.mpr fun n hn' => hall n (List.mem_cons_of_mem _ hn'))⟩
  | [], _ :: _, _, _, h, _, _, _, _ => h.elim
  | _ :: _, [], _, _, h, _, _, _, _ => h.elim
  | [], [], _ :: _, _, _, hl, _, _, _ => by simp at hl
  | _ :: _, _ :: _, [], _, _, hl, _, _, _ => by simp at hl
/-- what is left stays within the bill -/
theorem begAt_bel {ll : List (List Int)} {b : List Int} (hl : ∀ x ∈ ll, Kd b.length x) (hb : ∀ n ∈ b, 0 ≤ n) : ∀ {i : Nat}, i ≤ ll.length → ∀ q ∈ begAt ll (begS ll b) i, Bel q.2 b
  | 0, _, q, hq => by
    have hq' : q ∈ begS ll b := hq
    unfold begS at hq'
    by_cases c : 0 < cnt ll b
    · rw [if_pos c] at hq'
      rw [List.mem_singleton.mp hq']
      exact Bel.self hb
    · rw [if_neg c] at hq'
      cases hq'
  | i + 1, hi, q, hq => by
    obtain ⟨q0, h0, h1⟩ := List.mem_flatMap.mp hq
    have ih := begAt_bel hl hb (i := i) (by omega) q0 h0
    have e0 := begAt_len hl (fun q hq => (begS_ok q hq).1) (i := i) (by omega) q0 h0
    have hm : ll.getD i [] ∈ ll := by
      rw [List.getD_eq_getElem?_getD, List.getElem?_eq_getElem (by omega)]
      exact List.getElem_mem _
    have kh := hl _ hm
    unfold begF at h1
    obtain ⟨k, hk, rfl⟩ := List.mem_map.mp h1
    have hk2 := (List.mem_filter.mp hk).1
    unfold takes at hk2
    have hnn := (List.mem_filter.mp hk2).2
    exact bel_sub ih (by rw [e0, kh.1]) kh.2.1 (by omega) hnn
end HL

set_option pp.maxSteps 3000
namespace HL
open PySem PySem.Spec PyProof.Rows L2
open C8 (pss_cut)
theorem sum_most {c : Int} : ∀ {b : List Int}, (∀ n ∈ b, n ≤ c) → b.sum ≤ c * (b.length : Nat)
  | [], _ => by simp
  | x :: b, h => by
    have := h x List.mem_cons_self
    have := sum_most (b := b) fun n hn => h n (List.mem_cons_of_mem _ hn)
    rw [List.sum_cons, List.length_cons, Int.natCast_add, Int.mul_add]
    omega
theorem bel_ok : ∀ {r b : List Int}, Bel r b → r.sum ≤ b.sum ∧ r.length = b.length ∧ ∀ n ∈ r, 0 ≤ n
  | [], [], _ => ⟨Int.le_refl _, rfl, fun n hn => by cases hn⟩
  | x :: r, y :: b, h => by
    obtain ⟨h1, h2⟩ := h
    obtain ⟨k1, k2, k3⟩ := bel_ok h2
    refine ⟨by rw [List.sum_cons, List.sum_cons]; omega, by rw [List.length_cons, List.length_cons, k2], fun n hn => ?_⟩
    rcases List.mem_cons.mp hn with e | e
    · rw [e]; exact h1.1
    · exact k3 n e
  | [], _ :: _, h => h.elim
  | _ :: _, [], h => h.elim
theorem begAt_cl {ll : List (List Int)} {b : List Int} : ∀ {i : Nat}, ∀ q ∈ begAt ll (begS ll b) i, q.1.length = i
  | 0, q, hq => by
    have hq' : q ∈ begS ll b := hq
    unfold begS at hq'
    by_cases c : 0 < cnt ll b
    · rw [if_pos c] at hq'
      rw [List.mem_singleton.mp hq']
      rfl
    · rw [if_neg c] at hq'
      cases hq'
  | i + 1, q, hq => by
    obtain ⟨q0, h0, h1⟩ := List.mem_flatMap.mp hq
    unfold begF at h1
    obtain ⟨k, _, rfl⟩ := List.mem_map.mp h1
    show (q0.1 ++ [(k : Int)]).length = i + 1
    rw [List.length_append, begAt_cl q0 h0]
    rfl
section
variable {P : Program} {w : World} {K : PySem.W.Frag} {mg : Str → Option Value} {base : Heap}
def spFil (CB CM : Addr) : Sp := fun vs H Q E => ∃ (p bl : Addr) (as : List Addr) (ll : List (List Int)) (b : List Int) (mo : Int), vs = [.ref p, .ref bl, .int mo] ∧ RowsAt H p as ll ∧ flaw ll = none ∧ IntsAt H bl b ∧ b.length ≤ 100 ∧
  (∀ k, wrong (width ll : Nat) b = some k → Refd CB "good" "bad bill" (.int k) H E) ∧ (wrong (width ll : Nat) b = none → boxI b ≤ 4000 ∧ b.sum ≤ 900 ∧ cnt ll b ≤ 500000 ∧ (mo < (cnt ll b : Int) → Refd CM "most" "too many" (.int mo) H E) ∧
    ((cnt ll b : Int) ≤ mo → ∀ H' l ca, Same H H' → H l = none → H' l = some (.lst (ca.map V.ref)) → Rows H' ca (fils ll b) → Q (.ref l) H'))
theorem ok_fil {f : Addr} {fd : FuncData} {CB CM : Addr} {kws : List (Str × V)} (F : FunD K "fillings" "fillings" (defArgs sFillings) (defBody sFillings) (defScope sFillings) [] kws f fd) (B : Bl mg) (T : BadTxt P w K mg base "TooMany" CM "most" "too many") (CBo : Cal P w K mg base (L2.CX P w) 5 "look_both" ["lot", "bill"] (spBothR CB)) (CT : Cal P w K mg base CX0 3 "tables_of" ["lot", "bill"] spTables) (CK : Cal P w K mg base CX0 2 "takings" ["bill", "hold"] spTakings) :
    FnOk P w K mg base (L2.CX P w) 6 f fd ["lot", "bill", "most"] (spFil CB CM) := by
  obtain ⟨fI, fdI, iC, tI, GI, bI⟩ := T.ini
  obtain ⟨fB, fdB, GB, gB, kB, bB⟩ := CBo.ex
  obtain ⟨fT, fdT, GT, gT, kT, bT⟩ := CT.ex
  obtain ⟨fK, fdK, GK, gK, kK, bK⟩ := CK.ex
  refine F.ok scFl (fun vs H Q E h => ?_) (fun cdv A outer s H vs Q E hr h => ?_)
  · obtain ⟨p, bl, as, ll, b, mo, rfl, _⟩ := h
    rfl
  · obtain ⟨p, bl, as, ll, b, mo, rfl, R, ef, hB, hz, q1, q2⟩ := h
    have hu := hu_of hr
    have hok := flaw_ok ef
    have hrw := flaw_rows ef
    have hal := R.2.len
    refine ⟨_, (pss_cons (ps_expr (pe_call GB (hr.mono (by decide)) (by rfl) gB kB bB .nil (passes_call (takes_of rfl rfl rfl rfl) (fun _ _ _ _ h => h)) (pa_cons (pv 0) (pa_cons (pv 1) pa_nil))))
    (pss_cons (ps_set (i := 3) scFl.nd rfl (.inr rfl) (pe_call GT (hr.mono (by decide)) (by rfl) gT kT bT .nil pass0 (pa_cons (pv 0) (pa_cons (pv 1) pa_nil))))
    (pss_cons (ps_if (pt_cmpR op_gt (pe_dget2 hu (pe_ix ix_list (pv 3) pe_int (fun _ _ => rfl)) (pv 1) pe_int ⟨rfl, rfl, rfl, rfl⟩) (pv 2) (nomark _)) (pss_one (ps_raise rfl (takes_of rfl rfl rfl rfl) (pmk_oex T.c2.ox iC tI GI (hr.mono (by decide)) bI .nil pass0 (by rfl) T.gC (pa_cons (pv 2) pa_nil)))) pss_nil)
    (pss_cut (ps_set (i := 4) scFl.nd rfl (.inl rfl) (pe_ifExp (pt_cmp (pc_din hu (pv 1) (pe_ix ix_list (pv 3) pe_int (fun _ _ => rfl))) (by rfl)) (pe_lst (pa_cons (pe_tup (pa_cons (pe_tup pa_nil) (pa_cons (pv 1) pa_nil))) pa_nil)) (pe_lst pa_nil)))
    (pss_cut (ps_for (passes_of rfl) rfl (pi_enumT (by rfl) B.enumerate (pa_cons (pe_slice sl_tupA (pv 0) po_none (po_some (pe_un un_neg pe_int))) pa_nil)) (pg_tup rfl (pgs_cons (pg_name (i := 5) scFl.nd rfl (.inr rfl)) (pgs_cons (pg_name (i := 6) scFl.nd rfl (.inr rfl)) pgs_nil)))
      (pss_one (ps_setLc2 (i := 4) (own := [("counts", 7), ("rest", 8), ("count", 9), ("left", 10)]) (vs1 := [9, 10]) (g := gTup K 2 (gCons (gName 7) (gCons (gName 8) gNil))) (g1 := gTup K 2 (gCons (gName 9) (gCons (gName 10) gNil))) (tt := tYes)
        (tt1 := tTest (tDIn (tVar 10) (tOp (rIxL K) (tVar 3) (tOp (rI0 fun i j => .int (i + j)) (tVar 5) (tC (.int 1)))))) (wi1 := iList K (tCall spTakings [] E0 (tCons (tVar 8) (tCons (tVar 6) tNil)))) rfl scFl.nd rfl rfl (sw_true rfl rfl rfl (by decide +kernel)) (pi_list (pv 4))
        (blkOk_by (own := [("counts", 7), ("rest", 8), ("count", 9), ("left", 10)]) (N := NFi) (sc := defScope sFillings) (by decide +kernel)) (by decide) (fun _ _ _ _ _ => pg_tup rfl (pgs_cons (pg_name (i := 7) scFl.nd rfl (Or.inl rfl)) (pgs_cons (pg_name (i := 8) scFl.nd rfl (Or.inl rfl)) pgs_nil))) (fun _ _ _ _ _ => pts_nil)
        (fun _ _ _ _ _ => pi_list (pe_call GK (hr.mono (by decide)) (by rfl) gK kK bK .nil pass0 (pa_cons (pv 8) (pa_cons (pv 6) pa_nil)))) (fun _ _ _ _ _ => pg_tup rfl (pgs_cons (pg_name (i := 9) scFl.nd rfl (Or.inl rfl)) (pgs_cons (pg_name (i := 10) scFl.nd rfl (Or.inl rfl)) pgs_nil)))
        (fun _ _ _ _ _ => pts_one (pt_cmp (pc_din hu (pv 10) (pe_ix (r := rIxL K) ix_list (pv 3) (pe_op op_add (pv 5) pe_int) (fun _ _ => rfl))) (by rfl)))
        (fun _ _ _ _ _ => pe_tup (pa_cons (pe_op (r := rCatA K) op_catA (pv 7) (pe_tup (pa_cons (pv 9) pa_nil))) (pa_cons (pv 10) pa_nil))))))
    (pss_one (ps_ret (pe_lc (own := [("counts", 7), ("rest", 8)]) (g := gTup K 2 (gCons (gName 7) (gCons (gName 8) gNil))) (tt := tYes) (te := tOp (rCatA K) (tVar 7) (tTup (tCons (tOp (rI CDiv fun i j => .int (i / j)) (tCB (rSumT K) (tCons (tVar 8) tNil)) (tCB (rSumT K) (tCons (tOp (rIxT K) (tVar 0) (tUn (rU fun i => .int (-i)) (tC (.int 1)))) tNil))) tNil))) rfl scFl.nd (pi_list (pv 4))
      (blkOk_by (own := [("counts", 7), ("rest", 8)]) (N := NFi) (sc := defScope sFillings) (by decide +kernel)) (fun _ _ _ _ _ => pg_tup rfl (pgs_cons (pg_name (i := 7) scFl.nd rfl (Or.inl rfl)) (pgs_cons (pg_name (i := 8) scFl.nd rfl (Or.inl rfl)) pgs_nil))) (fun _ _ _ _ _ => pts_nil)
      (fun _ _ _ _ _ => pe_op (r := rCatA K) op_catA (pv 7) (pe_tup (pa_cons (pe_op op_fdiv (pe_callB (cr_sumT rfl) (by rfl) B.sum (by decide +kernel) (pa_cons (pv 8) pa_nil)) (pe_callB (cr_sumT rfl) (by rfl) B.sum (by decide +kernel) (pa_cons (pe_ix (r := rIxT K) ix_tup (pv 0) (pe_un un_neg pe_int) (fun _ _ => rfl)) pa_nil))) pa_nil))))))))))), ?_⟩
    refine ⟨.ref p, rfl, .ref bl, rfl, p, bl, as, ll, b, rfl, R, ef, hB, hz, fun ew => ?_, q1⟩
    obtain ⟨hx, hsum, hfew, qm, q⟩ := q2 ew
    refine ⟨hx, fun H1 s1 => ?_⟩
    obtain ⟨hl0, hb⟩ := wrong_ok ew
    have hl : b.length = width ll := by omega
    have bo : BoxOk b := ⟨fun n hn => (hb n hn).1, by omega, hx⟩
    have hkd : ∀ x ∈ ll, Kd b.length x := fun x hx => by
      rw [hl]
      exact flaw_kd ef x hx
    refine ⟨.ref p, rfl, .ref bl, rfl, p, bl, as, ll, b, rfl, R.same s1, by omega, hB.same s1, bo, hkd, fun H2 l s2 ⟨ds, d1, d2, d3⟩ => ?_⟩
    have s12 := s1.trans s2
    obtain ⟨d0, hd0⟩ : ∃ d0, ds[0]? = some d0 := ⟨_, List.getElem?_eq_getElem (by omega)⟩
    obtain ⟨_, kvs, hk, hT, _⟩ := d3 0 d0 hd0
    rw [List.drop_zero] at hT
    have at0 : atI (ds.map V.ref) 0 = some (.ref d0) := atI_nat (j := 0) (by rw [List.getElem?_map, hd0]; rfl)
    have hbb : H2 bl = some (.tup ((kI b).map kV)) := by rw [kI_V]; exact s12 _ _ hB
    have hmem : b ∈ cellsB b := (cells_mem bo.nn (Nat.le_refl _) b).mpr (by rw [List.take_length]; exact Bel.self bo.nn)
    refine ⟨.ref l, rfl, l, _, 0, .ref d0, rfl, rfl, SqL.of d1, at0, d0, rfl, .inr ⟨_, .inl hk⟩, .ref bl, rfl, _, DGet.t hk hbb, ?_⟩
    rw [hT.get (.inl hmem)]
    refine ⟨.int mo, rfl, _, mo, rfl, rfl, _, rfl, ite2 (fun c1 => ?_) (fun c1 => ?_)⟩
    · have c1' : mo < (cnt ll b : Int) := of_decide_eq_true c1
      exact ⟨_, rfl, mk_refd ((qm c1').same s12)⟩
    have hle : (cnt ll b : Int) ≤ mo := by
      by_cases z : mo < (cnt ll b : Int)
      · exact absurd (decide_eq_true z) c1
      · omega
    -- begun
    refine ⟨fun σ' H' => ∃ (g0 : Addr) (ga : List Addr), σ' = [some (.ref p), some (.ref bl), some (.int mo), some (.ref l), some (.ref g0), none, none, none, none, none, none] ∧ Same H2 H' ∧ H' g0 = some (.lst (ga.map V.ref)) ∧ LdsAt H' ga (begS ll b), ?_, ?_⟩
    · refine ⟨.ref bl, rfl, .ref l, rfl, l, _, 0, .ref d0, rfl, rfl, SqL.of d1, at0, d0, _, rfl, DGet.t hk hbb, _, rfl, ?_⟩
      rw [hT b]
      by_cases c : 0 < cnt ll b
      · rw [if_pos ⟨hmem, c⟩]
        refine iteT ⟨Nat.zero_le _, fun t0 nt0 => ⟨.ref bl, rfl, sz_2 _ _, fun t1 nt1 => ⟨sz_1 _, fun g0 ng0 => ?_⟩⟩⟩
        have m0 := same_new (o := .tup []) nt0
        have m1 := same_new (o := .tup [.ref t0, .ref bl]) nt1
        have m2 := same_new (o := .lst [.ref t1]) ng0
        refine ⟨g0, [t1], rfl, m0.trans (m1.trans m2), upd_same, ?_⟩
        unfold begS
        rw [if_pos c]
        refine ⟨rfl, fun i a q h1 h2 => ?_⟩
        match i, h1, h2 with
        | 0, h1, h2 =>
          cases Option.some.inj h1
          cases Option.some.inj h2
          exact ⟨t0, bl, m2 _ _ upd_same, m2 _ _ (m1 _ _ upd_same), hB.same (s12.trans (m0.trans (m1.trans m2)))⟩
        | i + 1, h1, h2 => simp at h1
      · rw [if_neg (fun z => c z.2)]
        refine iteF ⟨Nat.zero_le _, fun g0 ng0 => ⟨g0, [], rfl, same_new ng0, upd_same, ?_⟩⟩
        unfold begS
        rw [if_neg c]
        exact ⟨rfl, fun i a q h1 _ => by simp at h1⟩
    rintro σ' H3 ⟨g0, ga, rfl, s3, hg0, hLd⟩
    have n1 : 1 ≤ ll.length := hok.1
    refine ⟨fun σ' H' => ∃ (g0 : Addr) (ga : List Addr) (y5 y6 : Option V), σ' = [some (.ref p), some (.ref bl), some (.int mo), some (.ref l), some (.ref g0), y5, y6, none, none, none, none] ∧ Same H3 H' ∧ H' g0 = some (.lst (ga.map V.ref)) ∧ LdsAt H' ga (begAt ll (begS ll b) (ll.length - 1)), ?_, ?_⟩
    · refine ⟨.ref p, rfl, noPart ⟨1, rfl, -1, rfl, slice_read ((R.same s12).same s3).1 fun z H4 s4 hz4 => ?_⟩⟩
      rw [cut_last, List.length_map, ← List.map_take] at hz4
      refine ⟨z, _, rfl, SqT.of hz4, ?_⟩
      refine for_it (walk_enumT (K := K) (a := z) (xs := (as.take (as.length - 1)).map V.ref)) (fun i σ' H' => Same H4 H' ∧ ∃ (g0 : Addr) (ga : List Addr) (y5 y6 : Option V), σ' = [some (.ref p), some (.ref bl), some (.int mo), some (.ref l), some (.ref g0), y5, y6, none, none, none, none] ∧ H' g0 = some (.lst (ga.map V.ref)) ∧ LdsAt H' ga (begAt ll (begS ll b) i))
        ⟨Same.refl _, g0, ga, none, none, rfl, s4 _ _ hg0, hLd.map fun a q x => x.same s4⟩ (fun i σ' H' _ hI => SqT.of (hI.1 _ _ hz4)) (fun i x σ' H5 H6 hi hI hY => ?_) (fun σ' H5 hI => ?_)
      · obtain ⟨s5, g1, ga, y5, y6, rfl, hg1, hLd1⟩ := hI
        obtain ⟨T0, x1, x2, rfl, nT, rfl, e1, e2⟩ := hY
        cases Option.some.inj e1
        rw [List.length_map, List.length_take] at hi
        have hi' : i < as.length - 1 := by omega
        obtain ⟨ai, hai⟩ : ∃ c, as[i]? = some c := ⟨_, List.getElem?_eq_getElem (by omega)⟩
        have ex2 : x2 = .ref ai := by
          have e2' : ((as.take (as.length - 1)).map V.ref)[i]? = some x2 := e2
          rw [List.getElem?_map, List.getElem?_take_of_lt hi', hai] at e2'
          exact (Option.some.inj e2').symm
        subst ex2
        have sT := same_new (o := .tup [.int (i : Nat), .ref ai]) nT
        have sB := s5.trans sT
        have hgB := sT _ _ hg1
        have hLB := hLd1.map fun a q x => x.same sT
        have hTB : upd H5 T0 (.tup [.int (i : Nat), .ref ai]) T0 = some (.tup [.int (i : Nat), .ref ai]) := upd_same
        generalize upd H5 T0 (.tup [.int (i : Nat), .ref ai]) = HB at sB hgB hLB hTB ⊢
        have s2B := s3.trans (s4.trans sB)
        obtain ⟨h, hh1, hh2⟩ := ((R.same s12).same s2B).2.at hai
        have hh2 : IntsAt HB ai h := hh2
        have eh : ll.getD i [] = h := by rw [List.getD_eq_getElem?_getD, hh1]; rfl
        have hhm := List.mem_of_getElem? hh1
        have kh := hkd h hhm
        have hil : i + 1 ≤ ll.length := by omega
        obtain ⟨dn, hdn⟩ : ∃ d, ds[i + 1]? = some d := ⟨_, List.getElem?_eq_getElem (by omega)⟩
        obtain ⟨_, kvn, hkn, hTn, _⟩ := d3 (i + 1) dn hdn
        have hatn : atI (ds.map V.ref) ((i : Int) + 1) = some (.ref dn) := by
          have := atI_nat (xs := ds.map V.ref) (j := i + 1) (v := .ref dn) (by rw [List.getElem?_map, hdn]; rfl)
          exact this
        refine ⟨T0, _, rfl, SqT.of hTB, rfl, _, _, rfl, _, _, rfl, rfl, ?_⟩
        refine ⟨.ref g1, rfl, g1, rfl, ⟨_, SqL.of hgB⟩, fun D nD => ?_⟩
        have hbl := hLB.1
        have hbel := begAt_bel hkd bo.nn (i := i) (by omega)
        have hblen := begAt_len (S := begS ll b) hkd (fun q hq => (begS_ok q hq).1) (i := i) (by omega)
        have hcl := begAt_cl (ll := ll) (b := b) (i := i)
        have hfewN := begS_few (b := b) hkd (i := i + 1) hil
        have enext : begAt ll (begS ll b) (i + 1) = (begAt ll (begS ll b) i).flatMap (begF (ll.drop (i + 1)) h) := by
          show (begAt ll (begS ll b) i).flatMap (begF (ll.drop (i + 1)) (ll.getD i [])) = _
          rw [eh]
        rw [enext] at hfewN
        rw [enext]
        generalize begAt ll (begS ll b) i = bs at hLB hbl hbel hblen hcl hfewN ⊢
        refine ⟨fun a m H7 => a + m = ga.length ∧ Same HB H7 ∧ ∃ da : List Addr, H7 D = some (.lst (da.map V.ref)) ∧ LdsAt H7 da ((bs.take a).flatMap (begF (ll.drop (i + 1)) h)), ⟨ga.length, by omega, same_new nD, [], upd_same, ⟨rfl, fun i a q h1 _ => by simp at h1⟩⟩, fun a m H7 hW => ?_⟩
        obtain ⟨em, s7, da, hda, hLda⟩ := hW
        by_cases ha : a < ga.length
        · obtain ⟨gx, hgx⟩ : ∃ c, ga[a]? = some c := ⟨_, List.getElem?_eq_getElem ha⟩
          obtain ⟨qa, hqa⟩ : ∃ q, bs[a]? = some q := ⟨_, List.getElem?_eq_getElem (by omega)⟩
          have hqm := List.mem_of_getElem? hqa
          have hg7 := s7 _ _ hgB
          have gat : (ga.map V.ref)[a]? = some (.ref gx) := by rw [List.getElem?_map, hgx]; rfl
          have etk : (bs.take (a + 1)).flatMap (begF (ll.drop (i + 1)) h) = (bs.take a).flatMap (begF (ll.drop (i + 1)) h) ++ begF (ll.drop (i + 1)) h qa := by
            rw [List.take_add_one, hqa, List.flatMap_append]
            simp
          have hlenA : ((bs.take (a + 1)).flatMap (begF (ll.drop (i + 1)) h)).length ≤ 500000 := by
            have e : bs = bs.take (a + 1) ++ bs.drop (a + 1) := (List.take_append_drop _ _).symm
            have : (bs.flatMap (begF (ll.drop (i + 1)) h)).length = ((bs.take (a + 1)).flatMap (begF (ll.drop (i + 1)) h)).length + ((bs.drop (a + 1)).flatMap (begF (ll.drop (i + 1)) h)).length := by
              rw [← List.length_append, ← List.flatMap_append, ← e]
            omega
          refine .inr ⟨⟨_, _, SqL.of hg7, gat⟩, fun H8 => Same HB H8 ∧ ∃ da : List Addr, H8 D = some (.lst (da.map V.ref)) ∧ LdsAt H8 da ((bs.take (a + 1)).flatMap (begF (ll.drop (i + 1)) h)), fun H8 hN => ⟨m - 1, by omega, by omega, hN⟩, fun x H8 hy => ?_⟩
          obtain ⟨e8, f8⟩ := hy
          subst e8
          have exx : x = .ref gx := Option.some.inj ((f8 _ (SqL.of hg7)).symm.trans gat)
          subst exx
          obtain ⟨r1, r2, hB1, hB2, hB3⟩ := hLB.2 a gx qa hgx hqa
          have hp1 := s7 _ _ hB1
          have hp3 := hB3.same s7
          have hq3 : qa.2.length = b.length := hblen qa hqm
          obtain ⟨u1, u2, u3⟩ := bel_ok (hbel qa hqm)
          refine ⟨gx, _, rfl, SqT.of hp1, rfl, _, _, rfl, _, _, rfl, rfl, rfl, yes (iteT ?_)⟩
          refine ⟨.ref r2, rfl, .ref ai, rfl, r2, ai, qa.2, h, rfl, hp3, hh2.same s7, by rw [hq3]; exact kh, by rw [hq3]; omega, u3, by omega, fun H9 l9 as9 k9 s9 nl9 htk hl9 hpr => ?_⟩
          refine ⟨l9, rfl, ⟨_, SqL.of hl9⟩, ?_⟩
          let fk : Nat → List Int × List Int := fun k => (qa.1 ++ [(k : Int)], subR qa.2 h (k : Int))
          let pk : Nat → Bool := fun k => decide (0 < cnt (ll.drop (i + 1)) (subR qa.2 h (k : Int)))
          have efull : ((List.range k9).filter pk).map fk = begF (ll.drop (i + 1)) h qa := by
            unfold begF
            rw [htk]
          have hk900 : k9 ≤ 901 := by
            have h1 := congrArg List.length htk
            rw [List.length_range] at h1
            unfold takes at h1
            have h2 := List.length_filter_le (fun (k : Nat) => nnB (subR qa.2 h (k : Int))) (List.range (qa.2.sum.toNat + 1))
            rw [List.length_range] at h2
            omega
          have hprev : ((bs.take a).flatMap (begF (ll.drop (i + 1)) h)).length ≤ 500000 := by
            rw [etk, List.length_append] at hlenA
            omega
          have nlD : l9 ≠ D := fun e => by rw [e, hda] at nl9; cases nl9
          refine ⟨fun j k H10 => j + k = k9 ∧ Same HB H10 ∧ H10 l9 = some (.lst (as9.map V.ref)) ∧ PrsAt H10 as9 (tks qa.2 h k9) ∧ ∃ da : List Addr, H10 D = some (.lst (da.map V.ref)) ∧ LdsAt H10 da ((bs.take a).flatMap (begF (ll.drop (i + 1)) h) ++ ((List.range j).filter pk).map fk),
            ⟨k9, by omega, s7.trans s9, hl9, hpr, da, s9 _ _ hda, by simpa using hLda.map fun a q x => x.same s9⟩, fun j k H10 hW => ?_⟩
          obtain ⟨ek, s10, hl10, hpr10, da, hda, hLda⟩ := hW
          have hk9 : as9.length = k9 := by rw [hpr10.1]; unfold tks; rw [List.length_map, List.length_range]
          by_cases hj : j < k9
          · obtain ⟨aj, haj⟩ : ∃ c, as9[j]? = some c := ⟨_, List.getElem?_eq_getElem (by omega)⟩
            have jat : (as9.map V.ref)[j]? = some (.ref aj) := by rw [List.getElem?_map, haj]; rfl
            obtain ⟨rj, hr1, hr2⟩ := hpr10.2 j aj ((j : Int), subR qa.2 h (j : Int)) haj (by unfold tks; rw [List.getElem?_map, List.getElem?_range hj]; rfl)
            have hr2 : IntsAt H10 rj (subR qa.2 h (j : Int)) := hr2
            refine .inr ⟨⟨_, _, SqL.of hl10, jat⟩, fun H11 => Same HB H11 ∧ H11 l9 = some (.lst (as9.map V.ref)) ∧ PrsAt H11 as9 (tks qa.2 h k9) ∧ ∃ da : List Addr, H11 D = some (.lst (da.map V.ref)) ∧ LdsAt H11 da ((bs.take a).flatMap (begF (ll.drop (i + 1)) h) ++ ((List.range (j + 1)).filter pk).map fk), fun H11 hN => ⟨k - 1, by omega, by omega, hN⟩, fun x H11 hy => ?_⟩
            obtain ⟨e11, f11⟩ := hy
            subst e11
            have exx : x = .ref aj := Option.some.inj ((f11 _ (SqL.of hl10)).symm.trans jat)
            subst exx
            refine ⟨aj, _, rfl, SqT.of hr1, rfl, _, _, rfl, _, _, rfl, rfl, rfl, ?_⟩
            have hnn : nnB (subR qa.2 h (j : Int)) = true := by
              have : j ∈ takes qa.2 h := by rw [htk]; exact List.mem_range.mpr hj
              unfold takes at this
              exact (List.mem_filter.mp this).2
            have hcell : subR qa.2 h (j : Int) ∈ cellsB b := (cells_mem bo.nn (Nat.le_refl _) _).mpr (by rw [List.take_length]; exact bel_sub (hbel qa hqm) (by rw [hq3, kh.1]) kh.2.1 (by omega) hnn)
            have hrk : H11 rj = some (.tup ((kI (subR qa.2 h (j : Int))).map kV)) := by rw [kI_V]; exact hr2
            have s211 := s2B.trans s10
            refine ⟨.ref rj, rfl, .ref l, rfl, .int (i : Int), rfl, (i : Int), 1, rfl, rfl, l, _, _, .ref dn, rfl, rfl, SqL.of (s211 _ _ d1), hatn, dn, _, rfl, DGet.t (s211 _ _ hkn) hrk, _, rfl, ?_⟩
            rw [hTn]
            have er : (List.range (j + 1)).filter pk = (List.range j).filter pk ++ (if pk j = true then [j] else []) := by
              rw [List.range_succ, List.filter_append]
              by_cases e : pk j = true
              · rw [if_pos e, List.filter_cons_of_pos e]
                rfl
              · rw [if_neg e, List.filter_cons_of_neg e]
                rfl
            by_cases c : 0 < cnt (ll.drop (i + 1)) (subR qa.2 h (j : Int))
            · rw [if_pos ⟨hcell, c⟩]
              have ep : pk j = true := decide_eq_true c
              rw [if_pos ep] at er
              refine iteT ?_
              refine ⟨.ref r1, rfl, .int (j : Int), rfl, sz_1 _, fun t3 nt3 => ?_⟩
              have m3 := same_new (o := .tup [.int (j : Int)]) nt3
              have hq1 : qa.1.length ≤ 100 := by rw [hcl qa hqm]; omega
              refine cat_ints (ys := [(j : Int)]) ((hB2.same s10).same m3) (show IntsAt _ t3 [(j : Int)] from upd_same) (by rw [List.length_singleton]; omega) fun z5 H12 s12' hz5 => ?_
              refine ⟨.ref rj, rfl, sz_2 _ _, fun t4 nt4 => ?_⟩
              have m4 := same_new (o := .tup [.ref z5, .ref rj]) nt4
              have sx := m3.trans (s12'.trans m4)
              have hD13 := sx _ _ hda
              have ldn : LdAt (upd H12 t4 (.tup [.ref z5, .ref rj])) t4 (fk j) := ⟨z5, rj, upd_same, hz5.same m4, hr2.same sx⟩
              have hl13 := sx _ _ hl10
              have hpr13 := hpr10.map fun a q x => x.same sx
              have hLd13 := hLda.map fun a q x => x.same sx
              generalize upd H12 t4 (.tup [.ref z5, .ref rj]) = H13 at m4 sx hD13 ldn hl13 hpr13 hLd13 ⊢
              refine ⟨_, hD13, ?_, same_late (s10.trans sx) nD, by rw [upd_ne nlD]; exact hl13, ?_, da ++ [t4], by rw [upd_same, List.map_append]; rfl, ?_⟩
              · have h1 := hLd13.1
                rw [List.length_append, List.length_map] at h1
                have h2 := List.length_filter_le pk (List.range j)
                rw [List.length_range] at h2
                rw [List.length_map]
                exact Nat.lt_of_le_of_lt (show _ ≤ 600000 by omega) (by decide)
              · refine hpr13.map fun a' q' ⟨r', w1, w2⟩ => ⟨r', ?_, ?_⟩
                · rw [upd_ne (ne_of w1 hD13 (fun z => by cases z))]
                  exact w1
                · show upd H13 D _ r' = _
                  rw [upd_ne (ne_of w2 hD13 (fun z => by cases z))]
                  exact w2
              · rw [er, List.map_append, ← List.append_assoc]
                exact (hLd13.map fun a q x => x.put hD13).more (ldn.put hD13)
            · rw [if_neg (fun z => c z.2)]
              have ep : ¬ pk j = true := fun z => c (of_decide_eq_true z)
              rw [if_neg ep, List.append_nil] at er
              refine iteF ⟨s10, hl10, hpr10, da, hda, ?_⟩
              rw [er]
              exact hLda
          · refine .inl ⟨⟨_, SqL.of hl10, by rw [List.length_map]; omega⟩, s10, da, hda, ?_⟩
            have ej : j = k9 := by omega
            rw [ej, efull] at hLda
            rw [etk]
            exact hLda
        · refine .inl ⟨⟨_, SqL.of (s7 _ _ hgB), by rw [List.length_map]; omega⟩, sB.trans s7, D, da, _, _, rfl, hda, ?_⟩
          rw [List.take_of_length_le (by omega)] at hLda
          exact hLda
      · obtain ⟨s5, g1, ga, y5, y6, rfl, hg1, hLd1⟩ := hI
        rw [List.length_map, List.length_take, Nat.min_eq_left (by omega), hal] at hLd1
        exact ⟨g1, ga, y5, y6, rfl, s4.trans s5, hg1, hLd1⟩
    rintro σ' H5 ⟨g5, ga5, y5, y6, rfl, s5, hg5, hLd5⟩
    have s05 := s12.trans (s3.trans s5)
    obtain ⟨an, han⟩ : ∃ c, as[ll.length - 1]? = some c := ⟨_, List.getElem?_eq_getElem (by omega)⟩
    obtain ⟨hn, hn1, hn2⟩ := (R.same s05).2.at han
    have hn2 : IntsAt H5 an hn := hn2
    have eas : as.map V.ref = (as.take (ll.length - 1)).map V.ref ++ [.ref an] := by
      have e : as = as.take (ll.length - 1) ++ [an] := by
        have e1 : as.take (ll.length - 1 + 1) = as.take (ll.length - 1) ++ [an] := by rw [List.take_add_one, han]; rfl
        rw [← e1, List.take_of_length_le (by omega)]
      conv => lhs; rw [e]
      rw [List.map_append]
      rfl
    have hatl : atI (as.map V.ref) (-1) = some (.ref an) := by
      rw [eas]
      exact atI_last _ _
    have htold := beg_told (g := b.length) (n := ll.length - 1) (ll := ll) (b := b) (h := hn) hkd rfl (by omega) hn1
    have htold : (begAt ll (begS ll b) (ll.length - 1)).map (fun q => q.1 ++ [q.2.sum / hn.sum]) = fils ll b := htold
    have hcl := begAt_cl (ll := ll) (b := b) (i := ll.length - 1)
    have hfw := begS_few (b := b) hkd (i := ll.length - 1) (by omega)
    have kn := hkd hn (List.mem_of_getElem? hn1)
    have hns := sum_kd kn
    have hnb : hn.sum ≤ 18 := by
      have h1 := sum_most (c := 6) (b := hn) fun n hm => (hrw hn (List.mem_of_getElem? hn1)).2 n hm |>.2
      have h2 := kn.1
      have h3 : (hn.length : Int) ≤ 3 := by omega
      omega
    generalize begAt ll (begS ll b) (ll.length - 1) = bs at hLd5 htold hcl hfw
    have hbl := hLd5.1
    refine ⟨.ref g5, rfl, g5, rfl, ⟨_, SqL.of hg5⟩, fun D nD => ?_⟩
    refine lc_list (K := K) (a := g5) (xs := ga5.map V.ref) (fun i H' => Same H5 H' ∧ ∃ ca : List Addr, H' D = some (.lst (ca.map V.ref)) ∧ Rows H' ca ((bs.take i).map fun q => q.1 ++ [q.2.sum / hn.sum])) ⟨same_new nD, [], upd_same, by rw [List.take_zero]; exact True.intro⟩ (fun i H' _ hP => SqL.of (hP.1 _ _ hg5)) (fun i x H' hx ⟨sj, ca, hD, hRc⟩ => ?_) (fun H' ⟨sj, ca, hD, hRc⟩ => ?_)
    · obtain ⟨gx, hgx, rfl⟩ : ∃ c, ga5[i]? = some c ∧ x = V.ref c := by
        rw [List.getElem?_map] at hx
        cases e : ga5[i]? with
        | none => rw [e] at hx; cases hx
        | some c => rw [e] at hx; exact ⟨c, rfl, (Option.some.inj hx).symm⟩
      have hil := (List.getElem?_eq_some_iff.mp hgx).1
      obtain ⟨qi, hqi⟩ : ∃ q, bs[i]? = some q := ⟨_, List.getElem?_eq_getElem (by omega)⟩
      obtain ⟨r1, r2, w1, w2, w3⟩ := (hLd5.2 i gx qi hgx hqi).same sj
      have hq1 := hcl qi (List.mem_of_getElem? hqi)
      refine ⟨gx, _, rfl, SqT.of w1, rfl, _, _, rfl, _, _, rfl, rfl, rfl, yes (iteT ?_)⟩
      refine ⟨.ref r1, rfl, .ref r2, rfl, r2, qi.2, rfl, SqT.of w3, .ref p, rfl, 1, rfl, p, _, _, .ref an, rfl, rfl, SqT.of ((R.same s05).same sj).1, hatl, an, hn, rfl, SqT.of (hn2.same sj), _, _, rfl, rfl, ⟨by omega, by omega⟩, sz_1 _, fun t3 nt3 => ?_⟩
      have m3 := same_new (o := .tup [.int (qi.2.sum / hn.sum)]) nt3
      refine cat_ints (ys := [qi.2.sum / hn.sum]) (w2.same m3) (show IntsAt _ t3 [qi.2.sum / hn.sum] from upd_same) (by rw [List.length_singleton]; omega) fun z5 H12 s12' hz5 => ?_
      have sx := m3.trans s12'
      have hD13 := sx _ _ hD
      refine ⟨_, hD13, ?_, same_late (sj.trans sx) nD, ca ++ [z5], by rw [upd_same, List.map_append]; rfl, ?_⟩
      · have h1 := hRc.len
        rw [List.length_map, List.length_take] at h1
        rw [List.length_map]
        exact Nat.lt_of_le_of_lt (show _ ≤ 600000 by omega) (by decide)
      · rw [List.take_add_one, hqi, List.map_append]
        exact ((hRc.same sx).lput hD13).app ⟨by rw [upd_ne (ne_of hz5 hD13 (fun z => by cases z))]; exact hz5, True.intro⟩
    · rw [List.length_map, List.take_of_length_le (by omega), htold] at hRc
      exact q hle H' D ca (s05.trans sj) (s05.free nD) hD hRc
end
end HL

set_option pp.maxSteps 3000
namespace HL
open PySem PySem.Spec PyProof.Rows L2
open C8 (pss_cut)
theorem scMk : FnScope ["row", "number", "place"] ["row"] (defScope sMarks) := ⟨rfl, rfl, rfl, by decide +kernel, rfl, by decide +kernel, by decide +kernel⟩
theorem scJo : FnScope ["groups", "kinds", "together", "group"] ["groups", "kinds"] (defScope sJoined) := ⟨rfl, rfl, rfl, by decide +kernel, rfl, by decide +kernel, by decide +kernel⟩
theorem scAm : FnScope ["row", "kinds"] ["row", "kinds"] (defScope sAmong) := ⟨rfl, rfl, rfl, by decide +kernel, rfl, by decide +kernel, by decide +kernel⟩
/-! ### which kinds a row takes, as a number -/
def mkL (r : List Int) (i : Nat) : List Int := ((List.range i).filter fun j => decide (r.getD j 0 ≠ 0)).map fun j => 1 * (2 : Int) ^ j
def mkI (r : List Int) : Int := (mkL r r.length).sum
theorem mkL_more {r : List Int} {i : Nat} : mkL r (i + 1) = mkL r i ++ if r.getD i 0 ≠ 0 then [1 * (2 : Int) ^ i] else [] := by
  unfold mkL
  rw [List.range_succ, List.filter_append, List.map_append]
  congr 1
  by_cases c : r.getD i 0 ≠ 0
  · rw [if_pos c, List.filter_cons, if_pos (decide_eq_true c)]
    rfl
  · rw [if_neg c, List.filter_cons, if_neg (fun z => c (of_decide_eq_true z))]
    rfl
theorem mkL_len {r : List Int} {i : Nat} : (mkL r i).length ≤ i := by
  unfold mkL
  rw [List.length_map]
  exact Nat.le_trans (List.length_filter_le _ _) (by rw [List.length_range]; exact Nat.le_refl _)
/-- groups of kinds, joined by one more -/
def jnT (gs : List Int) (k : Int) : Int := gs.foldl (fun t g => if Builtin.bitAnd g k ≠ 0 then Builtin.bitOr t g else t) k
def jnI (gs : List Int) (k : Int) : List Int := gs.filter (fun g => decide (Builtin.bitAnd g k = 0)) ++ [jnT gs k]
def amB (r : List Int) (k : Int) : Bool := decide (Builtin.bitOr (mkI r) k = k)
section
variable {P : Program} {w : World} {K : PySem.W.Frag} {mg : Str → Option Value} {base : Heap}
def spMarks : Sp := fun vs H Q _ => ∃ (a : Addr) (r : List Int), vs = [.ref a] ∧ IntsAt H a r ∧ r.length ≤ 5 ∧ ∀ H', Same H H' → Q (.int (mkI r)) H'
theorem ok_marks {f : Addr} {fd : FuncData} {k : Nat} (F : Fun K "marks" "marks" sMarks f fd) (B : Bl mg) : FnOk P w K mg base CX0 (k + 1) f fd ["row"] spMarks := by
  refine F.ok scMk (fun vs H Q E h => ?_) (fun cdv A outer s H vs Q E hr h => ?_)
  · obtain ⟨a, r, rfl, _⟩ := h
    rfl
  · obtain ⟨a, r, rfl, hA, hz, q⟩ := h
    refine ⟨_, (pss_one (ps_ret (pe_callB (cr_sum rfl) (by rfl) B.sum (by decide +kernel) (pa_cons (pe_lc (own := [("place", 2), ("number", 1)]) (g := gTup K 2 (gCons (gName 2) (gCons (gName 1) gNil))) rfl scMk.nd (pi_enumT (by rfl) B.enumerate (pa_cons (pv 0) pa_nil))
        (blkOk_by (own := [("place", 2), ("number", 1)]) (N := ["row", "number", "place"]) (sc := defScope sMarks) (by decide +kernel)) (fun _ _ _ _ _ => (pg_tup rfl (pgs_cons (pg_name (i := 2) scMk.nd rfl (Or.inl rfl)) (pgs_cons (pg_name (i := 1) scMk.nd rfl (Or.inl rfl)) pgs_nil)))) (fun _ _ _ _ _ => pts_one (pt_cmpR op_ne (pv 1) pe_int (nomark _)))
        (fun _ _ _ _ _ => (pe_op op_shl pe_int (pv 2)))) pa_nil)))), ?_⟩
    refine ⟨.ref a, rfl, a, _, rfl, SqT.of hA, fun D nD => ?_⟩
    refine lc_it (walk_enumT (K := K) (a := a) (xs := r.map V.int)) (fun i H' => Same H H' ∧ H' D = some (.lst ((mkL r i).map V.int))) ⟨same_new nD, upd_same⟩ (fun i H' _ hP => SqT.of (hA.same hP.1)) (fun i x H2 H3 hi ⟨sm, hD⟩ hY => ?_) (fun H2 ⟨sm, hD⟩ => ?_)
    · obtain ⟨T0, x1, x2, rfl, nT, rfl, e1, e2⟩ := hY
      cases Option.some.inj e1
      rw [List.length_map] at hi
      have hgi : r[i]? = some (r.getD i 0) := by
        rw [List.getElem?_eq_getElem hi, List.getD_eq_getElem?_getD, List.getElem?_eq_getElem hi]
        rfl
      have ex2 : x2 = .int (r.getD i 0) := by
        have e2' : (r.map V.int)[i]? = some x2 := e2
        rw [List.getElem?_map, hgi] at e2'
        exact (Option.some.inj e2').symm
      subst ex2
      have sT := same_new (o := .tup [.int (i : Nat), .int (r.getD i 0)]) nT
      have hD3 := sT _ _ hD
      have hml := mkL_len (r := r) (i := i)
      refine ⟨T0, _, rfl, SqT.of upd_same, rfl, _, _, rfl, _, _, rfl, rfl, rfl, ?_⟩
      refine ⟨.int (r.getD i 0), rfl, rfl, _, rfl, ite2 (fun c1 => ?_) (fun c1 => ?_)⟩
      · have nz : r.getD i 0 ≠ 0 := fun z => by
          have c1' : (!decide (V.int (r.getD i 0) = V.int 0)) = true := c1
          rw [z, decide_eq_true rfl] at c1'
          cases c1'
        refine ⟨.int (i : Nat), rfl, 1, _, rfl, rfl, ?_, _, hD3, by rw [List.length_map]; exact small1000 (by omega), same_late (sm.trans sT) nD, ?_⟩
        · have : i = 0 ∨ i = 1 ∨ i = 2 ∨ i = 3 ∨ i = 4 := by omega
          rcases this with e | e | e | e | e <;> rw [e] <;> exact ⟨by decide, by decide, by decide⟩
        · rw [upd_same, mkL_more, if_pos nz, List.map_append]
          rfl
      · have zz : ¬ r.getD i 0 ≠ 0 := fun nz => by
          have c1' : ¬ (!decide (V.int (r.getD i 0) = V.int 0)) = true := c1
          rw [decide_eq_false (fun w => nz (V.int.inj w))] at c1'
          exact c1' rfl
        refine ⟨sm.trans sT, ?_⟩
        rw [mkL_more, if_neg zz, List.append_nil]
        exact hD3
    · rw [List.length_map] at hD
      exact ⟨D, _, rfl, SqL.of hD, q H2 sm⟩
def spAmong : Sp := fun vs H Q _ => ∃ (a : Addr) (r : List Int) (k : Int), vs = [.ref a, .int k] ∧ IntsAt H a r ∧ r.length ≤ 5 ∧ ∀ H', Same H H' → Q (.bl (amB r k)) H'
theorem ok_among {f : Addr} {fd : FuncData} (F : Fun K "is_among" "is_among" sAmong f fd) (CM : Cal P w K mg base CX0 1 "marks" ["row"] spMarks) : FnOk P w K mg base CX0 2 f fd ["row", "kinds"] spAmong := by
  obtain ⟨fM, fdM, GM, gM, kM, bM⟩ := CM.ex
  refine F.ok scAm (fun vs H Q E h => ?_) (fun cdv A outer s H vs Q E hr h => ?_)
  · obtain ⟨a, r, k, rfl, _⟩ := h
    rfl
  · obtain ⟨a, r, k, rfl, hA, hz, q⟩ := h
    refine ⟨_, (pss_one (ps_ret (pe_cmpR op_eq (pe_op op_or (pe_call GM (hr.mono (by decide)) (by rfl) gM kM bM .nil pass0 (pa_cons (pv 0) pa_nil)) (pv 1)) (pv 1) (nomark _)))), ?_⟩
    refine ⟨.ref a, rfl, a, r, rfl, hA, hz, fun H1 s1 => ⟨.int k, rfl, _, _, rfl, rfl, .int k, rfl, rfl, ?_⟩⟩
    have := q H1 s1
    unfold amB at this
    have e : decide (V.int (Builtin.bitOr (mkI r) k) = V.int k) = decide (Builtin.bitOr (mkI r) k = k) := by
      by_cases c : Builtin.bitOr (mkI r) k = k
      · rw [decide_eq_true c, decide_eq_true (congrArg V.int c)]
      · rw [decide_eq_false c, decide_eq_false fun z => c (V.int.inj z)]
    show Q (.bl (decide (V.int (Builtin.bitOr (mkI r) k) = V.int k))) H1
    rw [e]
    exact this
def spJoined : Sp := fun vs H Q _ => ∃ (l : Addr) (gs : List Int) (k : Int), vs = [.ref l, .int k] ∧ H l = some (.lst (gs.map V.int)) ∧ gs.length ≤ 400 ∧ ∀ H' l', Same H H' → H l' = none → H' l' = some (.lst ((jnI gs k).map V.int)) → Q (.ref l') H'
theorem ok_joined {f : Addr} {fd : FuncData} {k : Nat} (F : Fun K "joined" "joined" sJoined f fd) (B : Bl mg) : FnOk P w K mg base CX0 (k + 1) f fd ["groups", "kinds"] spJoined := by
  refine F.ok scJo (fun vs H Q E h => ?_) (fun cdv A outer s H vs Q E hr h => ?_)
  · obtain ⟨l, gs, k, rfl, _⟩ := h
    rfl
  · obtain ⟨l, gs, k, rfl, hl, hz, q⟩ := h
    refine ⟨_, (pss_cons (ps_set (i := 2) scJo.nd rfl (.inl rfl) (pv 1))
      (pss_cons (ps_for PassesOwn.never rfl (pi_list (pv 0)) (pg_name (i := 3) scJo.nd rfl (.inl rfl))
      (pss_one (ps_if (pt_cmpR op_ne (pe_op op_and (pv 3) (pv 1)) pe_int (nomark _)) (pss_one (ps_set (i := 2) scJo.nd rfl (.inl rfl) (pe_op op_or (pv 2) (pv 3)))) pss_nil)))
      (pss_one (ps_ret (pe_op op_cat (pe_lc (own := [("group", 3)]) (g := gName 3) rfl scJo.nd (pi_list (pv 0))
        (blkOk_by (own := [("group", 3)]) (N := ["groups", "kinds", "together", "group"]) (sc := defScope sJoined) (by decide +kernel)) (fun _ _ _ _ _ => pg_name (i := 3) scJo.nd rfl (Or.inl rfl)) (fun _ _ _ _ _ => pts_one (pt_cmpR op_eq (pe_op op_and (pv 3) (pv 1)) pe_int (nomark _)))
        (fun _ _ _ _ _ => (pv 3))) (pe_lst (pa_cons (pv 2) pa_nil))))))), ?_⟩
    refine ⟨.int k, rfl, .ref l, rfl, l, rfl, ⟨_, SqL.of hl⟩, ?_⟩
    refine for_list (K := K) (a := l) (xs := gs.map V.int) (fun i σ H' => H' = H ∧ ∃ y3, σ = [some (.ref l), some (.int k), some (.int (jnT (gs.take i) k)), y3]) ⟨rfl, none, rfl⟩ (fun i σ H' _ hI => by rw [hI.1]; exact SqL.of hl) (fun i x σ H2 hx hI => ?_) (fun σ H2 hI => ?_)
    · obtain ⟨rfl, y3, rfl⟩ := hI
      obtain ⟨gi, hgi, rfl⟩ : ∃ n, gs[i]? = some n ∧ x = V.int n := by
        rw [List.getElem?_map] at hx
        cases e : gs[i]? with
        | none => rw [e] at hx; cases hx
        | some n => rw [e] at hx; exact ⟨n, rfl, (Option.some.inj hx).symm⟩
      have em : jnT (gs.take (i + 1)) k = if Builtin.bitAnd gi k ≠ 0 then Builtin.bitOr (jnT (gs.take i) k) gi else jnT (gs.take i) k := by
        unfold jnT
        rw [List.take_add_one, hgi, List.foldl_append]
        rfl
      refine ⟨.int gi, rfl, .int k, rfl, _, _, rfl, rfl, rfl, _, rfl, ite2 (fun c1 => ?_) (fun c1 => ?_)⟩
      · have nz : Builtin.bitAnd gi k ≠ 0 := fun z => by
          have c1' : (!decide (V.int (Builtin.bitAnd gi k) = V.int 0)) = true := c1
          rw [z, decide_eq_true rfl] at c1'
          cases c1'
        rw [em, if_pos nz]
        exact ⟨_, rfl, .int gi, rfl, _, _, rfl, rfl, rfl, _, rfl⟩
      · have zz : ¬ Builtin.bitAnd gi k ≠ 0 := fun nz => by
          have c1' : ¬ (!decide (V.int (Builtin.bitAnd gi k) = V.int 0)) = true := c1
          rw [decide_eq_false (fun w => nz (V.int.inj w))] at c1'
          exact c1' rfl
        rw [em, if_neg zz]
        exact ⟨rfl, _, rfl⟩
    · obtain ⟨rfl, y3, rfl⟩ := hI
      rw [List.length_map, List.take_length]
      refine ⟨.ref l, rfl, l, rfl, ⟨_, SqL.of hl⟩, fun D nD => ?_⟩
      refine lc_list (K := K) (a := l) (xs := gs.map V.int) (fun j H' => Same H2 H' ∧ H' D = some (.lst (((gs.take j).filter fun g => decide (Builtin.bitAnd g k = 0)).map V.int))) ⟨same_new nD, upd_same⟩ (fun j H' _ hP => SqL.of (hP.1 _ _ hl)) (fun j x H' hx ⟨sj, hD⟩ => ?_) (fun H' ⟨sj, hD⟩ => ?_)
      · obtain ⟨gi, hgi, rfl⟩ : ∃ n, gs[j]? = some n ∧ x = V.int n := by
          rw [List.getElem?_map] at hx
          cases e : gs[j]? with
          | none => rw [e] at hx; cases hx
          | some n => rw [e] at hx; exact ⟨n, rfl, (Option.some.inj hx).symm⟩
        have em : (gs.take (j + 1)).filter (fun g => decide (Builtin.bitAnd g k = 0)) = (gs.take j).filter (fun g => decide (Builtin.bitAnd g k = 0)) ++ if Builtin.bitAnd gi k = 0 then [gi] else [] := by
          rw [List.take_add_one, hgi, List.filter_append]
          congr 1
          show List.filter _ [gi] = _
          rw [List.filter_cons, List.filter_nil]
          by_cases c : Builtin.bitAnd gi k = 0
          · rw [if_pos c, if_pos (decide_eq_true c)]
          · rw [if_neg c, if_neg (fun z => c (of_decide_eq_true z))]
        rw [em]
        refine ⟨rfl, .int gi, rfl, .int k, rfl, _, _, rfl, rfl, rfl, _, rfl, ite2 (fun c1 => ?_) (fun c1 => ?_)⟩
        · have zz : Builtin.bitAnd gi k = 0 := V.int.inj (of_decide_eq_true c1)
          rw [if_pos zz]
          refine ⟨_, rfl, _, hD, ?_, same_late sj nD, by rw [upd_same, List.map_append]; rfl⟩
          rw [List.length_map]
          exact small1000 (Nat.le_trans (List.length_filter_le _ _) (Nat.le_trans (List.length_take_le' _ _) (by omega)))
        · have nz : ¬ Builtin.bitAnd gi k = 0 := fun z => c1 (decide_eq_true (congrArg V.int z))
          rw [if_neg nz, List.append_nil]
          exact ⟨sj, hD⟩
      · rw [List.length_map, List.take_length] at hD
        refine ⟨_, rfl, sz_1 _, fun l2 nl2 => ?_⟩
        have s2 := same_new (o := .lst [.int (jnT gs k)]) nl2
        refine ⟨D, l2, _, _, rfl, rfl, s2 _ _ hD, upd_same, ?_, fun l3 nl3 => ?_⟩
        · rw [List.length_map]
          exact sz1000 (by have := List.length_filter_le (fun g => decide (Builtin.bitAnd g k = 0)) gs; show _ + 1 ≤ 1000; omega)
        · have s3 := same_new (o := .lst (((gs.filter fun g => decide (Builtin.bitAnd g k = 0)).map V.int) ++ [.int (jnT gs k)])) nl3
          have s23 := s2.trans s3
          refine q _ l3 (sj.trans s23) (sj.free (s2.free nl3)) ?_
          rw [upd_same]
          unfold jnI
          rw [List.map_append]
          rfl
end
end HL

set_option pp.maxSteps 3000
namespace HL
open PySem PySem.Spec PyProof.Rows L2
open C8 (pss_cut)
theorem scSh : FnScope ["_law_one", "_law_other", "_law_at"] ["_law_one", "_law_other"] (defScope sShare) := ⟨rfl, rfl, rfl, by decide +kernel, rfl, by decide +kernel, by decide +kernel⟩
theorem scPl : FnScope ["_law_feed_here", "_law_how"] ["_law_feed_here"] (defScope sPlain) := ⟨rfl, rfl, rfl, by decide +kernel, rfl, by decide +kernel, by decide +kernel⟩
/-! ### whether two rows share a kind -/
def shR (xs ys : List Int) : List Bool := (List.range xs.length).map fun i => decide (0 < xs.getD i 0) && decide (0 < ys.getD i 0)
theorem shR_len {xs ys : List Int} : (shR xs ys).length = xs.length := by unfold shR; rw [List.length_map, List.length_range]
theorem shR_at {xs ys : List Int} {i : Nat} (h : i < xs.length) : (shR xs ys)[i]? = some (decide (0 < xs.getD i 0) && decide (0 < ys.getD i 0)) := by
  unfold shR
  rw [List.getElem?_map, List.getElem?_range h]
  rfl
/-- one turn of a comprehension that tells bools -/
theorem turn_bl {H H4 H5 : Hp} {D : Addr} {xs : List Bool} {i : Nat} {v : Bool} (nD : H D = none) (hx : xs[i]? = some v) (hz : xs.length ≤ 1000) (s4 : Same H H4) (hD : H4 D = some (.lst ((xs.take i).map V.bl))) (s5 : Same H4 H5) :
    ∃ acc, H5 D = some (.lst acc) ∧ acc.length < sizeLine ∧ Same H (upd H5 D (.lst (acc ++ [.bl v]))) ∧ upd H5 D (.lst (acc ++ [.bl v])) D = some (.lst ((xs.take (i + 1)).map V.bl)) := by
  refine ⟨_, s5 _ _ hD, ?_, same_late (s4.trans s5) nD, ?_⟩
  · rw [List.length_map]
    exact small1000 (Nat.le_trans (List.length_take_le' _ _) hz)
  · rw [upd_same, List.take_add_one, hx, List.map_append]
    rfl
section
variable {P : Program} {w : World} {K : PySem.W.Frag} {mg : Str → Option Value} {base : Heap}
def spShare : Sp := fun vs H Q _ => ∃ (a b : Addr) (xs ys : List Int), vs = [.ref a, .ref b] ∧ IntsAt H a xs ∧ IntsAt H b ys ∧ xs.length = ys.length ∧ xs.length ≤ 100 ∧ ∀ H', Same H H' → Q (.bl ((shR xs ys).any id)) H'
theorem ok_share {f : Addr} {fd : FuncData} {k : Nat} (F : Fun K "_law_share" "_law_share" sShare f fd) (B : Bl mg) (mAny : mg "any" = none) : FnOk P w K mg base CX0 (k + 1) f fd ["_law_one", "_law_other"] spShare := by
  refine F.ok scSh (fun vs H Q E h => ?_) (fun cdv A outer s H vs Q E hr h => ?_)
  · obtain ⟨a, b, xs, ys, rfl, _⟩ := h
    rfl
  · obtain ⟨a, b, xs, ys, rfl, ha, hb, hl, hz, q⟩ := h
    refine ⟨_, (pss_one (ps_ret (pe_callB (cr_any rfl) (by rfl) mAny (by decide +kernel) (pa_cons (pe_lc (own := [("_law_at", 2)]) (g := gName 2) (tt := tYes) rfl scSh.nd (pi_range1 (by rfl) B.range (pa_cons (pe_callB call_len_seq (by rfl) B.len PySem.boot_len (pa_cons (pv 0) pa_nil)) pa_nil))
        (blkOk_by (own := [("_law_at", 2)]) (N := ["_law_one", "_law_other", "_law_at"]) (sc := defScope sShare) (by decide +kernel)) (fun _ _ _ _ _ => pg_name (i := 2) scSh.nd rfl (Or.inl rfl)) (fun _ _ _ _ _ => pts_nil)
        (fun _ _ _ _ _ => (pe_and (pe_cmpR op_gt (pe_ix (r := rIxT K) ix_tup (pv 0) (pv 2) (fun _ _ => rfl)) pe_int (nomark _)) (pe_one (pe_cmpR op_gt (pe_ix (r := rIxT K) ix_tup (pv 1) (pv 2) (fun _ _ => rfl)) pe_int (nomark _)))))) pa_nil)))), ?_⟩
    refine ⟨.ref a, rfl, a, _, rfl, .inr (SqT.of ha), _, rfl, by rw [List.length_map]; omega, by rw [List.length_map]; omega, fun D nD => ?_⟩
    rw [List.length_map]
    refine lc_range (lo := 0) (n := ((xs.length : Nat) : Int).toNat) (fun i H' => Same H H' ∧ H' D = some (.lst (((shR xs ys).take i).map V.bl))) ⟨same_new nD, upd_same⟩ (fun i H' hi ⟨sm, hD⟩ => ?_) (fun H' ⟨sm, hD⟩ => ?_)
    · have hi' : i < xs.length := by omega
      have ez : (0 : Int) + (i : Nat) = ((i : Nat) : Int) := by omega
      rw [ez]
      have sA : SqT K H' a (xs.map V.int) := SqT.of (ha.same sm)
      have sB : SqT K H' b (ys.map V.int) := SqT.of (hb.same sm)
      have a1 := atIT (xs := xs) hi'
      have a2 := atIT (xs := ys) (i := i) (by omega)
      have hcf := shR_at (ys := ys) hi'
      generalize xs.getD i 0 = u at a1 hcf ⊢
      generalize ys.getD i 0 = v at a2 hcf ⊢
      have fin := turn_bl nD hcf (by rw [shR_len]; omega) sm hD (Same.refl _)
      refine ⟨rfl, yes (iteT ?_)⟩
      refine ⟨.ref a, rfl, .int (i : Int), rfl, a, _, _, .int u, rfl, rfl, sA, a1, u, 0, rfl, rfl, _, rfl, ?_⟩
      refine ite2 (fun c1 => ?_) (fun c1 => ?_)
      · refine ⟨.ref b, rfl, .int (i : Int), rfl, b, _, _, .int v, rfl, rfl, sB, a2, v, 0, rfl, rfl, ?_⟩
        have c1' : decide (0 < u) = true := c1
        rw [c1', Bool.true_and] at fin
        exact fin
      · have c1' : decide (0 < u) = false := Bool.eq_false_iff.mpr c1
        rw [c1', Bool.false_and] at fin
        exact fin
    · rw [Int.toNat_natCast, List.take_of_length_le (by rw [shR_len]; omega)] at hD
      exact ⟨D, _, rfl, SqL.of hD, q H' sm⟩
def spPlain : Sp := fun vs H Q _ => ∃ (f c : Addr), vs = [.ref f] ∧ FeedAt c H f ∧ ∀ H' p ll g m, Kp f H H' → FeedAt c H' f → LotAt H' p ll → 1 ≤ g → g ≤ 3 → 1 ≤ m → m ≤ 4 → GoodLot g m 3 ll → Q (.ref p) H'
theorem ok_plain {f : Addr} {fd : FuncData} (F : Fun K "_law_plain_lot" "_law_plain_lot" sPlain f fd) (CD : Cal P w K mg base CX0 1 "_law_draw" ["_law_feed_here", "_law_many"] spDraw) (CL : Cal P w K mg base CX0 3 "_law_lot" ["_law_feed_here", "_law_goods", "_law_kinds", "_law_most"] spLot) : FnOk P w K mg base CX0 4 f fd ["_law_feed_here"] spPlain := by
  obtain ⟨fD, fdD, GD, gD, kD, bD⟩ := CD.ex
  obtain ⟨fL, fdL, GL, gL, kL, bL⟩ := CL.ex
  refine F.ok scPl (fun vs H Q E h => ?_) (fun cdv A outer s H vs Q E hr h => ?_)
  · obtain ⟨a, c, rfl, _⟩ := h
    rfl
  · obtain ⟨a, c, rfl, Fd, q⟩ := h
    refine ⟨_, (pss_cons (ps_set (i := 1) scPl.nd rfl (.inl rfl) (pe_call GD (hr.mono (by decide)) (by rfl) gD kD bD .nil pass0 (pa_cons (pv 0) (pa_cons pe_int pa_nil))))
      (pss_cons (ps_if (pt_cmpR op_eq (pv 1) pe_int (nomark _)) (pss_one (ps_ret (pe_call GL (hr.mono (by decide)) (by rfl) gL kL bL .nil pass0 (pa_cons (pv 0) (pa_cons pe_int (pa_cons pe_int (pa_cons pe_int pa_nil))))))) pss_nil)
      (pss_cons (ps_if (pt_cmpR op_lt (pv 1) pe_int (nomark _)) (pss_one (ps_ret (pe_call GL (hr.mono (by decide)) (by rfl) gL kL bL .nil pass0 (pa_cons (pv 0) (pa_cons pe_int (pa_cons pe_int (pa_cons pe_int pa_nil))))))) pss_nil)
      (pss_one (ps_ret (pe_call GL (hr.mono (by decide)) (by rfl) gL kL bL .nil pass0 (pa_cons (pv 0) (pa_cons pe_int (pa_cons pe_int (pa_cons pe_int pa_nil)))))))))), ?_⟩
    refine ⟨.ref a, rfl, a, c, 4, rfl, by decide, by decide, Fd, fun d H1 d0 d1 k1 F1 => ?_⟩
    refine ⟨.int d, rfl, rfl, _, rfl, ite2 (fun c1 => ?_) (fun c1 => ?_)⟩
    · exact ⟨.ref a, rfl, a, c, 1, 3, 4, rfl, F1, by decide, by decide, by decide, by decide, by decide, by decide, fun H2 p ll k2 F2 _ hL gl => q H2 p ll 1 4 (k1.trans k2) F2 hL (by decide) (by decide) (by decide) (by decide) gl⟩
    · refine ⟨.int d, rfl, d, 3, rfl, rfl, _, rfl, ite2 (fun c2 => ?_) (fun c2 => ?_)⟩
      · exact ⟨.ref a, rfl, a, c, 2, 3, 2, rfl, F1, by decide, by decide, by decide, by decide, by decide, by decide, fun H2 p ll k2 F2 _ hL gl => q H2 p ll 2 2 (k1.trans k2) F2 hL (by decide) (by decide) (by decide) (by decide) gl⟩
      · exact ⟨.ref a, rfl, a, c, 3, 3, 1, rfl, F1, by decide, by decide, by decide, by decide, by decide, by decide, fun H2 p ll k2 F2 _ hL gl => q H2 p ll 3 1 (k1.trans k2) F2 hL (by decide) (by decide) (by decide) (by decide) gl⟩
end
end HL

set_option pp.maxSteps 3000
namespace HL
open PySem PySem.Spec PyProof.Rows L2
open C8 (pss_cut)
open LamX (CodeO Tabs TabS TabB ExtN tLam LamS lamS_by lamCx lamEnv codeO_ne)
/-! ### an ask, told by its word -/
abbrev NW : List Str := ["_law_ask", "_law_word_here", "_law_answer", "e"]
theorem scWord : FnScope NW ["_law_ask"] (defScope sWord) := ⟨rfl, rfl, rfl, by decide +kernel, rfl, by decide +kernel, by decide +kernel⟩
/-- a class that an ask may end with; l: whether it is of Missing's family, else of LotError's -/
structure FamW (K : PySem.W.Frag) (CE CM : Addr) (C : Addr) (l : Bool) : Prop where
  x : XfC K C
  nW : PySem.W.findIn K (.ref C) "word" = some none
  ce : PySem.W.exmOne K (.ref C) (.ref CE) = some (!l)
  cm : l = true → PySem.W.exmOne K (.ref C) (.ref CM) = some true
structure ClsW (mg : Str → Option Value) (CE CM CN : Addr) : Prop where
  gE : mg "LotError" = some (.ref CE)
  gM : mg "Missing" = some (.ref CM)
  gN : mg "NothingLeft" = some (.ref CN)
def tXfA (K : PySem.W.Frag) (a : Addr) (cls : Value) (d : Option Addr) (n : Str) (te : TE) : TE := fun σ H Q => ∃ C, XfC K C ∧ PySem.W.findIn K (.ref C) n = some none ∧ tXf a cls d C n te σ H Q
theorem pe_xfA {X : Cx} {a : Addr} {oe : Obj} {cls : Value} {d : Option Addr} {pn : List (Addr × Obj)} {e : Expr} {te : TE} {pos : Pos} {n : Str} (hz : Zc cls d oe) (hf : ∃ vs, oe.data = .fields vs) (he : PE (X.suite a ((a, oe) :: pn)) e te)
    (hb : attributeBase e n X.env (eval e X.env) = eval e X.env := by rfl) : PE (X.suite a ((a, oe) :: pn)) (.Attribute e n pos) (tXfA X.K a cls d n te) := ⟨fun pins s σ H Q I ⟨C, T, hno, h⟩ => (pe_xf T hno hz hf he hb).run pins s σ H Q I h⟩
def CatchW (K : PySem.W.Frag) (CE CM : Addr) (Q : VK) : XK := fun cls d H' => ∃ (C dd : Addr) (fs : List (Str × V)) (wd : Str) (l : Bool), FamW K CE CM C l ∧ d = some dd ∧ cls = .ref C ∧ H' dd = some (.xd fs) ∧ fs.lookup (Str.ofString "word") = some (V.str wd) ∧ ∀ t, H' t = none → Q (.ref t) (upd H' t (.tup [.non, .str wd]))
def TTw (K : PySem.W.Frag) (CE CM : Addr) : (XK → Hp → VK → Prop) → Hp → VK → Prop := fun tl H Q => tl (CatchW K CE CM Q) H (fun v H' => ∀ t, H' t = none → Q (.ref t) (upd H' t (.tup [v, .str ""])))
theorem word_gives {X : Cx} {q : Str} {g CE CM CN : Addr} {cdg : Value} (T : ClsW X.mg CE CM CN) : AsksOf X NW "_law_word" (defScope sWord) g cdg (defBody sWord) "_law_ask" q (TTw X.K CE CM) := by
  intro f c' s H Q tl act hc h
  refine ⟨_, pss_cons (ps_set (i := 1) scWord.nd rfl (.inl rfl) pe_str) (pss_cons (ps_set (i := 2) scWord.nd rfl (.inl rfl) pe_non) (pss_cons (ps_try_manyA (i := 3) (n := "e")
      (tb := fun W D σ H => ∃ Ech : XK, (∀ cls d H', Ech cls d H' → W cls d σ H') ∧ σ[0]? = some (some (.ref f)) ∧ H c' = some (CodeO c' q) ∧ tl Ech H (fun v H' => D.nx (σ.set 2 (some v)) H')) (Wout := fun _ _ _ _ => False)
      (l := [(.ref CE, fun a cls d => tAsg (tXfA X.K a cls d "word" (tVar 3)) (gName 1)), (.ref CM, fun a cls d => tAsg (tXfA X.K a cls d "word" (tVar 3)) (gName 1)), (.ref CN, fun a cls d => tAsg (tXfA X.K a cls d "word" (tVar 3)) (gName 1))])
      rfl rfl scWord.nd rfl rfl LamX.takes0 (fun W pn xe tk _ => ⟨fun pins s' σ H' D I h' => ?_⟩)
      (.cons ⟨rfl, by decide, .inl T.gE⟩ (fun a oe cls d pn hz hf => pss_one (ps_set (i := 1) scWord.nd rfl (.inl rfl) (pe_xfA hz hf (pv 3))))
      (.cons ⟨rfl, by decide, .inl T.gM⟩ (fun a oe cls d pn hz hf => pss_one (ps_set (i := 1) scWord.nd rfl (.inl rfl) (pe_xfA hz hf (pv 3))))
      (.cons ⟨rfl, by decide, .inl T.gN⟩ (fun a oe cls d pn hz hf => pss_one (ps_set (i := 1) scWord.nd rfl (.inl rfl) (pe_xfA hz hf (pv 3)))) .nil))))
    (pss_one (ps_ret (pe_tup (pa_cons (pv 2) (pa_cons (pv 1) pa_nil))))))), ?_⟩
  · obtain ⟨Ech, hW, h1, h2, h3⟩ := h'
    exact (pss_one (ps_set (i := 2) scWord.nd rfl (.inl rfl) (act σ W pn xe Ech _ _ tk hW))).run pins s' σ H' D I ⟨rfl, h1, h2, h3⟩
  · refine ⟨CatchW X.K CE CM Q, fun cls d H' hE => ?_, rfl, hc, ?_⟩
    · obtain ⟨C, dd, fs, wd, l, Fm, rfl, rfl, hd, hl, hQ⟩ := hE
      cases l with
      | false =>
        refine ⟨true, Fm.ce, fun _ a na => ?_, fun z => Bool.noConfusion z⟩
        exact ⟨C, Fm.x, Fm.nW, .ref a, rfl, rfl, rfl, dd, _, .str wd, rfl, hd, hl, .non, rfl, .str wd, rfl, sz_2 _ _, fun t nt => hQ t nt⟩
      | true =>
        refine ⟨false, Fm.ce, fun z => Bool.noConfusion z, fun _ => ⟨true, Fm.cm rfl, fun _ a na => ?_, fun z => Bool.noConfusion z⟩⟩
        exact ⟨C, Fm.x, Fm.nW, .ref a, rfl, rfl, rfl, dd, _, .str wd, rfl, hd, hl, .non, rfl, .str wd, rfl, sz_2 _ _, fun t nt => hQ t nt⟩
    · have e2 : (fun (v : V) (H' : Hp) => ∃ x2, ([some (.ref f), some (.str ""), some v, none] : L2.St)[2]? = some (some x2) ∧ ∃ x1, ([some (.ref f), some (.str ""), some v, none] : L2.St)[1]? = some (some x1) ∧ ([x2, x1].length ≤ sizeLine ∧ ∀ t, H' t = none → Q (.ref t) (upd H' t (.tup [x2, x1])))) =
          (fun (v : V) (H' : Hp) => ∀ t, H' t = none → Q (.ref t) (upd H' t (.tup [v, .str ""]))) := by
        funext v H'
        refine propext ⟨fun ⟨x2, h2, x1, h1, _, hq⟩ => ?_, fun hq => ⟨v, rfl, .str "", rfl, sz_2 _ _, hq⟩⟩
        cases Option.some.inj (Option.some.inj h2)
        cases Option.some.inj (Option.some.inj h1)
        exact hq
      have h' : tl (CatchW X.K CE CM Q) H (fun (v : V) (H' : Hp) => ∃ x2, ([some (.ref f), some (.str ""), some v, none] : L2.St)[2]? = some (some x2) ∧ ∃ x1, ([some (.ref f), some (.str ""), some v, none] : L2.St)[1]? = some (some x1) ∧ ([x2, x1].length ≤ sizeLine ∧ ∀ t, H' t = none → Q (.ref t) (upd H' t (.tup [x2, x1])))) := by
        rw [e2]
        exact h
      exact h'
/-- a refusal caught: what an ask that may be refused wants of E -/
theorem caught {K : PySem.W.Frag} {CE CM C : Addr} {wd : Str} {l : Bool} {H : Hp} {Q : VK} (Fm : FamW K CE CM C l) (q : ∀ H' t, Same H H' → H' t = some (.tup [.non, .str wd]) → Q (.ref t) H') : RefW C wd H (CatchW K CE CM Q) :=
  fun H' d fs s e hl => ⟨C, d, fs, wd, l, Fm, rfl, rfl, e, hl, fun t nt => q _ t (s.trans (same_new nt)) upd_same⟩
end HL

namespace HL
open PySem PySem.Spec PyProof.Rows L2
/-! xs[i] of a list, read for xs[i] += e -/
def rGetL (K : PySem.W.Frag) : V → V → Hp → VK → Prop := fun x y H Q => ∃ p xs i z, x = .ref p ∧ y = .int i ∧ SqL K H p xs ∧ 0 ≤ i ∧ atI xs i = some z ∧ Q z H
theorem get_list {X : Cx} : PGet X (rGetL X.K) := by
  intro pins s σ H x y v u Q I rx ry h
  obtain ⟨p, xs, i, z, rfl, rfl, hq, h0, he, q⟩ := h
  cases rx
  obtain ⟨t, rfl⟩ := ry
  obtain ⟨its, r, pl, hz⟩ := I.list hq
  obtain ⟨j, h1, h2, h3, h4, h5⟩ := atI_get he
  obtain ⟨w, ew, rw'⟩ := r.get h2
  have hl := r.length
  have hn := line63
  have fin : EP X pins σ Q w s := ⟨z, H, I, rw', q⟩
  have hj : i.toNat = j := by
    rw [seqIndex_of h0 h5] at h1
    exact Option.some.inj h1
  exact wpAny_getItem_list pl.isList h0 (by omega) (by rw [hj]; simpa using ew) fin
end HL

namespace HL
open PySem PySem.Spec PyProof.Rows L2
open PySem.W (KeyPure EachIs)
open PySem.Spec PySem.W
open LamX (CodeO Tabs TabB ExtN lamEnv lam_make2)
/-! sorted(rows, key=lambda row: abs(row[place])): rows of whole numbers, the place a name of the def -/
/-- the names of such a lambda: its one parameter, the place of the def around it, abs -/
structure LamK (sd sc : Scope) (r pl : Str) : Prop where
  kind : sc.kind = .function
  co : sc.isCoroutine = false
  gen : sc.isGenerator = false
  nocell : ∀ y ∈ sc.names, y.2 ≠ .cell
  row : sc.names.lookup r = some .local
  place : sc.names.lookup pl = some .free
  ab : sc.names.lookup (Str.ofString "abs") = some .globalImplicit
  only : ∀ y ∈ sc.names, y.2 = .free → y.1 = pl
  out : sd.names.lookup pl = some .cell
def lamKB (sd sc : Scope) (r pl : Str) : Bool :=
  decide (sc.kind = .function) && !sc.isCoroutine && !sc.isGenerator && (sc.names.all fun y => !decide (y.2 = .cell)) && decide (sc.names.lookup r = some .local) && decide (sc.names.lookup pl = some .free) && decide (sc.names.lookup (Str.ofString "abs") = some .globalImplicit) &&
    (sc.names.all fun y => !decide (y.2 = .free) || decide (y.1 = pl)) && decide (sd.names.lookup pl = some .cell)
theorem lamK_by {sd sc : Scope} {r pl : Str} (h : lamKB sd sc r pl = true) : LamK sd sc r pl := by
  unfold lamKB at h
  simp only [Bool.and_eq_true, Bool.or_eq_true, Bool.not_eq_true', decide_eq_true_eq, decide_eq_false_iff_not, List.all_eq_true] at h
  obtain ⟨⟨⟨⟨⟨⟨⟨⟨h1, h2⟩, h3⟩, h4⟩, h5⟩, h6⟩, h7⟩, h8⟩, h9⟩ := h
  exact ⟨h1, h2, h3, h4, h5, h6, h7, fun y hy e => (h8 y hy).resolve_left fun z => z e, h9⟩
def absI (z : Int) : Int := if z < 0 then -z else z
section
variable {X : Cx} {pins : List (Addr × Obj)} {σ : L2.St} {H : Hp} {s : Shared}
theorem key_turn {sc : Scope} {ps : Arguments} {r pl : Str} {f c' : Addr} {pm ct : Value} {i : Nat} {n z : Int} {p1 p2 p3 p4 p5 : Pos} {a : Addr} {xs : List Int}
    (I : Inv X pins σ H s) (L : LamK X.env.scope sc r pl) (hf : s.heap.get? f = some (lamO X ps (.Call (.Name "abs" p1) [.Subscript (.Name r p2) (.Name pl p3) p4] [] p5) sc pm c' ct)) (hco : H c' = some (CodeO c' (X.env.qual ++ "<lambda>")))
    (hb : ∀ v, bindArgs (PySem.W.kla_fn "<lambda>" (X.env.qual ++ "<lambda>") ps (.Call (.Name "abs" p1) [.Subscript (.Name r p2) (.Name pl p3) p4] [] p5) sc (cloFrom X.env.cells sc.names []) pm (.ref c') ct) ⟨[v], []⟩ = pure [(r, v)])
    (hm : X.mg "abs" = none) (hN : X.N[i]? = some pl) (hσ : σ[i]? = some (some (.int n))) (hr : Room 3 X.A) (dr : (r == ("__debug__" : Str)) = false) (dp : (pl == ("__debug__" : Str)) = false) (dp2 : (pl == ("__classdict__" : Str)) = false)
    (ha : H a = some (.tup (xs.map V.int))) (hat : atI (xs.map V.int) n = some (.int z)) (g : Heap) (tk : Nat) (kp : ∀ b o, s.heap.get? b = some o → g.get? b = some o) :
    wpAny (model X.prog X.w) X.A.in1.in1 (call (.ref f) [.ref a]) (KeyPure (.int (absI z)) { s with heap := g, toks := tk }) (fun _ _ => False) { s with heap := g, toks := tk } := by
  obtain ⟨cp, hcp⟩ : ∃ c, X.env.cells.lookup pl = some c := I.ok.has _ (.inl L.out)
  have hclo : (cloFrom X.env.cells sc.names []).lookup pl = some cp := by
    have hy : (pl, NameKind.free) ∈ sc.names := PySem.mem_of_lookup L.place
    obtain ⟨c2, h2⟩ := mem_lookup (cloFrom_has (cells := X.env.cells) (acc := []) hy)
    rcases cloFrom_mem (PySem.mem_of_lookup h2) with hm | ⟨h1, h3⟩
    · cases hm
    · rw [h2, h3, hcp]
      rfl
  have hplv : ∃ t, s.heap.IsCell cp (some (.int n t)) := by
    obtain ⟨m, hn, hl⟩ := I.loc
    obtain ⟨u, ru, q⟩ := hl i pl _ hN hσ (.inr (.inl L.out))
    obtain ⟨t, rfl⟩ := ru
    rcases q with ⟨k, _⟩ | ⟨_, c, e, hc⟩
    · have k : X.env.scope.names.lookup pl = some .local := k
      rw [L.out] at k
      cases k
    · rw [hcp] at e
      cases e
      exact ⟨t, hc⟩
  obtain ⟨t, hcell⟩ := hplv
  obtain ⟨its, rv, htp, hz⟩ := I.tuple (a := a) (SqT.of ha)
  obtain ⟨j, h1, h2, h3, h4, h5⟩ := atI_get hat
  obtain ⟨w, ew, rw'⟩ := rv.get h2
  obtain ⟨tz, rfl⟩ := rw'
  have hl := rv.length
  have hn63 := line63
  have of1 : g.get? f = some (lamO X ps (.Call (.Name "abs" p1) [.Subscript (.Name r p2) (.Name pl p3) p4] [] p5) sc pm c' ct) := kp _ _ hf
  obtain ⟨⟨oc, vs, tc, hoc, hdc, hvc⟩, _, _⟩ := I.hok c' _ hco
  have dpth : X.A.in1.in1.depth < recursionLimit := by
    have := hr.dp
    show X.A.depth < _
    omega
  refine wpAny_call (PySem.W.kla_callFunE dpth of1 rfl L.co L.gen rfl ⟨c', oc, vs, tc, rfl, kp _ _ hoc, hdc, hvc⟩ ?_)
  rw [hb]
  refine wpAny_pure (wpAny_newFunctionEnv L.nocell (fun y hy => by rw [List.mem_singleton.mp hy]; exact L.row) (fun h₁ hns hsb => ⟨?_, ?_⟩) L.kind)
  · have lim : Heap.NoLimit g := I.nolimit.keeps kp
    exact lim.fresh _ hsb
  have kp1 : ∀ b o, g.get? b = some o → h₁.get? b = some o := fun b o e => hsb.extBut b o (Nat.ne_of_lt (Heap.lt_size e)) (Heap.get?_push_of_some _ e)
  have kp2 : ∀ b o, s.heap.get? b = some o → h₁.get? b = some o := fun b o e => kp1 _ _ (kp _ _ e)
  refine PySem.W.kla_codeExpr ?_
  obtain ⟨mb, b1, b2⟩ := I.mod.blt
  refine wpAny_Call_Name_kw (Calls.Name_function_global L.kind L.ab (Calls.loadGlobal_builtin (I.mod.glob.keeps fun b o e => kp2 _ _ (I.bk b o e)) hm (b1.keeps fun b o e => kp2 _ _ (I.bk b o e)) ((b2 "abs" (by decide)).trans (show bootBuiltins "abs" = some (.builtin "abs") by decide +kernel)) ?_) (by decide))
  refine PyProof.Rows.callWith_builtin1 ?_ rfl rfl
  refine Calls.spliced_cons (Subscript_ (wpAny_Name (wpAny_loadName_local (v := .ref a) L.kind L.row hns ?_ (wpAny_Name (wpAny_loadName_free (v := .int n t) L.kind L.place hclo ?_ ?_ dp2) dp)) dr))
  · show ([(r, Value.ref a)].reverse).lookup r = some (.ref a)
    simp
  · obtain ⟨o, ho, hd⟩ := hcell
    exact ⟨o, kp2 _ _ ho, hd⟩
  · refine subscriptTail_builtinR (x := .int z tz) (htp.keeps kp2).typeIs slot_tuple_getitem.lookup (getItem_tuple (j := j) (htp.keeps kp2) (by omega) (by omega) (by rw [List.size_toArray, ← hl]; exact h1) (by simpa using ew) ⟨rfl, Calls.spliced_nil ?_⟩) rfl
    refine call_abs_int fun u tk2 => ?_
    exact ⟨h₁, _, rfl, kp1, .int _ _⟩
end
/-- the row at an address, as it is told -/
def rowF (H : Hp) (a : Addr) : List Int := match H a with
  | some (.tup xs) => xs.map fun v => match v with
    | .int n => n
    | _ => 0
  | _ => []
theorem rowF_at {H : Hp} {a : Addr} {r : List Int} (h : H a = some (.tup (r.map V.int))) : rowF H a = r := by
  unfold rowF
  rw [h]
  simp [List.map_map, Function.comp_def]
def tSortKey (K : PySem.W.Frag) (T : List (Addr × Str)) (i : Nat) (te : TE) : TE := fun σ H Q => te σ H fun v H0 => ∃ (l : Addr) (as : List Addr) (row : Addr → List Int) (n : Nat), v = .ref l ∧ H0 l = some (.lst (as.map V.ref)) ∧ Tabs T H0 ∧ σ[i]? = some (some (.int (n : Int))) ∧
  (∀ a ∈ as, H0 a = some (.tup ((row a).map V.int)) ∧ n < (row a).length) ∧
  ∀ (H1 : Hp) (bs : List Addr) (p : Addr), ExtN H0 H1 → Tabs T H1 → bs.Perm as → bs.Pairwise (fun a b => absI ((row a).getD n 0) ≤ absI ((row b).getD n 0)) → H1 p = none → Q (.ref p) (upd H1 p (.lst (bs.map V.ref)))
theorem each_refs : ∀ as : List Addr, EachIs (fun (v : Value) (a : Addr) => v = .ref a) (as.map Value.ref) as
  | [] => .nil
  | a :: as => .cons rfl (each_refs as)
theorem refs_each : ∀ {vs : List Value} {as : List Addr}, EachIs (fun (v : Value) (a : Addr) => v = .ref a) vs as → vs = as.map Value.ref
  | _, _, .nil => rfl
  | _, _, .cons h t => by rw [List.map_cons, h, refs_each t]
theorem vals_of_refs : ∀ as : List Addr, Vals (as.map V.ref) (as.map Value.ref)
  | [] => .nil
  | a :: as => .cons rfl (vals_of_refs as)
theorem pe_sortKey {X : Cx} {T : List (Addr × Str)} {c P : Addr} {i : Nat} {r pl : Str} {ps : Arguments} {sc : Scope} {e : Expr} {te : TE} {p lp kp pos p1 p2 p3 p4 p5 : Pos}
    (hg : Gl X "sorted") (hs : X.mg "sorted" = none) (hm : X.mg "abs" = none) (he : PE X e te) (TB : TabB X.base X.mg c P) (hcode : X.env.code = .ref c) (hT : (P, X.env.qual ++ "<lambda>") ∈ T) (hu : ∀ p ∈ T, p.1 = P → p.2 = X.env.qual ++ "<lambda>")
    (L : LamK X.env.scope sc r pl) (hdef : defaultsOf ps X.env = ([], [])) (hN : X.N[i]? = some pl) (hr : Room 3 X.A)
    (hb : ∀ (q : Str) (cl : List (Str × Addr)) (pm cv ctv v : Value), bindArgs (PySem.W.kla_fn "<lambda>" q ps (.Call (.Name "abs" p1) [.Subscript (.Name r p2) (.Name pl p3) p4] [] p5) sc cl pm cv ctv) ⟨[v], []⟩ = pure [(r, v)])
    (hst : starEach [e] X.env = [(false, eval e X.env)] := by rfl)
    (dr : (r == ("__debug__" : Str)) = false := by decide) (dp : (pl == ("__debug__" : Str)) = false := by decide) (dp2 : (pl == ("__classdict__" : Str)) = false := by decide) :
    PE X (.Call (.Name "sorted" p) [e] [⟨some "key", .Lambda ps (.Call (.Name "abs" p1) [.Subscript (.Name r p2) (.Name pl p3) p4] [] p5) sc lp, kp⟩] pos) (tSortKey X.K T i te) := by
  refine ⟨fun pins s σ H Q I h => ?_⟩
  refine wpAny_Call_Name_kw (ld_blt I hg hs (show bootBuiltins "sorted" = some (.builtin "sorted") by decide +kernel) ?_ (by decide) (by decide))
  refine PyProof.Rows.callWith_kw ?_ (by rw [hst]; rfl) (by rw [hst]; rfl) rfl rfl
  rw [hst]
  show wpAny _ _ (spliced [(false, eval e X.env)]) _ _ s
  refine Calls.spliced_cons (thn (he.run pins s σ H _ I (show te σ H _ from h)) fun u s1 ⟨v, H0, I0, r0, q0⟩ => Calls.spliced_nil ?_)
  obtain ⟨l, as, row, n, rfl, hL, hTt, hσ, hrow, q⟩ := q0
  obtain rfl : u = Value.ref l := r0
  show wpAny _ _ (evalAll ((do let v ← eval (.Lambda ps (.Call (.Name "abs" p1) [.Subscript (.Name r p2) (.Name pl p3) p4] [] p5) sc lp) X.env; standAt pos; pure v) :: [])) _ _ s1
  have hfree : ∀ y ∈ sc.names, y.2 = .free → ∃ c, X.env.cells.lookup y.1 = some c := fun y hy e => by
    rw [L.only y hy e]
    exact I.ok.has _ (.inl L.out)
  refine wpAny_evalAll_cons (wpAny_bind (lam_make2 I0 TB hcode hT hu hTt hdef hfree fun f c' pm' ctv H1 s2 J eN T1 hf hfn hfr hco => wpAny_bind (wpAny_standAt (wpAny_pure (wpAny_evalAll_nil ?_)))))
  have hL1 : SqL X.K H1 l (as.map V.ref) := by
    exact SqL.of (eN _ _ hL (fun ps w => by cases w))
  have hrow1 : ∀ a ∈ as, H1 a = some (.tup ((row a).map V.int)) ∧ n < (row a).length := fun a ha => ⟨eN _ _ (hrow a ha).1 (fun ps w => by cases w), (hrow a ha).2⟩
  obtain ⟨its, rv, hl, hz⟩ := J.list hL1
  obtain ⟨e1, e2⟩ := refs_back rv fun x m => by
    obtain ⟨b, _, rfl⟩ := List.mem_map.mp m
    exact ⟨b, rfl⟩
  obtain rfl := vals_refs e2 e1
  have hz' : as.length ≤ sizeLine := by rw [List.length_map] at hz; exact hz
  have hun := hr.un
  show wpAny _ _ (call (.builtin "sorted") [.ref l] [(Str.ofString "key", .ref f)]) _ _ s2
  refine PySem.W.sorted_key_data (b := false) (R := fun (v : Value) (a : Addr) => v = .ref a) (bs := as) (fun a => .int (absI ((row a).getD n 0))) hl.isList (each_refs as) (PySem.W.AllAlike.of fun _ _ => by simp [PySem.W.alike]) (.inr fun d hd => ?_) hz' (fun a _ => ?_) (ksk_s1 _ _) (fun _ => ksk_l1 _ _) (fun _ => ksk_t1 _ _)
    (fun v a hv ha g tk kp => ?_) fun out cc h' tk kp fresh hD hlen eo => ?_
  · obtain ⟨a, _, rfl⟩ := List.mem_map.mp hd
    exact ⟨(fun z => by cases z), (fun xs z => by cases z)⟩
  · have hd : (PyData.int (absI ((row a).getD n 0))).depth = 0 := by simp [PyData.depth]
    rw [hd]
    omega
  · subst hv
    have hat : atI ((row a).map V.int) (n : Int) = some (.int ((row a).getD n 0)) := atI_nat (by
      rw [List.getElem?_map, List.getD_eq_getElem?_getD, List.getElem?_eq_getElem (hrow1 a ha).2]
      rfl)
    exact key_turn J L hf hco (fun v => hb _ _ _ _ _ v) hm hN hσ hr dr dp dp2 (hrow1 a ha).1 hat g tk kp
  · have eout := refs_each eo
    have hle : PySem.W.dataLe (β := Addr) false (fun a => .int (absI ((row a).getD n 0))) = fun a b => decide (absI ((row a).getD n 0) ≤ absI ((row b).getD n 0)) := PySem.W.dataLe_int (fun a => absI ((row a).getD n 0))
    rw [hle] at eout
    have tot : PySem.W.TotalLe (fun a b : Addr => decide (absI ((row a).getD n 0) ≤ absI ((row b).getD n 0))) := ⟨fun a b c h1 h2 => by
      have h1 := of_decide_eq_true h1
      have h2 := of_decide_eq_true h2
      exact decide_eq_true (Int.le_trans h1 h2), fun a b => by
      rcases Int.le_total (absI ((row a).getD n 0)) (absI ((row b).getD n 0)) with h | h
      · exact .inl (decide_eq_true h)
      · exact .inr (decide_eq_true h)⟩
    have srt := (PySem.W.sort_pairwise tot as).imp fun {a b} h => of_decide_eq_true h
    have prm := List.mergeSort_perm as fun a b : Addr => decide (absI ((row a).getD n 0) ≤ absI ((row b).getD n 0))
    generalize as.mergeSort (fun a b : Addr => decide (absI ((row a).getD n 0) ≤ absI ((row b).getD n 0))) = bs at eout srt prm
    refine ⟨.ref _, upd H1 (s2.heap.objs.size + 1) (.lst (bs.map V.ref)), J.laid (t' := tk) kp (Nat.le_succ _) ⟨?_, bs.map Value.ref, cc, vals_of_refs bs, ?_⟩, rfl, q H1 bs _ eN T1 prm srt (J.hok.fresh (Nat.le_succ _))⟩
    · rw [List.length_map, prm.length_eq]
      exact hz'
    · rw [eout] at hD
      exact hD
end HL

namespace HL
open PySem PySem.Spec PyProof.Rows L2
open PySem.W (EachIs)
/-! sorted of a list of objects that read as data (rows, lists of rows, pairs, texts), in any order; xs.remove(row) -/
theorem dq_ints {K : PySem.W.Frag} {H : Hp} : ∀ (r : List Int), DpAll K H (r.map V.int) (r.map .int)
  | [] => .nil
  | n :: r => .cons (.int n) (dq_ints r)
theorem dq_row {K : PySem.W.Frag} {H : Hp} {a : Addr} {r : List Int} (h : H a = some (.tup (r.map V.int))) : Dp K H (.ref a) (.tuple (r.map .int)) := .tup (SqT.of h) (dq_ints r)
theorem dq_each {K : PySem.W.Frag} {H : Hp} {β : Type} {f : β → V} {g : β → PyData} : ∀ {bs : List β}, (∀ b ∈ bs, Dp K H (f b) (g b)) → DpAll K H (bs.map f) (bs.map g)
  | [], _ => .nil
  | b :: bs, h => .cons (h b List.mem_cons_self) (dq_each fun c hc => h c (List.mem_cons_of_mem _ hc))
theorem vals_reads {X : Cx} {pins : List (Addr × Obj)} {σ : L2.St} {H : Hp} {s : Shared} (I : Inv X pins σ H s) {β : Type} {f : β → Addr} {g : β → PyData} : ∀ (bs : List β), (∀ b ∈ bs, Dp X.K H (.ref (f b)) (g b)) → EachIs (fun v b => ∃ as, Reads s.heap v (g b) as) (bs.map fun b => Value.ref (f b)) bs
  | [], _ => .nil
  | b :: bs, h => .cons (Dp.reads I _ _ _ (h b List.mem_cons_self) rfl) (vals_reads I bs fun c hc => h c (List.mem_cons_of_mem _ hc))
theorem each_refsF {β : Type} {f : β → Addr} : ∀ bs : List β, EachIs (fun (v : Value) (b : β) => v = .ref (f b)) (bs.map fun b => Value.ref (f b)) bs
  | [] => .nil
  | b :: bs => .cons rfl (each_refsF bs)
theorem refs_eachF {β : Type} {f : β → Addr} : ∀ {vs : List Value} {bs : List β}, EachIs (fun (v : Value) (b : β) => v = .ref (f b)) vs bs → vs = bs.map fun b => Value.ref (f b)
  | _, _, .nil => rfl
  | _, _, .cons h t => by rw [List.map_cons, h, refs_eachF t]
theorem vals_of_refsF {β : Type} {f : β → Addr} : ∀ bs : List β, Vals (bs.map fun b => V.ref (f b)) (bs.map fun b => Value.ref (f b))
  | [] => .nil
  | b :: bs => .cons rfl (vals_of_refsF bs)
def rSortedD (K : PySem.W.Frag) : List V → Hp → VK → Prop := fun vs H Q => ∃ (a : Addr) (as : List Addr) (dt : Addr → PyData), vs = [V.ref a] ∧ SqL K H a (as.map V.ref) ∧ (∀ b ∈ as, Dp K H (.ref b) (dt b)) ∧ PySem.W.AllAlike (as.map dt) ∧ PySem.W.Sortable (as.map dt) ∧ (∀ b ∈ as, (dt b).depth ≤ 4) ∧
  ∀ (cs : List Addr) (p : Addr), cs = as.mergeSort (PySem.W.dataLe false dt) → cs.Perm as → H p = none → Q (.ref p) (upd H p (.lst (cs.map V.ref)))
theorem cr_sortedD {X : Cx} {k : Nat} (hr : Room k X.A) : CallR X (.builtin "sorted") (rSortedD X.K) := by
  intro pins s σ H vs us Q I r h
  obtain ⟨a, as, dt, rfl, hs, hdt, hal, hso, hdp, q⟩ := h
  obtain ⟨its, rv, hl, hz⟩ := I.list hs
  obtain ⟨u, rfl, ru⟩ := vals1 r
  obtain rfl : u = Value.ref a := ru
  obtain ⟨e1, e2⟩ := refs_back rv fun x m => by
    obtain ⟨b, _, rfl⟩ := List.mem_map.mp m
    exact ⟨b, rfl⟩
  obtain rfl := vals_refs e2 e1
  have hun := hr.un
  refine PySem.W.sorted_data (R := fun (v : Value) (b : Addr) => v = .ref b) (bs := as) (enc := dt) hl.isList (each_refs as) (vals_reads I (f := id) as hdt) hal hso (by rw [List.length_map] at hz; exact hz) (fun b hb => ?_) fun out hlen eo => ?_
  · have := hdp b hb
    omega
  · have eout := refs_each eo
    subst eout
    have prm := List.mergeSort_perm as (PySem.W.dataLe false dt)
    obtain ⟨n, hn⟩ := sortedAll_at s.heap (as.map Value.ref) (List.toArray ((as.mergeSort (PySem.W.dataLe false dt)).map Value.ref))
    refine ⟨.ref _, upd H (s.heap.objs.size + 1) (.lst ((as.mergeSort (PySem.W.dataLe false dt)).map V.ref)), I.laid (t' := s.toks) (fun b o e => sortedAll_old e) (Nat.le_succ _) ⟨?_, _, n, vals_of_refs _, hn⟩, rfl, q _ _ rfl prm (I.hok.fresh (Nat.le_succ _))⟩
    rw [List.length_map, prm.length_eq]
    rw [List.length_map] at hz
    exact hz
/-! ### the order of data that are rows of whole numbers -/
theorem dataLt_row (xs ys : List Int) : PySem.W.dataLt (.tuple (xs.map .int)) (.tuple (ys.map .int)) = decide (xs < ys) := by
  rw [PySem.W.dataLt_tuple]
  exact PySem.W.dataLt_ints xs ys
theorem dq_eqvs : ∀ xs ys : List Int, PyData.eqvAll (xs.map .int) (ys.map .int) = decide (xs = ys)
  | [], [] => by simp [PyData.eqvAll]
  | [], _ :: _ => by simp [PyData.eqvAll]
  | _ :: _, [] => by simp [PyData.eqvAll]
  | x :: xs, y :: ys => by
    show PyData.eqvAll (.int x :: xs.map .int) (.int y :: ys.map .int) = _
    rw [PyData.eqvAll, dq_eqvs xs ys]
    by_cases h : x = y <;> by_cases g : xs = ys <;> simp [PyData.eqv, h, g]
theorem dq_eqv (xs ys : List Int) : PyData.eqv (.tuple (xs.map .int)) (.tuple (ys.map .int)) = decide (xs = ys) := by
  rw [PyData.eqv]
  exact dq_eqvs xs ys
theorem row_alike (xs ys : List Int) : PySem.W.alike (.tuple (xs.map .int)) (.tuple (ys.map .int)) = true := by
  rw [PySem.W.alike]
  exact PySem.W.alike_ints xs ys
theorem row_depth (xs : List Int) : (PyData.tuple (xs.map .int)).depth = 1 := by
  rw [PyData.depth, PySem.W.depth_ints]
/-- rows, the less or alike first -/
theorem dataLe_row {β : Type} (x : β → List Int) : PySem.W.dataLe false (fun b => .tuple ((x b).map .int)) = fun p q => decide (¬ x q < x p) := by
  funext p q
  show (!PySem.W.dataLt (.tuple ((x q).map .int)) (.tuple ((x p).map .int))) = _
  rw [dataLt_row]
  by_cases h : x q < x p <;> simp [h]
theorem lt_irr (x : List Int) : ¬ x < x := List.lt_irrefl x
theorem lt_tr {x y z : List Int} (h : x < y) (g : y < z) : x < z := List.lt_trans h g
theorem lt_tot (x y : List Int) : x < y ∨ x = y ∨ y < x := by
  by_cases h : x < y
  · exact .inl h
  · by_cases g : y < x
    · exact .inr (.inr g)
    · exact .inr (.inl (List.le_antisymm g h))
/-- lists of rows, none empty: by their first rows where these differ -/
theorem dataLt_heads {x y : List Int} (h : x ≠ y) (xs ys : List (List Int)) : PySem.W.dataLt (.list ((x :: xs).map fun r => .tuple (r.map .int))) (.list ((y :: ys).map fun r => .tuple (r.map .int))) = decide (x < y) := by
  rw [PySem.W.dataLt_list]
  show PyProof.Rows.lexLt itemOrd (PySem.W.keyToksAll (.tuple (x.map .int) :: xs.map fun r => .tuple (r.map .int))) (PySem.W.keyToksAll (.tuple (y.map .int) :: ys.map fun r => .tuple (r.map .int))) = _
  rw [PySem.W.dataLt_cons (row_alike x y), dq_eqv, decide_eq_false h, if_neg Bool.false_ne_true, dataLt_row]
/-! ### xs.remove(row) -/
def rRemD (K : PySem.W.Frag) : V → List V → Hp → VK → Prop := fun x xs H Q => ∃ (l b : Addr) (as : List Addr) (rw : Addr → List Int) (j : Nat), x = .ref l ∧ xs = [.ref b] ∧ H l = some (.lst (as.map V.ref)) ∧ (∀ a ∈ as, H a = some (.tup ((rw a).map V.int))) ∧ H b = some (.tup ((rw b).map V.int)) ∧
  (as.map rw).findIdx? (fun r => decide (r = rw b)) = some j ∧ Q .non (upd H l (.lst ((as.eraseIdx j).map V.ref)))
theorem dq_plains : ∀ r : List Int, PyData.plainAll (r.map .int) = true
  | [] => by simp [PyData.plainAll]
  | n :: r => by
    show PyData.plainAll (.int n :: r.map .int) = true
    rw [PyData.plainAll, dq_plains r]
    simp [PyData.plain]
theorem dq_plain (r : List Int) : PyData.plain (.tuple (r.map .int)) = true := by rw [PyData.plain]; exact dq_plains r
theorem dq_plainr {β : Type} (f : β → List Int) : ∀ as : List β, PyData.plainAll (as.map fun a => .tuple ((f a).map .int)) = true
  | [] => by simp [PyData.plainAll]
  | a :: as => by
    show PyData.plainAll (.tuple ((f a).map .int) :: as.map fun a => .tuple ((f a).map .int)) = true
    rw [PyData.plainAll, dq_plainr f as, dq_plain]
    rfl
theorem dq_erase {α β : Type} (f : α → β) : ∀ (l : List α) (j : Nat), (l.map f).eraseIdx j = (l.eraseIdx j).map f
  | [], _ => rfl
  | _ :: _, 0 => rfl
  | x :: l, j + 1 => by
    show f x :: (l.map f).eraseIdx j = f x :: (l.eraseIdx j).map f
    rw [dq_erase f l j]
theorem mt_removeD {X : Cx} {k : Nat} (hr : Room k X.A) : MtM X "list.remove" (rRemD X.K) := by
  intro pins s σ H x xs v us Q I rx rxs h
  obtain ⟨l, b, as, rw', j, rfl, rfl, hH, hat, hb, hj, q⟩ := h
  cases rx
  obtain ⟨u, rfl, ru⟩ := rxs.one
  obtain rfl : u = Value.ref b := ru
  obtain ⟨z, its, n, r, hl, e⟩ := I.lstM hH
  have hun := hr.un
  obtain ⟨bs, rs⟩ := Dp.readsAll I (as.map fun a => .tuple ((rw' a).map .int)) _ its (dq_each fun a ha => dq_row (hat a ha)) r
  obtain ⟨ds, rb⟩ := Dp.reads I (.tuple ((rw' b).map .int)) _ (.ref b) (dq_row hb) rfl
  have hp : PySem.SeqAt.dataPlace (as.map fun a => .tuple ((rw' a).map .int)) (.tuple ((rw' b).map .int)) = some j := by
    unfold PySem.SeqAt.dataPlace
    rw [List.findIdx?_map] at hj ⊢
    rw [← hj]
    congr 1
    funext a
    exact dq_eqv _ _
  have hd := row_depth (rw' b)
  refine PySem.SeqAt.remove_list_data (j := j) (vs := its.toArray) (xs := as.map fun a => .tuple ((rw' a).map .int)) ⟨_, e, rfl, n, rfl⟩ (by rw [List.toList_toArray]; exact rs) rb (dq_plainr rw' as) (dq_plain _) (by omega) hp (by rw [List.size_toArray, ← r.length]; exact z) ?_
  have rr := r.eraseIdx j
  have em : (as.map V.ref).eraseIdx j = (as.eraseIdx j).map V.ref := dq_erase _ _ _
  rw [em] at rr
  refine ⟨.non, _, I.lset (its' := its.eraseIdx j) (t' := s.toks) hH e ?_ rr ?_, rfl, q⟩
  · show its.toArray.eraseIdxIfInBounds j = (its.eraseIdx j).toArray
    rw [List.eraseIdxIfInBounds_toArray]
  · rw [List.length_map, List.length_eraseIdx]
    rw [List.length_map] at z
    split <;> omega
end HL

namespace HL
/-! lumps: the classes of rows that are linked by sharing a kind -/
section
variable {α : Type}
def ClS (rows : List α) (sh : α → α → Prop) (S : α → Prop) : Prop := ∀ a b, S a → b ∈ rows → sh a b → S b
def LkS (rows : List α) (sh : α → α → Prop) (x y : α) : Prop := ∀ S, ClS rows sh S → S x → S y
theorem LkS.refl {rows : List α} {sh : α → α → Prop} (x : α) : LkS rows sh x x := fun _ _ h => h
theorem LkS.trans {rows : List α} {sh : α → α → Prop} {x y z : α} (h : LkS rows sh x y) (g : LkS rows sh y z) : LkS rows sh x z := fun S c s => g S c (h S c s)
theorem LkS.one {rows : List α} {sh : α → α → Prop} {x y : α} (hy : y ∈ rows) (h : sh x y) : LkS rows sh x y := fun S c s => c x y s hy h
theorem LkS.mono {rows rows' : List α} {sh : α → α → Prop} {x y : α} (m : ∀ a ∈ rows, a ∈ rows') (h : LkS rows sh x y) : LkS rows' sh x y := fun S c s => h S (fun a b sa hb hs => c a b sa (m b hb) hs) s
theorem LkS.symm {rows : List α} {sh : α → α → Prop} (sy : ∀ a b, sh a b → sh b a) {x y : α} (hx : x ∈ rows) (h : LkS rows sh x y) : LkS rows sh y x := fun S c sY => by
  have := h (fun a => a ∈ rows ∧ (S a → S x)) (fun a b ⟨ha, sa⟩ hb hs => ⟨hb, fun sb => sa (c b a sb ha (sy _ _ hs))⟩) ⟨hx, fun z => z⟩
  exact this.2 sY
structure IsL (rows : List α) (sh : α → α → Prop) (hlt : List α → List α → Prop) (Ls : List (List α)) : Prop where
  fil : ∀ l ∈ Ls, ∃ p : α → Bool, l = rows.filter p
  ne : ∀ l ∈ Ls, l ≠ []
  all : ∀ r ∈ rows, ∃ l ∈ Ls, r ∈ l
  lk : ∀ l ∈ Ls, ∀ x ∈ l, ∀ y ∈ l, LkS rows sh x y
  cl : ∀ l ∈ Ls, ∀ x ∈ l, ∀ y ∈ rows, sh x y → y ∈ l
  ord : Ls.Pairwise hlt
theorem eq_of_sorted {β : Type} {R : β → β → Prop} (as : ∀ a b, R a b → ¬ R b a) : ∀ {l m : List β}, l.Pairwise R → m.Pairwise R → (∀ x, x ∈ l ↔ x ∈ m) → l = m
  | [], [], _, _, _ => rfl
  | [], b :: m, _, _, h => by have := (h b).mpr List.mem_cons_self; cases this
  | a :: l, [], _, _, h => by have := (h a).mp List.mem_cons_self; cases this
  | a :: l, b :: m, hl, hm, h => by
    obtain ⟨l1, l2⟩ := List.pairwise_cons.mp hl
    obtain ⟨m1, m2⟩ := List.pairwise_cons.mp hm
    have e : a = b := by
      rcases List.mem_cons.mp ((h a).mp List.mem_cons_self) with e | e
      · exact e
      · rcases List.mem_cons.mp ((h b).mpr List.mem_cons_self) with e' | e'
        · exact e'.symm
        · exact absurd (m1 a e) (as _ _ (l1 b e'))
    subst e
    congr 1
    refine eq_of_sorted as l2 m2 fun x => ⟨fun hx => ?_, fun hx => ?_⟩
    · rcases List.mem_cons.mp ((h x).mp (List.mem_cons_of_mem _ hx)) with e | e
      · subst e
        exact absurd (l1 x hx) (as _ _ (l1 x hx))
      · exact e
    · rcases List.mem_cons.mp ((h x).mpr (List.mem_cons_of_mem _ hx)) with e | e
      · subst e
        exact absurd (m1 x hx) (as _ _ (m1 x hx))
      · exact e
theorem IsL.same {rows : List α} {sh : α → α → Prop} {hlt hlt' : List α → List α → Prop} {Ls Ls' : List (List α)} (h : IsL rows sh hlt Ls) (g : IsL rows sh hlt' Ls') {l : List α} (hl : l ∈ Ls) : l ∈ Ls' := by
  obtain ⟨p, ep⟩ := h.fil l hl
  obtain ⟨x, hx⟩ := List.exists_mem_of_ne_nil l (h.ne l hl)
  have xr : x ∈ rows := by rw [ep] at hx; exact (List.mem_filter.mp hx).1
  obtain ⟨l', hl', hx'⟩ := g.all x xr
  obtain ⟨p', ep'⟩ := g.fil l' hl'
  have sub1 : ∀ y ∈ l, y ∈ l' := fun y hy => h.lk l hl x hx y hy (fun a => a ∈ l') (fun a b sa hb hs => g.cl l' hl' a sa b hb hs) hx'
  have sub2 : ∀ y ∈ l', y ∈ l := fun y hy => g.lk l' hl' x hx' y hy (fun a => a ∈ l) (fun a b sa hb hs => h.cl l hl a sa b hb hs) hx
  have : l = l' := by
    rw [ep, ep']
    refine List.filter_congr fun y hy => ?_
    have i1 : y ∈ l ↔ p y = true := by rw [ep, List.mem_filter]; exact ⟨fun z => z.2, fun z => ⟨hy, z⟩⟩
    have i2 : y ∈ l' ↔ p' y = true := by rw [ep', List.mem_filter]; exact ⟨fun z => z.2, fun z => ⟨hy, z⟩⟩
    have i3 : p y = true ↔ p' y = true := i1.symm.trans ((⟨sub1 y, sub2 y⟩ : y ∈ l ↔ y ∈ l').trans i2)
    exact Bool.eq_iff_iff.mpr i3
  rw [this]
  exact hl'
theorem IsL.uniq {rows : List α} {sh : α → α → Prop} {hlt : List α → List α → Prop} (as : ∀ a b, hlt a b → ¬ hlt b a) {Ls Ls' : List (List α)} (h : IsL rows sh hlt Ls) (g : IsL rows sh hlt Ls') : Ls = Ls' :=
  eq_of_sorted as h.ord g.ord fun _ => ⟨fun z => h.same g z, fun z => g.same h z⟩
/-- lists by their first rows -/
def hltOf (lt : α → α → Prop) (l m : List α) : Prop := ∃ x l' y m', l = x :: l' ∧ m = y :: m' ∧ lt x y
theorem hlt_asym {lt : α → α → Prop} (as : ∀ a b, lt a b → ¬ lt b a) (l m : List α) (h : hltOf lt l m) : ¬ hltOf lt m l := by
  obtain ⟨x, l', y, m', rfl, rfl, hxy⟩ := h
  rintro ⟨x', l2, y', m2, e1, e2, h'⟩
  cases e1
  cases e2
  exact as _ _ hxy h'
end
/-! ### by masks: each row joins the groups that it shares a kind with -/
def subM (a b : Nat) : Prop := ∀ i, a.testBit i = true → b.testBit i = true
def meetM (a b : Nat) : Prop := ∃ i, a.testBit i = true ∧ b.testBit i = true
theorem meet_iff {a b : Nat} : a &&& b ≠ 0 ↔ meetM a b := by
  constructor
  · intro h
    obtain ⟨i, hi⟩ := Nat.exists_testBit_of_ne_zero h
    rw [Nat.testBit_and, Bool.and_eq_true] at hi
    exact ⟨i, hi⟩
  · rintro ⟨i, h1, h2⟩ e
    have : (a &&& b).testBit i = true := by rw [Nat.testBit_and, h1, h2]; rfl
    rw [e, Nat.zero_testBit] at this
    cases this
theorem sub_iff {a b : Nat} : a ||| b = b ↔ subM a b := by
  constructor
  · intro h i hi
    rw [← h, Nat.testBit_or, hi]
    rfl
  · intro h
    refine Nat.eq_of_testBit_eq fun i => ?_
    rw [Nat.testBit_or]
    cases e : a.testBit i with
    | false => rfl
    | true => rw [h i e]; rfl
def jnNT (gs : List Nat) (k : Nat) : Nat := gs.foldl (fun t g => if g &&& k ≠ 0 then t ||| g else t) k
def jnN (gs : List Nat) (k : Nat) : List Nat := gs.filter (fun g => decide (g &&& k = 0)) ++ [jnNT gs k]
theorem fold_bit (k : Nat) (i : Nat) : ∀ (gs : List Nat) (t : Nat), (gs.foldl (fun t g => if g &&& k ≠ 0 then t ||| g else t) t).testBit i = true ↔ t.testBit i = true ∨ ∃ g ∈ gs, meetM g k ∧ g.testBit i = true
  | [], t => by simp
  | g :: gs, t => by
    rw [List.foldl_cons, fold_bit k i gs]
    by_cases c : g &&& k ≠ 0
    · rw [if_pos c, Nat.testBit_or, Bool.or_eq_true]
      have m := meet_iff.mp c
      constructor
      · rintro ((h | h) | ⟨x, hx, h⟩)
        · exact .inl h
        · exact .inr ⟨g, List.mem_cons_self, m, h⟩
        · exact .inr ⟨x, List.mem_cons_of_mem _ hx, h⟩
      · rintro (h | ⟨x, hx, h1, h2⟩)
        · exact .inl (.inl h)
        · rcases List.mem_cons.mp hx with e | e
          · subst e; exact .inl (.inr h2)
          · exact .inr ⟨x, e, h1, h2⟩
    · rw [if_neg c]
      constructor
      · rintro (h | ⟨x, hx, h⟩)
        · exact .inl h
        · exact .inr ⟨x, List.mem_cons_of_mem _ hx, h⟩
      · rintro (h | ⟨x, hx, h1, h2⟩)
        · exact .inl h
        · rcases List.mem_cons.mp hx with e | e
          · subst e; exact absurd (meet_iff.mpr h1) c
          · exact .inr ⟨x, e, h1, h2⟩
section
variable {α : Type} {mk : α → Nat}
def shM (mk : α → Nat) (x y : α) : Prop := meetM (mk x) (mk y)
theorem shM_symm (x y : α) (h : shM mk x y) : shM mk y x := by
  obtain ⟨i, h1, h2⟩ := h
  exact ⟨i, h2, h1⟩
structure GI (mk : α → Nat) (done : List α) (gs : List Nat) : Prop where
  dis : gs.Pairwise fun g h => ¬ meetM g h
  inn : ∀ r ∈ done, ∃ g ∈ gs, subM (mk r) g
  lk : ∀ g ∈ gs, ∀ x ∈ done, ∀ y ∈ done, subM (mk x) g → subM (mk y) g → LkS done (shM mk) x y
  cov : ∀ g ∈ gs, ∀ i, g.testBit i = true → ∃ z ∈ done, subM (mk z) g ∧ (mk z).testBit i = true
  ne : ∀ g ∈ gs, ∃ z ∈ done, subM (mk z) g
theorem meet_symm {a b : Nat} (h : meetM a b) : meetM b a := by
  obtain ⟨i, h1, h2⟩ := h
  exact ⟨i, h2, h1⟩
theorem dis_of {gs : List Nat} (h : gs.Pairwise fun g h => ¬ meetM g h) : ∀ {g g' : Nat}, g ∈ gs → g' ∈ gs → g ≠ g' → ¬ meetM g g' := by
  induction h with
  | nil => intro g g' hg; cases hg
  | cons h1 h2 ih =>
    intro g g' hg hg' ne
    rcases List.mem_cons.mp hg with e | e <;> rcases List.mem_cons.mp hg' with e' | e'
    · exact absurd (e.trans e'.symm) ne
    · subst e; exact h1 g' e'
    · subst e'; exact fun m => h1 g e (meet_symm m)
    · exact ih e e' ne
theorem zero_of_sub {k g : Nat} (h : subM k g) (m : ¬ meetM g k) (i : Nat) : k.testBit i = false := by
  cases e : k.testBit i with
  | false => rfl
  | true => exact absurd ⟨i, h i e, e⟩ m
theorem GI.step {done : List α} {gs : List Nat} {r : α} (h : GI mk done gs) (Z : (∀ i, (mk r).testBit i = false) → ∀ x ∈ done, x = r) (Z2 : ∀ x ∈ done, (∀ i, (mk x).testBit i = false) → x = r) : GI mk (done ++ [r]) (jnN gs (mk r)) := by
  have bits : ∀ i, (jnNT gs (mk r)).testBit i = true ↔ (mk r).testBit i = true ∨ ∃ g ∈ gs, meetM g (mk r) ∧ g.testBit i = true := fun i => fold_bit (mk r) i gs (mk r)
  have kT : subM (mk r) (jnNT gs (mk r)) := fun i hi => (bits i).mpr (.inl hi)
  have gT : ∀ g ∈ gs, meetM g (mk r) → subM g (jnNT gs (mk r)) := fun g hg m i hi => (bits i).mpr (.inr ⟨g, hg, m, hi⟩)
  have fl : ∀ g, g ∈ gs.filter (fun g => decide (g &&& mk r = 0)) ↔ g ∈ gs ∧ ¬ meetM g (mk r) := fun g => by
    rw [List.mem_filter, decide_eq_true_eq]
    refine ⟨fun ⟨a, b⟩ => ⟨a, fun m => meet_iff.mpr m b⟩, fun ⟨a, b⟩ => ⟨a, ?_⟩⟩
    by_cases c : g &&& mk r = 0
    · exact c
    · exact absurd (meet_iff.mp c) b
  have out : ∀ g ∈ gs, ¬ meetM g (mk r) → ¬ meetM g (jnNT gs (mk r)) := fun g hg m => by
    rintro ⟨i, h1, h2⟩
    rcases (bits i).mp h2 with e | ⟨g', hg', m', e⟩
    · exact m ⟨i, h1, e⟩
    · by_cases ee : g = g'
      · subst ee; exact m m'
      · exact dis_of h.dis hg hg' ee ⟨i, h1, e⟩
  have mono : ∀ a ∈ done, a ∈ done ++ [r] := fun a ha => List.mem_append_left _ ha
  have rin : r ∈ done ++ [r] := List.mem_append_right _ List.mem_cons_self
  have mem : ∀ x, x ∈ done ++ [r] ↔ x ∈ done ∨ x = r := fun x => by rw [List.mem_append, List.mem_singleton]
  have toR : ∀ x ∈ done, subM (mk x) (jnNT gs (mk r)) → LkS (done ++ [r]) (shM mk) x r ∧ LkS (done ++ [r]) (shM mk) r x := fun x hx sx => by
    obtain ⟨g, hg, sg⟩ := h.inn x hx
    by_cases m : meetM g (mk r)
    · obtain ⟨i, h1, h2⟩ := m
      obtain ⟨z, hz, sz, bz⟩ := h.cov g hg i h1
      have l1 := (h.lk g hg x hx z hz sg sz).mono mono
      have l2 := (h.lk g hg z hz x hx sz sg).mono mono
      exact ⟨l1.trans (.one rin ⟨i, bz, h2⟩), (LkS.one (mono z hz) ⟨i, h2, bz⟩).trans l2⟩
    · have zx : ∀ i, (mk x).testBit i = false := fun i => by
        cases e : (mk x).testBit i with
        | false => rfl
        | true => exact absurd ⟨i, sg i e, sx i e⟩ (out g hg m)
      rw [Z2 x hx zx]
      exact ⟨.refl _, .refl _⟩
  refine ⟨?_, ?_, ?_, ?_, ?_⟩
  · unfold jnN
    rw [List.pairwise_append]
    refine ⟨h.dis.sublist List.filter_sublist, List.pairwise_singleton _ _, fun g hg t ht => ?_⟩
    rw [List.mem_singleton.mp ht]
    obtain ⟨a, b⟩ := (fl g).mp hg
    exact out g a b
  · intro x hx
    rcases (mem x).mp hx with hx | rfl
    · obtain ⟨g, hg, sg⟩ := h.inn x hx
      by_cases m : meetM g (mk r)
      · exact ⟨_, List.mem_append_right _ List.mem_cons_self, fun i hi => gT g hg m i (sg i hi)⟩
      · exact ⟨g, List.mem_append_left _ ((fl g).mpr ⟨hg, m⟩), sg⟩
    · exact ⟨_, List.mem_append_right _ List.mem_cons_self, kT⟩
  · intro g hg x hx y hy sx sy
    rcases List.mem_append.mp hg with hg | hg
    · obtain ⟨g1, g2⟩ := (fl g).mp hg
      rcases (mem x).mp hx with hx' | rfl
      · rcases (mem y).mp hy with hy' | rfl
        · exact (h.lk g g1 x hx' y hy' sx sy).mono mono
        · rw [Z (zero_of_sub sy g2) x hx']
          exact .refl _
      · rcases (mem y).mp hy with hy | rfl
        · rw [Z (zero_of_sub sx g2) y hy]
          exact .refl _
        · exact .refl _
    · rw [List.mem_singleton] at hg
      subst hg
      rcases (mem x).mp hx with hx' | rfl
      · rcases (mem y).mp hy with hy' | rfl
        · exact (toR x hx' sx).1.trans (toR y hy' sy).2
        · exact (toR x hx' sx).1
      · rcases (mem y).mp hy with hy | rfl
        · exact (toR y hy sy).2
        · exact .refl _
  · intro g hg i hi
    rcases List.mem_append.mp hg with hg | hg
    · obtain ⟨g1, g2⟩ := (fl g).mp hg
      obtain ⟨z, hz, a, b⟩ := h.cov g g1 i hi
      exact ⟨z, mono z hz, a, b⟩
    · rw [List.mem_singleton] at hg
      subst hg
      rcases (bits i).mp hi with e | ⟨g', hg', m', e⟩
      · exact ⟨r, rin, kT, e⟩
      · obtain ⟨z, hz, a, b⟩ := h.cov g' hg' i e
        exact ⟨z, mono z hz, fun j hj => gT g' hg' m' j (a j hj), b⟩
  · intro g hg
    rcases List.mem_append.mp hg with hg | hg
    · obtain ⟨g1, g2⟩ := (fl g).mp hg
      obtain ⟨z, hz, a⟩ := h.ne g g1
      exact ⟨z, mono z hz, a⟩
    · rw [List.mem_singleton] at hg
      subst hg
      exact ⟨r, rin, kT⟩
theorem GI.nil : GI mk [] [] := ⟨.nil, (fun r h => (by cases h)), (fun g h => (by cases h)), (fun g h => (by cases h)), (fun g h => (by cases h))⟩
def grN (mk : α → Nat) (rows : List α) : List Nat := rows.foldl (fun gs r => jnN gs (mk r)) []
theorem gi_all {rows : List α} (Z : ∀ x ∈ rows, ∀ y ∈ rows, (∀ i, (mk x).testBit i = false) → y = x) : ∀ n, GI mk (rows.take n) (grN mk (rows.take n))
  | 0 => by rw [List.take_zero]; exact GI.nil
  | n + 1 => by
    cases e : rows[n]? with
    | none =>
      have : rows.take (n + 1) = rows.take n := by rw [List.take_add_one, e]; simp
      rw [this]
      exact gi_all Z n
    | some r =>
      have et : rows.take (n + 1) = rows.take n ++ [r] := by rw [List.take_add_one, e]; rfl
      have hr : r ∈ rows := List.mem_of_getElem? e
      rw [et]
      unfold grN
      rw [List.foldl_append]
      exact (gi_all Z n).step (fun z x hx => Z r hr x (List.mem_of_mem_take hx) z) (fun x hx z => (Z x (List.mem_of_mem_take hx) r hr z).symm)
/-- the rows of each group, in any order of groups that rises by first rows -/
theorem isL_groups {rows : List α} {gs : List Nat} (h : GI mk rows gs) (Z : ∀ x ∈ rows, ∀ y ∈ rows, (∀ i, (mk x).testBit i = false) → y = x) (am : α → Nat → Bool) (ham : ∀ r g, am r g = true ↔ subM (mk r) g) {lt : List α → List α → Prop} {Ls : List (List α)} (P : Ls.Perm (gs.map fun g => rows.filter fun r => am r g)) (O : Ls.Pairwise lt) : IsL rows (shM mk) lt Ls := by
  have mem : ∀ l ∈ Ls, ∃ g ∈ gs, l = rows.filter fun r => am r g := fun l hl => by
    obtain ⟨g, hg, e⟩ := List.mem_map.mp (P.mem_iff.mp hl)
    exact ⟨g, hg, e.symm⟩
  have inl : ∀ {g x}, x ∈ rows.filter (fun r => am r g) ↔ x ∈ rows ∧ subM (mk x) g := fun {g x} => by rw [List.mem_filter, ham]
  refine ⟨fun l hl => ?_, fun l hl => ?_, fun r hr => ?_, fun l hl x hx y hy => ?_, fun l hl x hx y hy hs => ?_, O⟩
  · obtain ⟨g, _, e⟩ := mem l hl
    exact ⟨_, e⟩
  · obtain ⟨g, hg, e⟩ := mem l hl
    obtain ⟨z, hz, sz⟩ := h.ne g hg
    intro e'
    have : z ∈ l := by rw [e]; exact inl.mpr ⟨hz, sz⟩
    rw [e'] at this
    cases this
  · obtain ⟨g, hg, sg⟩ := h.inn r hr
    exact ⟨_, P.mem_iff.mpr (List.mem_map.mpr ⟨g, hg, rfl⟩), inl.mpr ⟨hr, sg⟩⟩
  · obtain ⟨g, hg, e⟩ := mem l hl
    rw [e] at hx hy
    exact h.lk g hg x (inl.mp hx).1 y (inl.mp hy).1 (inl.mp hx).2 (inl.mp hy).2
  · obtain ⟨g, hg, e⟩ := mem l hl
    rw [e] at hx ⊢
    obtain ⟨g', hg', sy⟩ := h.inn y hy
    by_cases ee : g = g'
    · subst ee; exact inl.mpr ⟨hy, sy⟩
    · obtain ⟨i, h1, h2⟩ := hs
      exact absurd ⟨i, (inl.mp hx).2 i h1, sy i h2⟩ (dis_of h.dis hg hg' ee)
/-- no row stands in two lumps -/
theorem groups_apart {rows : List α} {gs : List Nat} (h : GI mk rows gs) (Z : ∀ x ∈ rows, ∀ y ∈ rows, (∀ i, (mk x).testBit i = false) → y = x) (am : α → Nat → Bool) (ham : ∀ r g, am r g = true ↔ subM (mk r) g) (one : gs.length ≤ 1 ∨ ∀ x ∈ rows, ∃ i, (mk x).testBit i = true) :
    (gs.map fun g => rows.filter fun r => am r g).Pairwise fun l m => ∀ x, x ∈ l → x ∈ m → False := by
  rw [List.pairwise_map]
  rcases one with o | o
  · match gs, o with
    | [], _ => exact .nil
    | [g], _ => exact List.pairwise_singleton _ _
  · refine h.dis.imp fun {g g'} d x hx hy => ?_
    rw [List.mem_filter, ham] at hx hy
    obtain ⟨i, hi⟩ := o x hx.1
    exact d ⟨i, hx.2 i hi, hy.2 i hi⟩
end
end HL

namespace HL
/-! lumps as the law finds them: row by row, by turns -/
section
variable {α : Type} [DecidableEq α] {shb : α → α → Bool}
def nearL (shb : α → α → Bool) (left lump : List α) : List α := left.filter fun o => lump.any (shb o)
def restL (shb : α → α → Bool) (left lump : List α) : List α := left.filter fun o => !lump.any (shb o)
def turnsL (shb : α → α → Bool) (left lump : List α) : Nat → List α × List α
  | 0 => (left, lump)
  | n + 1 => (restL shb (turnsL shb left lump n).1 (turnsL shb left lump n).2, (turnsL shb left lump n).2 ++ nearL shb (turnsL shb left lump n).1 (turnsL shb left lump n).2)
def ClosedL (shb : α → α → Bool) (st : List α × List α) : Prop := ∀ o ∈ st.1, st.2.any (shb o) = false
theorem filter_short {p : α → Bool} : ∀ {l : List α} {x : α}, x ∈ l → p x = false → (l.filter p).length < l.length
  | y :: l, x, hx, hp => by
    rw [List.filter_cons]
    rcases List.mem_cons.mp hx with e | e
    · subst e
      rw [hp, if_neg Bool.false_ne_true]
      exact Nat.lt_succ_of_le (List.length_filter_le _ _)
    · have := filter_short (l := l) e hp
      split
      · rw [List.length_cons, List.length_cons]; omega
      · rw [List.length_cons]; omega
theorem turns_closed (left lump : List α) : ∀ n, ClosedL shb (turnsL shb left lump n) ∨ (turnsL shb left lump n).1.length + n ≤ left.length
  | 0 => .inr (Nat.le_refl _)
  | n + 1 => by
    by_cases c : ClosedL shb (turnsL shb left lump n)
    · have e1 : restL shb (turnsL shb left lump n).1 (turnsL shb left lump n).2 = (turnsL shb left lump n).1 := List.filter_eq_self.mpr fun o ho => by rw [c o ho]; rfl
      have e2 : nearL shb (turnsL shb left lump n).1 (turnsL shb left lump n).2 = [] := List.filter_eq_nil_iff.mpr fun o ho => by rw [c o ho]; exact Bool.false_ne_true
      refine .inl ?_
      unfold turnsL
      rw [e1, e2, List.append_nil]
      exact c
    · rcases turns_closed left lump n with h | h
      · exact absurd h c
      · refine .inr ?_
        have : ∃ o ∈ (turnsL shb left lump n).1, (!(turnsL shb left lump n).2.any (shb o)) = false := by
          by_cases z : ∃ o ∈ (turnsL shb left lump n).1, (!(turnsL shb left lump n).2.any (shb o)) = false
          · exact z
          · exact absurd (fun o ho => by
              cases e : (turnsL shb left lump n).2.any (shb o) with
              | false => rfl
              | true => exact absurd ⟨o, ho, by rw [e]; rfl⟩ z) c
        obtain ⟨o, ho, hp⟩ := this
        have := filter_short (p := fun o => !(turnsL shb left lump n).2.any (shb o)) ho hp
        show (restL shb (turnsL shb left lump n).1 (turnsL shb left lump n).2).length + (n + 1) ≤ _
        unfold restL
        omega
theorem turns_end {left lump : List α} {n : Nat} (h : left.length ≤ n) : ClosedL shb (turnsL shb left lump n) := by
  rcases turns_closed (shb := shb) left lump n with c | c
  · exact c
  · have : (turnsL shb left lump n).1 = [] := List.eq_nil_of_length_eq_zero (by omega)
    intro o ho
    rw [this] at ho
    cases ho
structure TI (rows : List α) (sh : α → α → Prop) (left0 : List α) (r : α) (st : List α × List α) : Prop where
  fil : ∃ q : α → Bool, st.1 = left0.filter q
  mem : ∀ x, (x ∈ st.1 ∨ x ∈ st.2) ↔ (x ∈ left0 ∨ x = r)
  dis : ∀ x, x ∈ st.1 → x ∈ st.2 → False
  lk : ∀ x ∈ st.2, LkS rows sh r x
  nd : st.2.Nodup
theorem turns_inv {rows left0 : List α} {sh : α → α → Prop} (hsh : ∀ x y, shb x y = true → sh y x) (nd : left0.Nodup) (sub : ∀ x ∈ left0, x ∈ rows) {r : α} (hr : r ∉ left0) : ∀ n, TI rows sh left0 r (turnsL shb left0 [r] n)
  | 0 => ⟨⟨fun _ => true, (List.filter_eq_self.mpr fun _ _ => rfl).symm⟩, fun x => by simp [turnsL], fun x h1 h2 => by
      rw [show (turnsL shb left0 [r] 0).2 = [r] from rfl, List.mem_singleton] at h2
      subst h2
      exact hr h1, fun x hx => by
      rw [show (turnsL shb left0 [r] 0).2 = [r] from rfl, List.mem_singleton] at hx
      subst hx
      exact .refl _, by simp [turnsL]⟩
  | n + 1 => by
    have ih := turns_inv hsh nd sub hr n
    unfold turnsL
    generalize turnsL shb left0 [r] n = st at ih
    have : TI rows sh left0 r (restL shb st.1 st.2, st.2 ++ nearL shb st.1 st.2) := by
      have m1 : ∀ x, x ∈ restL shb st.1 st.2 ↔ x ∈ st.1 ∧ st.2.any (shb x) = false := fun x => by
        unfold restL
        rw [List.mem_filter]
        cases st.2.any (shb x) <;> simp
      have m2 : ∀ x, x ∈ nearL shb st.1 st.2 ↔ x ∈ st.1 ∧ st.2.any (shb x) = true := fun x => by
        unfold nearL
        rw [List.mem_filter]
      refine ⟨?_, fun x => ?_, fun x h1 h2 => ?_, fun x hx => ?_, ?_⟩
      · obtain ⟨q, e⟩ := ih.fil
        refine ⟨fun x => q x && !st.2.any (shb x), ?_⟩
        show st.1.filter (fun o => !st.2.any (shb o)) = _
        rw [show st.1.filter (fun o => !st.2.any (shb o)) = (left0.filter q).filter (fun o => !st.2.any (shb o)) by rw [e], List.filter_filter]
        exact List.filter_congr fun x _ => Bool.and_comm _ _
      · show (x ∈ restL shb st.1 st.2 ∨ x ∈ st.2 ++ nearL shb st.1 st.2) ↔ _
        rw [← ih.mem x, m1, List.mem_append, m2]
        cases st.2.any (shb x) <;> simp
        · exact or_comm
      · rcases List.mem_append.mp (show x ∈ st.2 ++ nearL shb st.1 st.2 from h2) with h2 | h2
        · exact ih.dis x ((m1 x).mp h1).1 h2
        · have a := ((m1 x).mp h1).2
          rw [((m2 x).mp h2).2] at a
          cases a
      · rcases List.mem_append.mp (show x ∈ st.2 ++ nearL shb st.1 st.2 from hx) with hx | hx
        · exact ih.lk x hx
        · obtain ⟨a, b⟩ := (m2 x).mp hx
          obtain ⟨y, hy, hs⟩ := List.any_eq_true.mp b
          have xr : x ∈ rows := by
            obtain ⟨q, e⟩ := ih.fil
            rw [e] at a
            exact sub x (List.mem_filter.mp a).1
          exact (ih.lk y hy).trans (.one xr (hsh x y hs))
      · show (st.2 ++ nearL shb st.1 st.2).Nodup
        rw [List.nodup_append]
        refine ⟨ih.nd, ?_, fun x hx y hy e => ?_⟩
        · obtain ⟨q, e⟩ := ih.fil
          unfold nearL
          rw [e]
          exact (nd.sublist List.filter_sublist).sublist List.filter_sublist
        · subst e
          exact ih.dis x ((m2 x).mp hy).1 hx
    exact this
/-- what the law has found behind i rows -/
structure OI (rows : List α) (sh : α → α → Prop) (lt : α → α → Prop) (i : Nat) (left : List α) (found : List (List α)) : Prop where
  left : ∃ p : α → Bool, left = rows.filter p ∧ ∀ x ∈ rows, p x = true ↔ ∀ l ∈ found, x ∉ l
  fil : ∀ l ∈ found, ∃ p : α → Bool, l = rows.filter p
  all : ∀ r ∈ rows.take i, ∃ l ∈ found, r ∈ l
  lk : ∀ l ∈ found, ∀ x ∈ l, ∀ y ∈ l, LkS rows sh x y
  cl : ∀ l ∈ found, ∀ x ∈ l, ∀ y ∈ rows, sh x y → y ∈ l
  ord : found.Pairwise (hltOf lt)
  heads : ∀ l ∈ found, ∃ x l', l = x :: l' ∧ x ∈ rows.take i
theorem oi_nil {rows : List α} {sh lt : α → α → Prop} : OI rows sh lt 0 rows [] :=
  ⟨⟨fun _ => true, (List.filter_eq_self.mpr fun _ _ => rfl).symm, fun x _ => by simp⟩, (fun l h => (by cases h)), (fun r h => (by rw [List.take_zero] at h; cases h)), (fun l h => (by cases h)), (fun l h => (by cases h)), .nil, (fun l h => (by cases h))⟩
theorem take_more {rows : List α} {i : Nat} {r : α} (h : rows[i]? = some r) : rows.take (i + 1) = rows.take i ++ [r] := by rw [List.take_add_one, h]; rfl
theorem OI.skip {rows left : List α} {sh lt : α → α → Prop} {i : Nat} {found : List (List α)} {r : α} (h : OI rows sh lt i left found) (hr : rows[i]? = some r) (no : r ∉ left) : OI rows sh lt (i + 1) left found := by
  obtain ⟨p, e, hp⟩ := h.left
  refine ⟨⟨p, e, hp⟩, h.fil, fun x hx => ?_, h.lk, h.cl, h.ord, fun l hl => ?_⟩
  · rw [take_more hr] at hx
    rcases List.mem_append.mp hx with hx | hx
    · exact h.all x hx
    · rw [List.mem_singleton] at hx
      subst hx
      have xr := List.mem_of_getElem? hr
      by_cases c : ∃ l ∈ found, x ∈ l
      · exact c
      · refine absurd ?_ no
        rw [e, List.mem_filter]
        exact ⟨xr, (hp x xr).mpr fun l hl hx => c ⟨l, hl, hx⟩⟩
  · obtain ⟨x, l', e, hx⟩ := h.heads l hl
    refine ⟨x, l', e, ?_⟩
    rw [take_more hr]
    exact List.mem_append_left _ hx
theorem OI.take {rows left left0 : List α} {sh lt : α → α → Prop} {i : Nat} {found : List (List α)} {r : α} {st : List α × List α} (sy : ∀ a b, sh a b → sh b a) (hsb : ∀ x ∈ rows, ∀ y ∈ rows, sh x y → shb x y = true) (h : OI rows sh lt i left found) (ris : rows.Pairwise lt) (nd : rows.Nodup) (hr : rows[i]? = some r) (yes : r ∈ left) (e0 : left0 = left.filter fun x => decide (x ≠ r)) (T : TI rows sh left0 r st) (C : ClosedL shb st) :
    OI rows sh lt (i + 1) st.1 (found ++ [rows.filter fun x => decide (x ∈ st.2)]) := by
  obtain ⟨p, e, hp⟩ := h.left
  have rr := List.mem_of_getElem? hr
  have ml : ∀ x, x ∈ left ↔ x ∈ rows ∧ ∀ l ∈ found, x ∉ l := fun x => by
    rw [e, List.mem_filter]
    exact ⟨fun ⟨a, b⟩ => ⟨a, (hp x a).mp b⟩, fun ⟨a, b⟩ => ⟨a, (hp x a).mpr b⟩⟩
  have m0 : ∀ x, (x ∈ left0 ∨ x = r) ↔ x ∈ left := fun x => by
    rw [e0, List.mem_filter, decide_eq_true_eq]
    constructor
    · rintro (⟨a, _⟩ | a)
      · exact a
      · subst a; exact yes
    · intro a
      by_cases c : x = r
      · exact .inr c
      · exact .inl ⟨a, c⟩
  have ms : ∀ x, (x ∈ st.1 ∨ x ∈ st.2) ↔ x ∈ left := fun x => (T.mem x).trans (m0 x)
  have rl : r ∈ st.2 := by
    rcases (T.mem r).mpr (.inr rfl) with a | a
    · obtain ⟨q, eq⟩ := T.fil
      rw [eq, e0, List.filter_filter, List.mem_filter] at a
      have := a.2
      rw [Bool.and_eq_true, decide_eq_true_eq] at this
      exact absurd rfl this.2
    · exact a
  have new : ∀ x, x ∈ rows.filter (fun x => decide (x ∈ st.2)) ↔ x ∈ st.2 := fun x => by
    rw [List.mem_filter, decide_eq_true_eq]
    exact ⟨fun z => z.2, fun z => ⟨((ml x).mp ((ms x).mp (.inr z))).1, z⟩⟩
  have notk : ∀ x ∈ st.2, x ∉ rows.take i := fun x hx ht => by
    obtain ⟨l, hl, hxl⟩ := h.all x ht
    exact ((ml x).mp ((ms x).mp (.inr hx))).2 l hl hxl
  have split : rows = rows.take i ++ r :: rows.drop (i + 1) := by
    have h1 := (List.getElem?_eq_some_iff.mp hr)
    obtain ⟨hi, hv⟩ := h1
    have : rows.drop i = r :: rows.drop (i + 1) := by rw [List.drop_eq_getElem_cons hi, hv]
    rw [← this, List.take_append_drop]
  have hd : ∃ l', rows.filter (fun x => decide (x ∈ st.2)) = r :: l' := by
    refine ⟨(rows.drop (i + 1)).filter fun x => decide (x ∈ st.2), ?_⟩
    conv => lhs; rw [split]
    rw [List.filter_append, List.filter_cons, if_pos (decide_eq_true rl)]
    have : (rows.take i).filter (fun x => decide (x ∈ st.2)) = [] := List.filter_eq_nil_iff.mpr fun x hx z => notk x (of_decide_eq_true z) hx
    rw [this]
    rfl
  refine ⟨?_, fun l hl => ?_, fun x hx => ?_, fun l hl x hx y hy => ?_, fun l hl x hx y hy hs => ?_, ?_, fun l hl => ?_⟩
  · obtain ⟨q, eq⟩ := T.fil
    refine ⟨fun x => decide (x ∈ st.1), ?_, fun x hx => ?_⟩
    · rw [eq, e0, e, List.filter_filter, List.filter_filter]
      refine List.filter_congr fun x hx => ?_
      rw [Bool.eq_iff_iff, decide_eq_true_eq, List.mem_filter]
      exact ⟨fun z => ⟨hx, z⟩, fun z => z.2⟩
    · rw [decide_eq_true_eq]
      constructor
      · intro hx1 l hl
        rcases List.mem_append.mp hl with hl | hl
        · exact ((ml x).mp ((ms x).mp (.inl hx1))).2 l hl
        · rw [List.mem_singleton] at hl
          subst hl
          rw [new]
          exact fun z => T.dis x hx1 z
      · intro hn
        have : x ∈ left := (ml x).mpr ⟨hx, fun l hl => hn l (List.mem_append_left _ hl)⟩
        rcases (ms x).mpr this with a | a
        · exact a
        · exact absurd ((new x).mpr a) (hn _ (List.mem_append_right _ List.mem_cons_self))
  · rcases List.mem_append.mp hl with hl | hl
    · exact h.fil l hl
    · exact ⟨_, List.mem_singleton.mp hl⟩
  · rw [take_more hr] at hx
    rcases List.mem_append.mp hx with hx | hx
    · obtain ⟨l, hl, hxl⟩ := h.all x hx
      exact ⟨l, List.mem_append_left _ hl, hxl⟩
    · rw [List.mem_singleton] at hx
      subst hx
      exact ⟨_, List.mem_append_right _ List.mem_cons_self, (new x).mpr rl⟩
  · rcases List.mem_append.mp hl with hl | hl
    · exact h.lk l hl x hx y hy
    · rw [List.mem_singleton] at hl
      subst hl
      exact ((T.lk x ((new x).mp hx)).symm sy rr).trans (T.lk y ((new y).mp hy))
  · rcases List.mem_append.mp hl with hl | hl
    · exact h.cl l hl x hx y hy hs
    · rw [List.mem_singleton] at hl
      subst hl
      have x2 := (new x).mp hx
      refine (new y).mpr ?_
      by_cases c : y ∈ left
      · rcases (ms y).mpr c with a | a
        · have := C y a
          rw [List.any_eq_false] at this
          exact absurd (hsb y hy x ((ml x).mp ((ms x).mp (.inr x2))).1 (sy _ _ hs)) (this x x2)
        · exact a
      · have : ∃ l ∈ found, y ∈ l := by
          by_cases z : ∃ l ∈ found, y ∈ l
          · exact z
          · exact absurd ((ml y).mpr ⟨hy, fun l hl hyl => z ⟨l, hl, hyl⟩⟩) c
        obtain ⟨l, hl, hyl⟩ := this
        obtain ⟨xr, xn⟩ := (ml x).mp ((ms x).mp (.inr x2))
        exact absurd (h.cl l hl y hyl x xr (sy _ _ hs)) (xn l hl)
  · rw [List.pairwise_append]
    refine ⟨h.ord, List.pairwise_singleton _ _, fun l hl m hm => ?_⟩
    rw [List.mem_singleton] at hm
    obtain ⟨l', e1⟩ := hd
    obtain ⟨x, l2, e2, hx⟩ := h.heads l hl
    refine ⟨x, l2, r, l', e2, hm.trans e1, ?_⟩
    have P := ris
    rw [split, List.pairwise_append] at P
    exact P.2.2 x hx r List.mem_cons_self
  · rcases List.mem_append.mp hl with hl | hl
    · obtain ⟨x, l', e, hx⟩ := h.heads l hl
      refine ⟨x, l', e, ?_⟩
      rw [take_more hr]
      exact List.mem_append_left _ hx
    · rw [List.mem_singleton] at hl
      obtain ⟨l', e1⟩ := hd
      refine ⟨r, l', hl.trans e1, ?_⟩
      rw [take_more hr]
      exact List.mem_append_right _ List.mem_cons_self
theorem OI.done {rows left : List α} {sh lt : α → α → Prop} {found : List (List α)} (h : OI rows sh lt rows.length left found) : IsL rows sh (hltOf lt) found :=
  ⟨h.fil, fun l hl => by
    obtain ⟨x, l', e, _⟩ := h.heads l hl
    rw [e]
    exact List.cons_ne_nil _ _, fun r hr => h.all r (by rw [List.take_length]; exact hr), h.lk, h.cl, h.ord⟩
theorem filt_split (p : α → Bool) : ∀ l : List α, (l.filter fun x => !p x).length + (l.filter p).length = l.length
  | [] => rfl
  | x :: l => by
    have := filt_split p l
    rw [List.filter_cons, List.filter_cons]
    cases p x <;> simp <;> omega
theorem turns_len (left lump : List α) : ∀ n, (turnsL shb left lump n).1.length + (turnsL shb left lump n).2.length = left.length + lump.length
  | 0 => rfl
  | n + 1 => by
    have ih := turns_len left lump n
    have := filt_split (fun o => (turnsL shb left lump n).2.any (shb o)) (turnsL shb left lump n).1
    show (restL shb _ _).length + ((turnsL shb left lump n).2 ++ nearL shb _ _).length = _
    rw [List.length_append]
    unfold restL nearL
    omega
theorem er_filter : ∀ {l : List α} {j : Nat} {r : α}, l.Nodup → l[j]? = some r → l.eraseIdx j = l.filter fun x => decide (x ≠ r)
  | [], j, r, _, h => by simp at h
  | x :: l, 0, r, nd, h => by
    have e : x = r := by simpa using h
    subst e
    obtain ⟨n1, n2⟩ := List.nodup_cons.mp nd
    rw [List.eraseIdx_cons_zero, List.filter_cons, if_neg (by simp)]
    exact (List.filter_eq_self.mpr fun y hy => decide_eq_true (p := y ≠ x) fun (e : y = x) => n1 (e ▸ hy)).symm
  | x :: l, j + 1, r, nd, h => by
    obtain ⟨n1, n2⟩ := List.nodup_cons.mp nd
    have h' : l[j]? = some r := by simpa using h
    have ne : x ≠ r := fun e => n1 (e ▸ List.mem_of_getElem? h')
    rw [List.eraseIdx_cons_succ, List.filter_cons, if_pos (decide_eq_true ne), er_filter n2 h']
end
end HL

set_option pp.maxSteps 3000
namespace HL
open PySem PySem.Spec PyProof.Rows L2
open C8 (pss_cut)
theorem scLu : FnScope ["lot", "bill", "rows", "groups", "row", "kinds"] ["lot", "bill"] (defScope sLumps) := ⟨rfl, rfl, rfl, by decide +kernel, rfl, by decide +kernel, by decide +kernel⟩
abbrev scLuO : Scope := { kind := .function, names := [(".0", .local), ("kinds", .cell), ("rows", .cell)], isGenerator := false, isCoroutine := false }
/-! ### masks as plain numbers -/
def bN (c : Nat → Bool) : Nat → Nat
  | 0 => 0
  | i + 1 => (if c i = true then 2 ^ i else 0) + bN c i
theorem bN_lt (c : Nat → Bool) : ∀ i, bN c i < 2 ^ i
  | 0 => by show 0 < 2 ^ 0; decide
  | i + 1 => by
    have := bN_lt c i
    show (if c i = true then 2 ^ i else 0) + bN c i < _
    rw [Nat.pow_succ]
    split <;> omega
theorem bN_bit (c : Nat → Bool) (j : Nat) : ∀ i, (bN c i).testBit j = (decide (j < i) && c j)
  | 0 => by simp [bN]
  | i + 1 => by
    unfold bN
    by_cases h1 : j < i
    · rw [decide_eq_true (show j < i + 1 by omega)]
      by_cases h : c i = true
      · rw [if_pos h, Nat.testBit_two_pow_add_gt h1, bN_bit c j i, decide_eq_true h1]
      · rw [if_neg h, Nat.zero_add, bN_bit c j i, decide_eq_true h1]
    · by_cases h2 : j = i
      · subst h2
        rw [decide_eq_true (Nat.lt_succ_self j), Bool.true_and]
        have z : (bN c j).testBit j = false := by rw [bN_bit c j j, decide_eq_false (Nat.lt_irrefl j)]; rfl
        cases h : c j with
        | true => rw [if_pos rfl, Nat.testBit_two_pow_add_eq, z]; rfl
        | false => rw [if_neg Bool.false_ne_true, Nat.zero_add, z]
      · rw [decide_eq_false (show ¬ j < i + 1 by omega), Bool.false_and]
        have l := bN_lt c i
        refine Nat.testBit_lt_two_pow (Nat.lt_of_lt_of_le (m := 2 ^ (i + 1)) ?_ (Nat.pow_le_pow_right (by decide) (by omega)))
        rw [Nat.pow_succ]
        split <;> omega
def mkN (r : List Int) : Nat := bN (fun j => decide (r.getD j 0 ≠ 0)) r.length
theorem mkL_sum (r : List Int) : ∀ i, (mkL r i).sum = (bN (fun j => decide (r.getD j 0 ≠ 0)) i : Nat)
  | 0 => rfl
  | i + 1 => by
    rw [mkL_more, List.sum_append, mkL_sum r i]
    show _ = (((if (decide (r.getD i 0 ≠ 0)) = true then 2 ^ i else 0) + bN (fun j => decide (r.getD j 0 ≠ 0)) i : Nat) : Int)
    by_cases h : r.getD i 0 ≠ 0
    · rw [if_pos h, if_pos (decide_eq_true h), List.sum_singleton, Int.natCast_add, Int.natCast_pow, Int.one_mul, Int.add_comm]
      rfl
    · rw [if_neg h, if_neg (fun z => h (of_decide_eq_true z)), List.sum_nil]
      omega
theorem mkI_eq (r : List Int) : mkI r = (mkN r : Int) := mkL_sum r r.length
theorem mkN_bit (r : List Int) (j : Nat) : (mkN r).testBit j = true ↔ j < r.length ∧ r.getD j 0 ≠ 0 := by
  unfold mkN
  rw [bN_bit, Bool.and_eq_true, decide_eq_true_eq, decide_eq_true_eq]
theorem andN (a b : Nat) : Builtin.bitAnd (a : Int) (b : Int) = ((a &&& b : Nat) : Int) := by
  rw [PyProof.Rows.bitAnd_pp (Int.natCast_nonneg a) (Int.natCast_nonneg b), Int.toNat_natCast, Int.toNat_natCast]
theorem orN (a b : Nat) : Builtin.bitOr (a : Int) (b : Int) = ((a ||| b : Nat) : Int) := by
  rw [Bits.bitOr_pp (Int.natCast_nonneg a) (Int.natCast_nonneg b), Int.toNat_natCast, Int.toNat_natCast]
theorem jnT_eq (k : Nat) : ∀ (gs : List Nat) (t : Nat), (gs.map (fun (g : Nat) => (g : Int))).foldl (fun t g => if Builtin.bitAnd g (k : Int) ≠ 0 then Builtin.bitOr t g else t) (t : Int) = ((gs.foldl (fun t g => if g &&& k ≠ 0 then t ||| g else t) t : Nat) : Int)
  | [], t => rfl
  | g :: gs, t => by
    rw [List.map_cons, List.foldl_cons, List.foldl_cons, andN, orN]
    by_cases h : g &&& k ≠ 0
    · rw [if_pos h, if_pos (by omega), jnT_eq k gs]
    · rw [if_neg h, if_neg (by omega), jnT_eq k gs]
theorem jnI_eq (gs : List Nat) (k : Nat) : jnI (gs.map fun (g : Nat) => (g : Int)) (k : Int) = (jnN gs k).map fun (g : Nat) => (g : Int) := by
  unfold jnI jnN jnT jnNT
  rw [jnT_eq, List.map_append, List.filter_map]
  congr 1
  congr 1
  refine List.filter_congr fun g _ => ?_
  show decide (Builtin.bitAnd (g : Int) (k : Int) = 0) = _
  rw [andN]
  by_cases h : g &&& k = 0
  · rw [decide_eq_true h, decide_eq_true (by omega)]
  · rw [decide_eq_false h, decide_eq_false (by omega)]
theorem am_iff (r : List Int) (g : Nat) : amB r (g : Int) = true ↔ subM (mkN r) g := by
  unfold amB
  rw [decide_eq_true_eq, mkI_eq, orN, ← sub_iff]
  omega
theorem jnN_len (gs : List Nat) (k : Nat) : (jnN gs k).length ≤ gs.length + 1 := by
  unfold jnN
  rw [List.length_append]
  have := List.length_filter_le (fun g => decide (g &&& k = 0)) gs
  simp only [List.length_singleton]
  omega
theorem grN_len (rows : List (List Int)) : ∀ n, (grN mkN (rows.take n)).length ≤ n
  | 0 => by rw [List.take_zero]; exact Nat.le_refl _
  | n + 1 => by
    have ih := grN_len rows n
    cases e : rows[n]? with
    | none =>
      have : rows.take (n + 1) = rows.take n := by rw [List.take_add_one, e]; simp
      rw [this]
      omega
    | some r =>
      rw [take_more e]
      unfold grN at ih ⊢
      rw [List.foldl_append]
      exact Nat.le_trans (jnN_len _ _) (by omega)
theorem grN_more {rows : List (List Int)} {n : Nat} {r : List Int} (e : rows[n]? = some r) : grN mkN (rows.take (n + 1)) = jnN (grN mkN (rows.take n)) (mkN r) := by
  rw [take_more e]
  unfold grN
  rw [List.foldl_append]
  rfl
/-! ### a filling of noughts is the only one -/
theorem comes_zero {g : Nat} : ∀ {l : List (List Int)} {c b : List Int}, (∀ h ∈ l, Kd g h) → b.length = g → Comes l c b → zeroB b = true → ∀ n ∈ c, n = 0
  | [], [], _, _, _, _, _ => fun n hn => by cases hn
  | [], _ :: _, _, _, _, h, _ => h.elim
  | _ :: _, [], _, _, _, h, _ => h.elim
  | h :: t, k :: c, b, hl, hb, q, z => by
    have kh := hl h List.mem_cons_self
    have eb : b.length = h.length := by rw [hb, kh.1]
    have ht : ∀ x ∈ t, Kd g x := fun x hx => hl x (List.mem_cons_of_mem _ hx)
    have nn := nnB_iff.mp (comes_bill ht (by rw [subR_len eb, hb]) q.2)
    obtain ⟨m, hm, hp⟩ := kh.2.2
    obtain ⟨j, hj, ej⟩ := List.mem_iff_getElem.mp hm
    have hjb : j < b.length := by omega
    have zb := zeroB_iff.mp z b[j] (List.getElem_mem hjb)
    have at_ : (subR b h k)[j]? = some (b[j] - k * h[j]) := by
      unfold subR
      rw [List.getElem?_map, List.getElem?_zip_eq_some (z := (b[j], h[j])) |>.mpr ⟨List.getElem?_eq_getElem hjb, List.getElem?_eq_getElem hj⟩]
      rfl
    have k0 : k = 0 := by
      have h1 := nn _ (List.mem_of_getElem? at_)
      rw [zb, ej] at h1
      have h2 := q.1
      by_cases c0 : k = 0
      · exact c0
      · have : 0 < k * m := Int.mul_pos (by omega) hp
        omega
    subst k0
    have eb2 : zeroB (subR b h 0) = true := by
      refine zeroB_iff.mpr fun n hn => ?_
      unfold subR at hn
      obtain ⟨w, hw, e⟩ := List.mem_map.mp hn
      have := zeroB_iff.mp z w.1 (List.of_mem_zip hw).1
      omega
    intro n hn
    rcases List.mem_cons.mp hn with e | e
    · exact e
    · exact comes_zero ht (by rw [subR_len eb, hb]) q.2 eb2 n e
theorem comes_nought {g : Nat} : ∀ {l : List (List Int)} {c b : List Int}, (∀ h ∈ l, Kd g h) → b.length = g → Comes l c b → (∀ n ∈ c, n = 0) → zeroB b = true
  | [], [], _, _, _, h, _ => h
  | [], _ :: _, _, _, _, h, _ => h.elim
  | _ :: _, [], _, _, _, h, _ => h.elim
  | h :: t, k :: c, b, hl, hb, q, z => by
    have kh := hl h List.mem_cons_self
    have eb : b.length = h.length := by rw [hb, kh.1]
    have ht : ∀ x ∈ t, Kd g x := fun x hx => hl x (List.mem_cons_of_mem _ hx)
    have k0 : k = 0 := z k List.mem_cons_self
    subst k0
    have r := zeroB_iff.mp (comes_nought ht (by rw [subR_len eb, hb]) q.2 fun n hn => z n (List.mem_cons_of_mem _ hn))
    refine zeroB_iff.mpr fun n hn => ?_
    obtain ⟨j, hj, ej⟩ := List.mem_iff_getElem.mp hn
    have hjh : j < h.length := by omega
    have at_ : (subR b h 0)[j]? = some (b[j] - 0 * h[j]) := by
      unfold subR
      rw [List.getElem?_map, List.getElem?_zip_eq_some (z := (b[j], h[j])) |>.mpr ⟨List.getElem?_eq_getElem hj, List.getElem?_eq_getElem hjh⟩]
      rfl
    have := r _ (List.mem_of_getElem? at_)
    omega
theorem fils_alone {g : Nat} {ll : List (List Int)} {b : List Int} (hl : ∀ h ∈ ll, Kd g h) (hb : b.length = g) : ∀ x ∈ fils ll b, ∀ y ∈ fils ll b, (∀ i, (mkN x).testBit i = false) → y = x := by
  intro x hx y hy z
  have cx := (fils_mem hl hb).mp hx
  have cy := (fils_mem hl hb).mp hy
  have zx : ∀ n ∈ x, n = 0 := fun n hn => by
    obtain ⟨j, hj, ej⟩ := List.mem_iff_getElem.mp hn
    by_cases c : n = 0
    · exact c
    · have := (mkN_bit x j).mpr ⟨hj, by rw [List.getD_eq_getElem?_getD, List.getElem?_eq_getElem hj]; show x[j] ≠ 0; rw [ej]; exact c⟩
      rw [z j] at this
      cases this
  have zy := comes_zero hl hb cy (comes_nought hl hb cx zx)
  refine List.ext_getElem (by rw [comes_len cx, comes_len cy]) fun i h1 h2 => ?_
  rw [zx _ (List.getElem_mem h2), zy _ (List.getElem_mem h1)]
theorem lx_lt : ∀ {x y : List Int}, lx x y → x < y
  | [], [], h => h.elim
  | [], _ :: _, h => h.elim
  | _ :: _, [], h => h.elim
  | a :: x, b :: y, h => by
    rw [List.cons_lt_cons_iff]
    rcases h with h | ⟨e, h⟩
    · exact .inl h
    · exact .inr ⟨e, lx_lt h⟩
theorem nodup_lt {rows : List (List Int)} (h : rows.Pairwise (· < ·)) : rows.Nodup := List.nodup_iff_pairwise_ne.mpr (h.imp fun {a b} l (e : a = b) => lt_irr a (by rw [← e] at l; exact l))
/-! ### lists of rows, as they stand -/
def rowsF (H : Hp) (a : Addr) : List (List Int) := match H a with
  | some (.lst vs) => vs.map fun v => match v with
    | .ref b => rowF H b
    | _ => []
  | _ => []
def LRow (H : Hp) (a : Addr) (l : List (List Int)) : Prop := ∃ ca : List Addr, H a = some (.lst (ca.map V.ref)) ∧ Rows H ca l
theorem rows_map {H : Hp} : ∀ {ca : List Addr} {l : List (List Int)}, Rows H ca l → ca.map (rowF H) = l
  | [], [], _ => rfl
  | a :: ca, r :: l, h => by rw [List.map_cons, rowF_at h.1, rows_map h.2]
  | [], _ :: _, h => h.elim
  | _ :: _, [], h => h.elim
theorem rows_of {H : Hp} {rw' : Addr → List Int} : ∀ {ca : List Addr}, (∀ a ∈ ca, H a = some (.tup ((rw' a).map V.int))) → Rows H ca (ca.map rw')
  | [], _ => True.intro
  | a :: ca, h => ⟨h a List.mem_cons_self, rows_of fun b hb => h b (List.mem_cons_of_mem _ hb)⟩
theorem rows_each {H : Hp} : ∀ {ca : List Addr} {l : List (List Int)}, Rows H ca l → ∀ a ∈ ca, H a = some (.tup ((rowF H a).map V.int))
  | [], [], _ => fun a ha => by cases ha
  | b :: ca, r :: l, h => fun a ha => by
    rcases List.mem_cons.mp ha with e | e
    · subst e; rw [rowF_at h.1]; exact h.1
    · exact rows_each h.2 a e
  | [], _ :: _, h => h.elim
  | _ :: _, [], h => h.elim
theorem rowsF_at {H : Hp} {a : Addr} {l : List (List Int)} (h : LRow H a l) : rowsF H a = l := by
  obtain ⟨ca, h1, h2⟩ := h
  unfold rowsF
  rw [h1]
  show (ca.map V.ref).map _ = l
  rw [List.map_map]
  exact rows_map h2
theorem LRow.same {H H' : Hp} {a : Addr} {l : List (List Int)} (h : LRow H a l) (s : Same H H') : LRow H' a l := by
  obtain ⟨ca, h1, h2⟩ := h
  exact ⟨ca, s _ _ h1, h2.same s⟩
def dtL (l : List (List Int)) : PyData := .list (l.map fun r => .tuple (r.map .int))
theorem LRow.dp {K : PySem.W.Frag} {H : Hp} {a : Addr} {l : List (List Int)} (h : LRow H a l) : Dp K H (.ref a) (dtL l) := by
  obtain ⟨ca, h1, h2⟩ := h
  refine .lst (SqL.of h1) ?_
  rw [← rows_map h2, List.map_map]
  exact dq_each fun b hb => dq_row (rows_each h2 b hb)
theorem alike_rows : ∀ l m : List (List Int), PySem.W.alikeAll (l.map fun r => .tuple (r.map .int)) (m.map fun r => .tuple (r.map .int)) = true
  | [], _ => by simp [PySem.W.alikeAll]
  | _ :: _, [] => by simp [PySem.W.alikeAll]
  | x :: l, y :: m => by
    show PySem.W.alikeAll (.tuple (x.map .int) :: l.map _) (.tuple (y.map .int) :: m.map _) = true
    rw [PySem.W.alikeAll, alike_rows l m, row_alike]
    rfl
theorem depth_rows : ∀ l : List (List Int), PyData.depthAll (l.map fun r => .tuple (r.map .int)) ≤ 1
  | [] => by simp [PyData.depthAll]
  | x :: l => by
    show PyData.depthAll (.tuple (x.map .int) :: l.map _) ≤ 1
    rw [PyData.depthAll, row_depth]
    have := depth_rows l
    omega
theorem dtL_alike (l m : List (List Int)) : PySem.W.alike (dtL l) (dtL m) = true := by
  unfold dtL
  rw [PySem.W.alike]
  exact alike_rows l m
theorem dtL_depth (l : List (List Int)) : (dtL l).depth ≤ 2 := by
  unfold dtL
  rw [PyData.depth]
  have := depth_rows l
  omega
/-- lists of rows, no row in two of them, sorted: by their first rows -/
theorem heads_sorted {f : Addr → List (List Int)} {ls cs : List Addr} (ap : (ls.map f).Pairwise fun l m => ∀ x, x ∈ l → x ∈ m → False) (ne : ∀ a ∈ ls, f a ≠ []) (P : cs.Perm ls) (S : cs.Pairwise fun a b => PySem.W.dataLe false (fun a => dtL (f a)) a b = true) : (cs.map f).Pairwise (hltOf (· < ·)) := by
  rw [List.pairwise_map] at ap ⊢
  have ap' : cs.Pairwise fun a b => ∀ x, x ∈ f a → x ∈ f b → False := (P.pairwise_iff (fun {a b} h x hx hy => h x hy hx)).mpr ap
  refine (ap'.and S).imp_of_mem fun {a b} ha hb h => ?_
  obtain ⟨h1, h2⟩ := h
  have na := ne a (P.mem_iff.mp ha)
  have nb := ne b (P.mem_iff.mp hb)
  cases ea : f a with
  | nil => exact absurd ea na
  | cons x xs =>
    cases eb : f b with
    | nil => exact absurd eb nb
    | cons y ys =>
      have ne' : y ≠ x := fun e => h1 x (by rw [ea]; exact List.mem_cons_self) (by rw [eb, e]; exact List.mem_cons_self)
      refine ⟨x, xs, y, ys, rfl, rfl, ?_⟩
      have h2' : (!PySem.W.dataLt (dtL (f b)) (dtL (f a))) = true := h2
      unfold dtL at h2'
      rw [ea, eb, dataLt_heads ne', Bool.not_eq_true', decide_eq_false_iff_not] at h2'
      rcases lt_tot x y with l | l | l
      · exact l
      · exact absurd l.symm ne'
      · exact absurd l h2'
theorem mapM_app {α β : Type} (f : α → β) {l : List α} {i : Nat} {x : α} (h : l[i]? = some x) : (l.take (i + 1)).map f = (l.take i).map f ++ [f x] := by
  rw [List.take_add_one, h, List.map_append]
  rfl
/-- lumps as they are told: new lists, none of which stood there -/
def LumpsAt (H0 H : Hp) (l : Addr) (Ls : List (List (List Int))) : Prop := ∃ ls : List Addr, H l = some (.lst (ls.map V.ref)) ∧ H0 l = none ∧ (∀ a ∈ ls, H0 a = none ∧ a ≠ l) ∧ ls.length ≤ 400 ∧ Ls = ls.map (rowsF H) ∧ ∀ a ∈ ls, LRow H a (rowsF H a) ∧ (rowsF H a).length ≤ 400
section
variable {P : Program} {w : World} {K : PySem.W.Frag} {mg : Str → Option Value} {base : Heap}
/-- fillings as its callers take it -/
def CalFil (P : Program) (w : World) (K : PySem.W.Frag) (mg : Str → Option Value) (base : Heap) (CB CM : Addr) : Prop := ∃ (f : Addr) (fd : FuncData) (t : Tok), FnOk P w K mg base (L2.CX P w) 6 f fd ["lot", "bill", "most"] (spFil CB CM) ∧ mg "fillings" = some (.ref f) ∧ PySem.W.keepIn K (.ref f) = true ∧ L2.Binds K fd ["lot", "bill", "most"] [.int 400 t]
def shI (x y : List Int) : Prop := shM mkN x y
def spLum (CB CM : Addr) : Sp := fun vs H Q E => ∃ (p bl : Addr) (as : List Addr) (ll : List (List Int)) (b : List Int), vs = [.ref p, .ref bl] ∧ RowsAt H p as ll ∧ flaw ll = none ∧ IntsAt H bl b ∧ b.length ≤ 100 ∧
  (∀ k, wrong (width ll : Nat) b = some k → Refd CB "good" "bad bill" (.int k) H E) ∧ (wrong (width ll : Nat) b = none → boxI b ≤ 4000 ∧ b.sum ≤ 900 ∧ cnt ll b ≤ 500000 ∧ ((400 : Int) < (cnt ll b : Int) → Refd CM "most" "too many" (.int 400) H E) ∧
    ((cnt ll b : Int) ≤ 400 → ∀ H' l Ls, Same H H' → LumpsAt H H' l Ls → IsL (fils ll b) shI (hltOf (· < ·)) Ls → Q (.ref l) H'))
theorem ok_lum {f : Addr} {fd : FuncData} {CB CM : Addr} (F : Fun K "lumps" "lumps" sLumps f fd) (B : Bl mg) (mSo : mg "sorted" = none) (CF : CalFil P w K mg base CB CM) (CJ : Cal P w K mg base CX0 1 "joined" ["groups", "kinds"] spJoined) (CM' : Cal P w K mg base CX0 1 "marks" ["row"] spMarks) (CA : Cal P w K mg base CX0 2 "is_among" ["row", "kinds"] spAmong) :
    FnOk P w K mg base (L2.CX P w) 7 f fd ["lot", "bill"] (spLum CB CM) := by
  obtain ⟨fF, fdF, tF, GF, gF, kF, bF⟩ := CF
  obtain ⟨fJ, fdJ, GJ, gJ, kJ, bJ⟩ := CJ.ex
  obtain ⟨fM, fdM, GM, gM, kM, bM⟩ := CM'.ex
  obtain ⟨fA, fdA, GA, gA, kA, bA⟩ := CA.ex
  have vd : Vals [V.int 400] [Value.int 400 tF] := .cons ⟨_, rfl⟩ .nil
  refine F.okX scLu (fun vs H Q E h => ?_) (fun cdv A outer s H vs Q E hr h => ?_)
  · obtain ⟨p, bl, as, ll, b, rfl, _⟩ := h
    rfl
  · obtain ⟨p, bl, as, ll, b, rfl, hL, ef, hB, hz, q1, q2⟩ := h
    refine ⟨_, (pss_cons (ps_set (i := 2) scLu.nd rfl (.inr rfl) (pe_call GF hr (by rfl) gF kF bF vd (passes_call (takes_of rfl rfl rfl rfl) (fun _ _ _ _ h => h)) (pa_cons (pv 0) (pa_cons (pv 1) pa_nil))))
      (pss_cons (ps_set (i := 3) scLu.nd rfl (.inl rfl) (pe_lst pa_nil))
      (pss_cons (ps_for (passes_of rfl) rfl (pi_list (pv 2)) (pg_name (i := 4) scLu.nd rfl (.inl rfl))
      (pss_one (ps_set (i := 3) scLu.nd rfl (.inl rfl) (pe_call GJ (hr.mono (by decide)) (by rfl) gJ kJ bJ .nil pass0 (pa_cons (pv 3) (pa_cons (pe_call GM (hr.mono (by decide)) (by rfl) gM kM bM .nil pass0 (pa_cons (pv 4) pa_nil)) pa_nil))))))
      (pss_one (ps_ret (pe_callB (cr_sortedD hr) (by rfl) mSo (by decide +kernel) (pa_cons (pe_lc (own := [("kinds", 5)]) (g := gName 5) (tt := tYes) (te := (tLc (iList K (tVar 2)) (gName 4) (tB (tCall spAmong [] E0 (tCons (tVar 4) (tCons (tVar 5) tNil)))) (tVar 4) [4])) rfl scLu.nd (pi_list (pv 3))
        (blkOk_by (own := [("kinds", 5)]) (N := ["lot", "bill", "rows", "groups", "row", "kinds"]) (sc := defScope sLumps) (by decide +kernel)) (fun _ _ _ _ _ => pg_name (i := 5) scLu.nd rfl (Or.inr rfl)) (fun _ _ _ _ _ => pts_nil)
        (fun _ _ _ _ _ => (pe_lc (own := [("row", 4)]) (g := gName 4) rfl scLu.nd (pi_list (pv 2))
        (blkOk_by (own := [("row", 4)]) (N := ["lot", "bill", "rows", "groups", "row", "kinds"]) (sc := scLuO) (by decide +kernel)) (fun _ _ _ _ _ => pg_name (i := 4) scLu.nd rfl (Or.inl rfl)) (fun _ _ _ _ _ => pts_one (pt_val (pe_call GA (hr.mono (by decide)) (by rfl) gA kA bA .nil pass0 (pa_cons (pv 4) (pa_cons (pv 5) pa_nil)))))
        (fun _ _ _ _ _ => (pv 4))))) pa_nil))))))), ?_⟩
    refine ⟨.ref p, rfl, .ref bl, rfl, p, bl, as, ll, b, 400, rfl, hL, ef, hB, hz, q1, fun ew => ?_⟩
    obtain ⟨hx, hs, hc, hm, q⟩ := q2 ew
    refine ⟨hx, hs, hc, hm, fun hle H1 l ca s1 nl hl hR => ?_⟩
    have q := q hle
    obtain ⟨hwb, hb0⟩ := wrong_ok ew
    have hok := flaw_ok ef
    have hrows := flaw_rows ef
    have hkd : ∀ x ∈ ll, Kd b.length x := fun x hx => by
      have hl : b.length = width ll := by omega
      rw [hl]
      exact flaw_kd ef x hx
    have hfl : (fils ll b).length ≤ 400 := by rw [fils_len]; omega
    have hrl : ∀ r ∈ fils ll b, r.length ≤ 5 := fun r hr => by
      rw [comes_len ((fils_mem hkd rfl).mp hr)]
      omega
    have Z := fils_alone (ll := ll) (b := b) hkd rfl
    have ris : (fils ll b).Pairwise (· < ·) := (fils_rise ll b).imp fun {x y} h => lx_lt h
    generalize fils ll b = rows at q hR hfl hrl Z ris
    have hcl := hR.len
    have hri := rows_each hR
    have hmap := rows_map hR
    refine ⟨Nat.zero_le _, fun g0 ng0 => ?_⟩
    have sg := same_new (o := .lst []) ng0
    refine ⟨.ref l, rfl, l, rfl, ⟨_, SqL.of (sg _ _ hl)⟩, ?_⟩
    refine for_list (K := K) (a := l) (xs := ca.map V.ref) (fun i σ H' => Same H1 H' ∧ ∃ g y4, σ = [some (.ref p), some (.ref bl), some (.ref l), some (.ref g), y4, none] ∧ H' g = some (.lst ((grN mkN (rows.take i)).map fun (n : Nat) => V.int (n : Int)))) ⟨sg, g0, none, rfl, by rw [upd_same]; rfl⟩ (fun i σ H' _ hI => SqL.of (hI.1 _ _ hl)) (fun i x σ H2 hx hI => ?_) (fun σ H2 hI => ?_)
    · obtain ⟨s2, g, y4, rfl, hg⟩ := hI
      obtain ⟨c, hc, rfl⟩ : ∃ n, ca[i]? = some n ∧ x = V.ref n := by
        rw [List.getElem?_map] at hx
        cases e : ca[i]? with
        | none => rw [e] at hx; cases hx
        | some n => rw [e] at hx; exact ⟨n, rfl, (Option.some.inj hx).symm⟩
      obtain ⟨r, hr1, hr2⟩ := hR.at hc
      have hil := (List.getElem?_eq_some_iff.mp hr1).1
      have hgl := grN_len rows i
      have r5 := hrl r (List.mem_of_getElem? hr1)
      refine ⟨.ref g, rfl, .ref c, rfl, c, r, rfl, s2 _ _ hr2, r5, fun H3 s3 => ?_⟩
      refine ⟨g, (grN mkN (rows.take i)).map fun (n : Nat) => (n : Int), mkI r, rfl, by rw [s3 _ _ hg, List.map_map]; rfl, by rw [List.length_map]; omega, fun H4 g' s4 ng' hg' => ?_⟩
      refine ⟨s2.trans (s3.trans s4), g', _, rfl, ?_⟩
      rw [hg', grN_more hr1, mkI_eq, jnI_eq, List.map_map]
      rfl
    obtain ⟨s2, g, y4, rfl, hg⟩ := hI
    rw [List.length_map, hcl, List.take_length] at hg
    have hgl := grN_len rows rows.length
    rw [List.take_length] at hgl
    have GIr := gi_all Z rows.length
    rw [List.take_length] at GIr
    have one : (grN mkN rows).length ≤ 1 ∨ ∀ x ∈ rows, ∃ i, (mkN x).testBit i = true := by
      by_cases c : ∀ x ∈ rows, ∃ i, (mkN x).testBit i = true
      · exact .inr c
      · refine .inl ?_
        have : ∃ x ∈ rows, ∀ i, (mkN x).testBit i = false := by
          by_cases d : ∃ x ∈ rows, ∀ i, (mkN x).testBit i = false
          · exact d
          · refine absurd (fun x hx => ?_) c
            by_cases e : ∃ i, (mkN x).testBit i = true
            · exact e
            · exact absurd ⟨x, hx, fun i => by
                cases f : (mkN x).testBit i with
                | false => rfl
                | true => exact absurd ⟨i, f⟩ e⟩ d
        obtain ⟨x, hx, zx⟩ := this
        have al := Z x hx
        have nd := nodup_lt ris
        have : rows.length ≤ 1 := by
          match rows, nd, al with
          | [], _, _ => exact Nat.zero_le _
          | [_], _, _ => exact Nat.le_refl _
          | u :: v :: t, nd, al =>
            have e1 := al u List.mem_cons_self zx
            have e2 := al v (List.mem_cons_of_mem _ List.mem_cons_self) zx
            have := (List.nodup_cons.mp nd).1
            rw [e1, e2] at this
            exact absurd List.mem_cons_self this
        omega
    have apart := groups_apart (mk := mkN) GIr Z (fun r n => amB r (n : Int)) am_iff one
    have isl := fun (Ls : List (List (List Int))) => isL_groups (mk := mkN) (lt := hltOf (· < ·)) GIr Z (fun r n => amB r (n : Int)) am_iff (Ls := Ls)
    have nel : ∀ n ∈ grN mkN rows, (rows.filter fun r => amB r (n : Int)) ≠ [] := fun n hn e => by
      obtain ⟨z, hz1, hz2⟩ := GIr.ne n hn
      have : z ∈ rows.filter fun r => amB r (n : Int) := List.mem_filter.mpr ⟨hz1, (am_iff z n).mpr hz2⟩
      rw [e] at this
      cases this
    generalize grN mkN rows = gs at hg hgl apart isl nel
    refine ⟨.ref g, rfl, g, rfl, ⟨_, SqL.of hg⟩, fun D nD => ?_⟩
    refine lc_list (K := K) (a := g) (xs := gs.map fun (n : Nat) => V.int (n : Int)) (fun i H' => Same H2 H' ∧ ∃ ls : List Addr, H' D = some (.lst (ls.map V.ref)) ∧ ls.length = i ∧ (∀ a ∈ ls, H2 a = none ∧ a ≠ D) ∧ (∀ a ∈ ls, ∃ m, LRow H' a m) ∧ ls.map (rowsF H') = (gs.take i).map fun (n : Nat) => rows.filter fun r => amB r (n : Int)) ⟨same_new nD, [], upd_same, rfl, (fun a ha => (by cases ha)), (fun a ha => (by cases ha)), by rw [List.take_zero]; rfl⟩ (fun i H' _ hP => SqL.of (hP.1 _ _ hg)) (fun i x H' hx ⟨s3, ls, hD, hll, hnew, hlr, hmp⟩ => ?_) (fun H' ⟨s3, ls, hD, hll, hnew, hlr, hmp⟩ => ?_)
    · obtain ⟨n, hn, rfl⟩ : ∃ n, gs[i]? = some n ∧ x = V.int (n : Int) := by
        rw [List.getElem?_map] at hx
        cases e : gs[i]? with
        | none => rw [e] at hx; cases hx
        | some n => rw [e] at hx; exact ⟨n, rfl, (Option.some.inj hx).symm⟩
      have hin := (List.getElem?_eq_some_iff.mp hn).1
      have hl' := s3 _ _ (s2 _ _ hl)
      refine ⟨rfl, yes (iteT ?_)⟩
      refine ⟨.ref l, rfl, l, rfl, ⟨_, SqL.of hl'⟩, fun D2 nD2 => ?_⟩
      refine lc_list (K := K) (a := l) (xs := ca.map V.ref) (fun j H4 => Same H' H4 ∧ H4 D2 = some (.lst (((ca.take j).filter fun a => amB (rowF H1 a) (n : Int)).map V.ref))) ⟨same_new nD2, by rw [upd_same]; rfl⟩ (fun j H4 _ hP => SqL.of (hP.1 _ _ hl')) (fun j x H4 hx ⟨s4, hD2⟩ => ?_) (fun H4 ⟨s4, hD2⟩ => ?_)
      · obtain ⟨c, hc, rfl⟩ : ∃ n, ca[j]? = some n ∧ x = V.ref n := by
          rw [List.getElem?_map] at hx
          cases e : ca[j]? with
          | none => rw [e] at hx; cases hx
          | some n => rw [e] at hx; exact ⟨n, rfl, (Option.some.inj hx).symm⟩
        have hjl := (List.getElem?_eq_some_iff.mp hc).1
        obtain ⟨r, hr1, hr2⟩ := hR.at hc
        have erf : rowF H1 c = r := rowF_at hr2
        have em : ((ca.take (j + 1)).filter fun a => amB (rowF H1 a) (n : Int)) = ((ca.take j).filter fun a => amB (rowF H1 a) (n : Int)) ++ if amB r (n : Int) = true then [c] else [] := by
          rw [List.take_add_one, hc, List.filter_append]
          congr 1
          show List.filter _ [c] = _
          rw [List.filter_cons, List.filter_nil, erf]
        refine ⟨rfl, .ref c, rfl, .int (n : Int), rfl, c, r, n, rfl, s4 _ _ (s3 _ _ (s2 _ _ hr2)), hrl r (List.mem_of_getElem? hr1), fun H5 s5 => ⟨_, rfl, ?_⟩⟩
        rw [em]
        refine ite2 (fun c1 => ?_) (fun c1 => ?_)
        · refine ⟨.ref c, rfl, _, s5 _ _ hD2, ?_, same_late (s4.trans s5) nD2, by rw [upd_same, if_pos c1, List.map_append]; rfl⟩
          rw [List.length_map]
          exact small1000 (Nat.le_trans (List.length_filter_le _ _) (Nat.le_trans (List.length_take_le' _ _) (by omega)))
        · rw [if_neg c1, List.append_nil]
          exact ⟨s4.trans s5, s5 _ _ hD2⟩
      · rw [List.length_map, List.take_length] at hD2
        have hDne : D2 ≠ D := fun e => by rw [e, hD] at nD2; cases nD2
        have hR4 : Rows H4 ca rows := hR.same (s2.trans (s3.trans s4))
        have hrw : ca.filter (fun a => amB (rowF H1 a) (n : Int)) |>.map (rowF H1) |> (· = rows.filter fun r => amB r (n : Int)) := by
          show (ca.filter fun a => amB (rowF H1 a) (n : Int)).map (rowF H1) = _
          rw [← hmap, List.filter_map]
          rfl
        have lr : LRow H4 D2 (rows.filter fun r => amB r (n : Int)) := ⟨_, hD2, by
          rw [← hrw]
          exact rows_of fun a ha => s4 _ _ (s3 _ _ (s2 _ _ (hri a (List.mem_filter.mp ha).1)))⟩
        have hD4 := s4 _ _ hD
        have up : ∀ a m, LRow H4 a m → a ≠ D → LRow (upd H4 D (.lst (ls.map V.ref ++ [.ref D2]))) a m := fun a m h ne => by
          obtain ⟨cc, h1, h2⟩ := h
          exact ⟨cc, by rw [upd_ne ne]; exact h1, h2.lput hD4⟩
        refine ⟨_, hD4, ?_, same_late (s3.trans s4) nD, ls ++ [D2], by rw [upd_same, List.map_append]; rfl, by rw [List.length_append, hll]; rfl, fun a ha => ?_, fun a ha => ?_, ?_⟩
        · rw [List.length_map]
          exact small1000 (by omega)
        · rcases List.mem_append.mp ha with ha | ha
          · exact hnew a ha
          · rw [List.mem_singleton] at ha
            subst ha
            exact ⟨s3.free nD2, hDne⟩
        · rcases List.mem_append.mp ha with ha | ha
          · obtain ⟨m, hm⟩ := hlr a ha
            exact ⟨m, up a m (hm.same s4) (hnew a ha).2⟩
          · rw [List.mem_singleton] at ha
            subst ha
            exact ⟨_, up _ _ lr hDne⟩
        · rw [mapM_app _ hn, List.map_append, ← hmp]
          congr 1
          · refine List.map_congr_left fun a ha => ?_
            obtain ⟨m, hm⟩ := hlr a ha
            rw [rowsF_at hm, rowsF_at (up a m (hm.same s4) (hnew a ha).2)]
          · show [_] = [_]
            rw [rowsF_at (up _ _ lr hDne)]
    · rw [List.length_map] at hll hmp
      rw [List.take_length] at hmp
      have hnel : ∀ a ∈ ls, rowsF H' a ≠ [] := fun a ha e => by
        have : rowsF H' a ∈ ls.map (rowsF H') := List.mem_map.mpr ⟨a, ha, rfl⟩
        rw [hmp] at this
        obtain ⟨n, hn, e'⟩ := List.mem_map.mp this
        exact nel n hn (e'.trans e)
      have hlrF : ∀ a ∈ ls, LRow H' a (rowsF H' a) := fun a ha => by
        obtain ⟨m, hm⟩ := hlr a ha
        rw [rowsF_at hm]
        exact hm
      refine ⟨D, ls, fun a => dtL (rowsF H' a), rfl, SqL.of hD, fun a ha => (hlrF a ha).dp, ?_, .inr fun d hd => ?_, fun a ha => ?_, fun cs z ecs P nz => ?_⟩
      · intro d hd d' hd'
        obtain ⟨a, _, rfl⟩ := List.mem_map.mp hd
        obtain ⟨a', _, rfl⟩ := List.mem_map.mp hd'
        exact dtL_alike _ _
      · obtain ⟨a, _, rfl⟩ := List.mem_map.mp hd
        exact ⟨(fun z => by cases z), (fun xs z => by cases z)⟩
      · exact Nat.le_trans (dtL_depth (rowsF H' a)) (by decide)
      · have S : cs.Pairwise fun a b => PySem.W.dataLe false (fun a => dtL (rowsF H' a)) a b = true := by
          rw [ecs]
          exact PySem.W.sort_pairwise (PySem.W.sortLe_total _ _ _) _
        rw [← hmp] at apart
        have O := heads_sorted apart hnel P S
        have PP : (cs.map (rowsF H')).Perm (gs.map fun (n : Nat) => rows.filter fun r => amB r (n : Int)) := by rw [← hmp]; exact P.map _
        have I := isl _ PP O
        have sz := same_new (o := .lst (cs.map V.ref)) nz
        have eq2 : cs.map (rowsF H') = cs.map (rowsF (upd H' z (.lst (cs.map V.ref)))) := List.map_congr_left fun a ha => by
          have := hlrF a (P.mem_iff.mp ha)
          rw [rowsF_at (this.same sz)]
        rw [eq2] at I
        refine q _ z _ (s1.trans (s2.trans (s3.trans sz))) ⟨cs, upd_same, s1.free (s2.free (s3.free nz)), fun a ha => ?_, ?_, rfl, fun a ha => ?_⟩ I
        · have ha' := P.mem_iff.mp ha
          refine ⟨s1.free (s2.free (hnew a ha').1), fun e => ?_⟩
          obtain ⟨cc, h1, _⟩ := hlrF a ha'
          rw [e, nz] at h1
          cases h1
        · rw [P.length_eq]; omega
        · have ha' := P.mem_iff.mp ha
          have h1 := (hlrF a ha').same sz
          rw [rowsF_at h1]
          refine ⟨h1, ?_⟩
          have : rowsF H' a ∈ ls.map (rowsF H') := List.mem_map.mpr ⟨a, ha', rfl⟩
          rw [hmp] at this
          obtain ⟨n, hn, e'⟩ := List.mem_map.mp this
          rw [← e']
          exact Nat.le_trans (List.length_filter_le _ _) hfl
end
end HL

set_option pp.maxSteps 3000
namespace HL
open PySem PySem.Spec PyProof.Rows L2
open C8 (pss_cut)
abbrev NLL : List Str := ["_law_rows", "_law_left", "_law_found", "_law_row", "_law_lump", "_law_turn", "_law_near", "_law_one", "_law_other"]
theorem scLL : FnScope NLL ["_law_rows"] (defScope sLLumps) := ⟨rfl, rfl, rfl, by decide +kernel, rfl, by decide +kernel, by decide +kernel⟩
abbrev scLLO : Scope := { kind := .function, names := [(".0", .local), ("_law_other", .cell), ("any", .globalImplicit), ("_law_lump", .cell)], isGenerator := false, isCoroutine := false }
theorem lay_ints : ∀ r : List Int, PyData.canLayAll0 (r.map .int) = true
  | [] => by simp [PyData.canLayAll0]
  | n :: r => by simp only [List.map, PyData.canLayAll0, PyData.canLay0, lay_ints r, Bool.and_self]
theorem shp_row (r : List Int) : SeqAt.shaped (.tuple (r.map .int)) = true := by
  unfold SeqAt.shaped
  rw [row_depth, PyData.canLay0, lay_ints]
  decide
theorem lay_rows : ∀ l : List (List Int), PyData.canLayAll0 (l.map fun r => .tuple (r.map .int)) = true
  | [] => by simp [PyData.canLayAll0]
  | r :: l => by simp only [List.map, PyData.canLayAll0, PyData.canLay0, lay_ints r, lay_rows l, Bool.and_self]
theorem shp_rows (l : List (List Int)) : SeqAt.shaped (dtL l) = true := by
  unfold SeqAt.shaped
  rw [Bool.and_eq_true]
  refine ⟨by unfold dtL; rw [PyData.canLay0]; exact lay_rows l, decide_eq_true (Nat.le_trans (dtL_depth l) (by decide))⟩
theorem in_rows (l : List (List Int)) (r : List Int) : ((l.map fun r => PyData.tuple (r.map .int)).any fun z => PyData.eqv z (.tuple (r.map .int))) = decide (r ∈ l) := by
  rw [Bool.eq_iff_iff, List.any_map, List.any_eq_true, decide_eq_true_eq]
  constructor
  · rintro ⟨x, hx, e⟩
    have e' : PyData.eqv (.tuple (x.map .int)) (.tuple (r.map .int)) = true := e
    rw [dq_eqv, decide_eq_true_eq] at e'
    rw [← e']
    exact hx
  · intro h
    refine ⟨r, h, ?_⟩
    show PyData.eqv (.tuple (r.map .int)) (.tuple (r.map .int)) = true
    rw [dq_eqv, decide_eq_true rfl]
theorem lrow_put {H : Hp} {a D : Addr} {m : List (List Int)} {xs ys : List V} (h : LRow H a m) (hD : H D = some (.lst xs)) (ne : a ≠ D) : LRow (upd H D (.lst ys)) a m := by
  obtain ⟨cc, h1, h2⟩ := h
  exact ⟨cc, by rw [upd_ne ne]; exact h1, h2.lput hD⟩
def shbI (x y : List Int) : Bool := (shR x y).any id
theorem shb_iff {x y : List Int} (nx : ∀ n ∈ x, 0 ≤ n) (ny : ∀ n ∈ y, 0 ≤ n) (hl : x.length = y.length) : shbI x y = true ↔ shI x y := by
  unfold shbI shR shI shM
  rw [List.any_map, List.any_eq_true]
  have pos : ∀ (z : List Int) (i : Nat), (∀ n ∈ z, 0 ≤ n) → i < z.length → (0 < z.getD i 0 ↔ z.getD i 0 ≠ 0) := fun z i hz hi => by
    have : z.getD i 0 ∈ z := by
      rw [List.getD_eq_getElem?_getD, List.getElem?_eq_getElem hi]
      exact List.getElem_mem hi
    have := hz _ this
    omega
  constructor
  · rintro ⟨i, hi, h⟩
    have hi := List.mem_range.mp hi
    have h' : (decide (0 < x.getD i 0) && decide (0 < y.getD i 0)) = true := h
    rw [Bool.and_eq_true, decide_eq_true_eq, decide_eq_true_eq] at h'
    exact ⟨i, (mkN_bit x i).mpr ⟨hi, by omega⟩, (mkN_bit y i).mpr ⟨by omega, by omega⟩⟩
  · rintro ⟨i, h1, h2⟩
    obtain ⟨a1, a2⟩ := (mkN_bit x i).mp h1
    obtain ⟨b1, b2⟩ := (mkN_bit y i).mp h2
    refine ⟨i, List.mem_range.mpr a1, ?_⟩
    show (decide (0 < x.getD i 0) && decide (0 < y.getD i 0)) = true
    rw [decide_eq_true ((pos x i nx a1).mpr a2), decide_eq_true ((pos y i ny b1).mpr b2)]
    rfl
theorem shb_fwd {x y : List Int} (h : shbI x y = true) : shI x y := by
  unfold shbI shR at h
  rw [List.any_map, List.any_eq_true] at h
  obtain ⟨i, hi, h⟩ := h
  have hi := List.mem_range.mp hi
  have h' : (decide (0 < x.getD i 0) && decide (0 < y.getD i 0)) = true := h
  rw [Bool.and_eq_true, decide_eq_true_eq, decide_eq_true_eq] at h'
  refine ⟨i, (mkN_bit x i).mpr ⟨hi, by omega⟩, (mkN_bit y i).mpr ⟨?_, by omega⟩⟩
  by_cases c : i < y.length
  · exact c
  · have := h'.2
    rw [List.getD_eq_getElem?_getD, List.getElem?_eq_none (by omega)] at this
    exact absurd this (by decide)
theorem filt_map {α β : Type} (f : α → β) (p : β → Bool) (l : List α) : (l.filter fun a => p (f a)).map f = (l.map f).filter p := by rw [List.filter_map]; rfl
/-- rows sorted: those of the list that rises -/
theorem sorted_rows {f : Addr → List Int} {rows : List (List Int)} {ls cs : List Addr} (ris : rows.Pairwise (· < ·)) (sub : ∀ a ∈ ls, f a ∈ rows) (nd : (ls.map f).Nodup) (P : cs.Perm ls) (S : cs.Pairwise fun a b => PySem.W.dataLe false (fun a => .tuple ((f a).map .int)) a b = true) : cs.map f = rows.filter fun r => decide (r ∈ ls.map f) := by
  have nd' : (cs.map f).Nodup := (P.map f).nodup_iff.mpr nd
  refine eq_of_sorted (R := fun x y : List Int => x < y) (fun a b h g => lt_irr a (lt_tr h g)) ?_ (ris.sublist List.filter_sublist) fun x => ?_
  · rw [List.pairwise_map]
    have nd2 := List.nodup_iff_pairwise_ne.mp nd'
    rw [List.pairwise_map] at nd2
    refine (nd2.and S).imp fun {a b} h => ?_
    have h2 : PySem.W.dataLe false (fun a => .tuple ((f a).map .int)) a b = true := h.2
    rw [dataLe_row f] at h2
    have h2 := of_decide_eq_true h2
    rcases lt_tot (f a) (f b) with l | l | l
    · exact l
    · exact absurd l h.1
    · exact absurd l h2
  · rw [(P.map f).mem_iff, List.mem_filter, decide_eq_true_eq]
    refine ⟨fun h => ⟨?_, h⟩, fun h => h.2⟩
    obtain ⟨a, ha, rfl⟩ := List.mem_map.mp h
    exact sub a ha
/-- found lumps as they stand: lists that are new -/
structure FndAt (H0 H : Hp) (fl : Addr) (found : List (List (List Int))) : Prop where
  new : H0 fl = none
  ex : ∃ fs : List Addr, H fl = some (.lst (fs.map V.ref)) ∧ fs.length = found.length ∧ found.length ≤ 400 ∧ ∀ (i : Nat) (a : Addr) (l : List (List Int)), fs[i]? = some a → found[i]? = some l → LRow H a l ∧ H0 a = none ∧ a ≠ fl
theorem FndAt.same {H0 H H' : Hp} {fl : Addr} {found : List (List (List Int))} (h : FndAt H0 H fl found) (s : Same H H') : FndAt H0 H' fl found := by
  obtain ⟨fs, h1, h2, h3, h4⟩ := h.ex
  exact ⟨h.new, fs, s _ _ h1, h2, h3, fun i a l e1 e2 => ⟨(h4 i a l e1 e2).1.same s, (h4 i a l e1 e2).2⟩⟩
/-- a list that is none of the found ones changes -/
theorem FndAt.put {H0 H : Hp} {fl D : Addr} {found : List (List (List Int))} {xs ys : List V} (h : FndAt H0 H fl found) (hD : H D = some (.lst xs)) (hne : D ≠ fl) (hno : ∀ fs : List Addr, H fl = some (.lst (fs.map V.ref)) → D ∉ fs) : FndAt H0 (upd H D (.lst ys)) fl found := by
  obtain ⟨fs, h1, h2, h3, h4⟩ := h.ex
  have hn := hno fs h1
  refine ⟨h.new, fs, by rw [upd_ne (fun e => hne e.symm)]; exact h1, h2, h3, fun i a l e1 e2 => ?_⟩
  obtain ⟨k1, k2, k3⟩ := h4 i a l e1 e2
  refine ⟨lrow_put k1 hD (fun e => hn ?_), k2, k3⟩
  rw [← e]
  exact List.mem_of_getElem? e1
section
variable {P : Program} {w : World} {K : PySem.W.Frag} {mg : Str → Option Value} {base : Heap}
def spLL : Sp := fun vs H Q _ => ∃ (l : Addr) (ca : List Addr) (rows : List (List Int)) (n : Nat), vs = [.ref l] ∧ H l = some (.lst (ca.map V.ref)) ∧ Rows H ca rows ∧ rows.length ≤ 120 ∧ rows.Pairwise (· < ·) ∧ 1 ≤ n ∧ n ≤ 100 ∧ (∀ r ∈ rows, r.length = n ∧ ∀ z ∈ r, 0 ≤ z) ∧
  ∀ H' fl found, Same H H' → FndAt H H' fl found → IsL rows shI (hltOf (· < ·)) found → Q (.ref fl) H'
theorem ok_ll {f : Addr} {fd : FuncData} (F : Fun K "_law_lumps" "_law_lumps" sLLumps f fd) (B : Bl mg) (mAny : mg "any" = none) (mSo : mg "sorted" = none) (CS : Cal P w K mg base CX0 1 "_law_share" ["_law_one", "_law_other"] spShare) : FnOk P w K mg base CX0 2 f fd ["_law_rows"] spLL := by
  obtain ⟨fS, fdS, GS, gS, kS, bS⟩ := CS.ex
  refine F.ok scLL (fun vs H Q E h => ?_) (fun cdv A outer s H vs Q E hr h => ?_)
  · obtain ⟨l, ca, rows, n, rfl, _⟩ := h
    rfl
  · obtain ⟨l, ca, rows, n, rfl, hl, hR, hz, ris, hn1, hn, hok, q⟩ := h
    have hu := hr.un
    refine ⟨_, (pss_cons (ps_set (i := 1) scLL.nd rfl (.inl rfl) (pe_callTy call_list_of (by rfl) B.list (by decide +kernel) (pa_cons (pv 0) pa_nil)))
      (pss_cons (ps_set (i := 2) scLL.nd rfl (.inl rfl) (pe_lst pa_nil))
      (pss_cons (ps_for PassesOwn.never rfl (pi_list (pv 0)) (pg_name (i := 3) scLL.nd rfl (.inl rfl))
      (pss_one (ps_if (pt_cmpR (op_inD (Nat.lt_of_le_of_lt (Nat.add_le_add_left (by decide) _) hu)) (pv 3) (pv 1) (by rfl)) (pss_cons (ps_set (i := 4) scLL.nd rfl (.inr rfl) (pe_lst (pa_cons (pv 3) pa_nil)))
      (pss_cons (ps_expr (pe_bm PySem.F.plainAttrs_list PySem.F.slot_list_remove PySem.F.type_list_remove (mt_removeD hr) (pv 1) (pa_cons (pv 3) pa_nil)))
      (pss_cons (ps_for PassesOwn.never rfl (pi_range1 (by rfl) B.range (pa_cons (pe_callB call_len_seq (by rfl) B.len PySem.boot_len (pa_cons (pv 0) pa_nil)) pa_nil)) (pg_name (i := 5) scLL.nd rfl (.inl rfl))
      (pss_cons (ps_set (i := 6) scLL.nd rfl (.inr rfl) (pe_lc (own := [("_law_other", 8)]) (g := gName 8) (tt := (tB (tCB (rAny K) (tCons (tLc (iList K (tVar 4)) (gName 7) tYes (tCall spShare [] E0 (tCons (tVar 8) (tCons (tVar 7) tNil))) [7]) tNil)))) (te := tVar 8) rfl scLL.nd (pi_list (pv 1))
        (blkOk_by (own := [("_law_other", 8)]) (N := NLL) (sc := defScope sLLumps) (by decide +kernel)) (fun _ _ _ _ _ => pg_name (i := 8) scLL.nd rfl (Or.inr rfl)) (fun _ _ _ _ _ => pts_one (pt_val (pe_callB (cr_any rfl) (by rfl) mAny (by decide +kernel) (pa_cons (pe_lc (own := [("_law_one", 7)]) (g := gName 7) (tt := tYes) rfl scLL.nd (pi_list (pv 4))
        (blkOk_by (own := [("_law_one", 7)]) (N := NLL) (sc := scLLO) (by decide +kernel)) (fun _ _ _ _ _ => pg_name (i := 7) scLL.nd rfl (Or.inl rfl)) (fun _ _ _ _ _ => pts_nil)
        (fun _ _ _ _ _ => (pe_call GS (hr.mono (by decide)) (by rfl) gS kS bS .nil pass0 (pa_cons (pv 8) (pa_cons (pv 7) pa_nil))))) pa_nil))))
        (fun _ _ _ _ _ => (pv 8))))
      (pss_cons (ps_setLc (i := 1) (own := [("_law_other", 8)]) (g := gName 8) (tt := tTest (tOp (rNotInD K) (tVar 8) (tVar 6))) (te := tVar 8) rfl scLL.nd rfl rfl (sw_true rfl rfl rfl (by decide +kernel)) (pi_list (pv 1))
        (blkOk_by (own := [("_law_other", 8)]) (N := NLL) (sc := defScope sLLumps) (by decide +kernel)) (fun _ _ _ _ _ => pg_name (i := 8) scLL.nd rfl (Or.inl rfl)) (fun _ _ _ _ _ => pts_one (pt_cmpR (op_notInD (Nat.lt_of_le_of_lt (Nat.add_le_add_left (by decide) _) hu)) (pv 8) (pv 6) (by rfl)))
        (fun _ _ _ _ _ => (pv 8)))
      (pss_one (ps_set (i := 4) scLL.nd rfl (.inr rfl) (pe_op op_cat (pv 4) (pv 6)))))))
      (pss_one (ps_expr (pe_bm PySem.F.plainAttrs_list PySem.F.slot_list_append PySem.F.type_list_append mt_append (pv 2) (pa_cons (pe_callB (cr_sortedD hr) (by rfl) mSo (by decide +kernel) (pa_cons (pv 4) pa_nil)) pa_nil))))))) pss_nil)))
      (pss_one (ps_ret (pv 2)))))), ?_⟩
    have hri := rows_each hR
    have hmap := rows_map hR
    have hcl := hR.len
    have nd := nodup_lt ris
    generalize hrf : rowF H = rf at hri hmap
    have hrow : ∀ a ∈ ca, (rf a).length = n ∧ ∀ z ∈ rf a, 0 ≤ z := fun a ha => hok _ (by rw [← hmap]; exact List.mem_map.mpr ⟨a, ha, rfl⟩)
    have shd : ∀ a ∈ ca, ∀ b ∈ ca, shbI (rf a) (rf b) = true ↔ shI (rf a) (rf b) := fun a ha b hb => shb_iff (hrow a ha).2 (hrow b hb).2 ((hrow a ha).1.trans (hrow b hb).1.symm)
    have dpl : ∀ (H' : Hp) (x : Addr) (la : List Addr), Same H H' → (∀ a ∈ la, a ∈ ca) → H' x = some (.lst (la.map V.ref)) → Dp K H' (.ref x) (.list ((la.map rf).map fun r => .tuple (r.map .int))) := fun H' x la sm hs hx => .lst (SqL.of hx) (by
      rw [List.map_map]
      exact dq_each fun a ha => dq_row (sm _ _ (hri a (hs a ha))))
    refine ⟨.ref l, rfl, l, _, rfl, .inl (SqL.of hl), fun lf0 nlf0 => ?_⟩
    have sl := same_new (o := .lst (ca.map V.ref)) nlf0
    refine ⟨Nat.zero_le _, fun fl nfl => ?_⟩
    have sf := same_new (o := .lst []) nfl
    have nefl : lf0 ≠ fl := fun e => by
      rw [← e, upd_same] at nfl
      cases nfl
    have s0 := sl.trans sf
    refine ⟨.ref l, rfl, l, rfl, ⟨_, SqL.of (s0 _ _ hl)⟩, ?_⟩
    refine for_list (K := K) (a := l) (xs := ca.map V.ref) (fun i σ H' => Same H H' ∧ ∃ (lf : Addr) (la : List Addr) (found : List (List (List Int))) (y3 y4 y5 y6 : Option V), σ = [some (.ref l), some (.ref lf), some (.ref fl), y3, y4, y5, y6, none, none] ∧ H lf = none ∧ lf ≠ fl ∧ H' lf = some (.lst (la.map V.ref)) ∧ (∀ a ∈ la, a ∈ ca) ∧ FndAt H H' fl found ∧ (∀ fs : List Addr, H' fl = some (.lst (fs.map V.ref)) → lf ∉ fs) ∧ OI rows shI (· < ·) i (la.map rf) found ∧ found.length ≤ i)
      ⟨s0, lf0, ca, [], none, none, none, none, rfl, nlf0, nefl, sf _ _ upd_same, fun a ha => ha, ⟨sl.free nfl, [], upd_same, rfl, Nat.zero_le _, fun i a l e => (by simp at e)⟩, fun fs e => ?_, by rw [hmap]; exact oi_nil, Nat.zero_le _⟩ (fun i σ H' _ hI => SqL.of (hI.1 _ _ hl)) (fun i x σ H2 hx hI => ?_) (fun σ H2 hI => ?_)
    · rw [upd_same] at e
      have : fs = [] := by
        cases fs with
        | nil => rfl
        | cons a t => cases e
      rw [this]
      exact fun z => by cases z
    · obtain ⟨s2, lf, la, found, y3, y4, y5, y6, rfl, nlf, hne, hlf, hsub, hF, hno, hO, hfi⟩ := hI
      obtain ⟨c, hc, rfl⟩ : ∃ n, ca[i]? = some n ∧ x = V.ref n := by
        rw [List.getElem?_map] at hx
        cases e : ca[i]? with
        | none => rw [e] at hx; cases hx
        | some n => rw [e] at hx; exact ⟨n, rfl, (Option.some.inj hx).symm⟩
      have hcm := List.mem_of_getElem? hc
      have hil : i < ca.length := (List.getElem?_eq_some_iff.mp hc).1
      have hri' : rows[i]? = some (rf c) := by rw [← hmap, List.getElem?_map, hc]; rfl
      refine ⟨.ref c, rfl, .ref lf, rfl, _, _, dq_row (s2 _ _ (hri c hcm)), dpl H2 lf la s2 hsub hlf, shp_row _, shp_rows (la.map rf), _, rfl, ?_⟩
      rw [in_rows]
      refine ite2 (fun c1 => ?_) (fun c1 => ?_)
      · have rin := of_decide_eq_true c1
        obtain ⟨p, ep, hp⟩ := hO.left
        have ndl : (la.map rf).Nodup := by rw [ep]; exact nd.sublist List.filter_sublist
        have lll : (la.map rf).length ≤ rows.length := by rw [ep]; exact List.length_filter_le _ _
        refine ⟨.ref c, rfl, sz_1 _, fun p1 np1 => ?_⟩
        have sp1 := same_new (o := .lst [.ref c]) np1
        have s3 := s2.trans sp1
        obtain ⟨j, hj, hjr⟩ : ∃ j, (la.map rf).findIdx? (fun r => decide (r = rf c)) = some j ∧ (la.map rf)[j]? = some (rf c) := by
          cases e : (la.map rf).findIdx? (fun r => decide (r = rf c)) with
          | none => exact absurd (List.findIdx?_eq_none_iff.mp e (rf c) rin) (by rw [decide_eq_true rfl]; exact Bool.noConfusion)
          | some j =>
            obtain ⟨h1, h2, _⟩ := List.findIdx?_eq_some_iff_getElem.mp e
            exact ⟨j, rfl, by rw [List.getElem?_eq_getElem h1, of_decide_eq_true h2]⟩
        refine ⟨.ref lf, rfl, .inl ⟨rfl, _, SqL.of (sp1 _ _ hlf)⟩, .ref c, rfl, lf, c, la, rf, j, rfl, rfl, sp1 _ _ hlf, fun a ha => s3 _ _ (hri a (hsub a ha)), s3 _ _ (hri c hcm), hj, ?_⟩
        have hlf3 := sp1 _ _ hlf
        have nep : p1 ≠ lf := fun e => by rw [e, hlf] at np1; cases np1
        have s4 : Same H (upd (upd H2 p1 (.lst [.ref c])) lf (.lst ((la.eraseIdx j).map V.ref))) := same_late s3 nlf
        have hF4 : FndAt H (upd (upd H2 p1 (.lst [.ref c])) lf (.lst ((la.eraseIdx j).map V.ref))) fl found := (hF.same sp1).put hlf3 hne fun fs e => by
          refine hno fs ?_
          obtain ⟨fs', e', _⟩ := hF.ex
          rw [sp1 _ _ e'] at e
          rw [e', ← e]
        have no4 : ∀ fs : List Addr, upd (upd H2 p1 (.lst [.ref c])) lf (.lst ((la.eraseIdx j).map V.ref)) fl = some (.lst (fs.map V.ref)) → lf ∉ fs ∧ p1 ∉ fs := fun fs e => by
          rw [upd_ne (fun z => hne z.symm)] at e
          obtain ⟨fs', e', k2, k3, k4⟩ := hF.ex
          rw [sp1 _ _ e'] at e
          have ee : fs'.map V.ref = fs.map V.ref := HO.lst.inj (Option.some.inj e)
          have e3 : H2 fl = some (.lst (fs.map V.ref)) := by rw [e', ee]
          refine ⟨hno fs e3, fun hm => ?_⟩
          have hm' : V.ref p1 ∈ fs'.map V.ref := by rw [ee]; exact List.mem_map.mpr ⟨p1, hm, rfl⟩
          obtain ⟨a, ha, ea⟩ := List.mem_map.mp hm'
          cases ea
          obtain ⟨t, ht, et⟩ := List.mem_iff_getElem.mp ha
          have h1 : fs'[t]? = some p1 := by rw [List.getElem?_eq_getElem ht, et]
          obtain ⟨l1, hl1⟩ : ∃ l1, found[t]? = some l1 := ⟨_, List.getElem?_eq_getElem (by omega)⟩
          obtain ⟨⟨cc, h2, _⟩, _⟩ := k4 t p1 l1 h1 hl1
          rw [np1] at h2
          cases h2
        generalize hl0 : la.eraseIdx j = la0 at s4 hF4 no4 ⊢
        have e0 : la0.map rf = (la.map rf).filter fun x => decide (x ≠ rf c) := by
          rw [← hl0, ← dq_erase]
          exact er_filter ndl hjr
        have sub0 : ∀ a ∈ la0, a ∈ ca := fun a ha => hsub a (by rw [← hl0] at ha; exact List.mem_of_mem_eraseIdx ha)
        have hlf4 : upd (upd H2 p1 (.lst [.ref c])) lf (.lst (la0.map V.ref)) lf = some (.lst (la0.map V.ref)) := upd_same
        have hp4 : upd (upd H2 p1 (.lst [.ref c])) lf (.lst (la0.map V.ref)) p1 = some (.lst ([c].map V.ref)) := by rw [upd_ne nep, upd_same]; rfl
        have np1H : H p1 = none := s2.free np1
        generalize upd (upd H2 p1 (.lst [.ref c])) lf (.lst (la0.map V.ref)) = H4 at s4 hF4 no4 hlf4 hp4 ⊢
        have rn0 : rf c ∉ la0.map rf := by
          rw [e0, List.mem_filter, decide_eq_true_eq]
          exact fun z => z.2 rfl
        have nd0 : (la0.map rf).Nodup := by rw [e0]; exact ndl.sublist List.filter_sublist
        have inr0 : ∀ x ∈ la0.map rf, x ∈ rows := fun x hx => by
          obtain ⟨a, ha, rfl⟩ := List.mem_map.mp hx
          rw [← hmap]
          exact List.mem_map.mpr ⟨a, sub0 a ha, rfl⟩
        refine ⟨.ref l, rfl, l, _, rfl, .inl (SqL.of (s4 _ _ hl)), _, rfl, by rw [List.length_map]; omega, by rw [List.length_map]; omega, ?_⟩
        rw [List.length_map]
        refine for_range (lo := 0) (n := ((ca.length : Nat) : Int).toNat) (fun t σ H' => Same H H' ∧ ∃ (lf : Addr) (la : List Addr) (p4 : Addr) (lu : List Addr) (y5 y6 : Option V), σ = [some (.ref l), some (.ref lf), some (.ref fl), some (.ref c), some (.ref p4), y5, y6, none, none] ∧ H lf = none ∧ lf ≠ fl ∧ H' lf = some (.lst (la.map V.ref)) ∧ (∀ a ∈ la, a ∈ ca) ∧ H' p4 = some (.lst (lu.map V.ref)) ∧ (∀ a ∈ lu, a ∈ ca) ∧ FndAt H H' fl found ∧ (∀ fs : List Addr, H' fl = some (.lst (fs.map V.ref)) → lf ∉ fs) ∧ (la.map rf, lu.map rf) = turnsL shbI (la0.map rf) [rf c] t)
          ⟨s4, lf, la0, p1, [c], y5, y6, rfl, nlf, hne, hlf4, sub0, hp4, fun a ha => by rw [List.mem_singleton.mp ha]; exact hcm, hF4, fun fs e => (no4 fs e).1, rfl⟩ (fun t σ H5 ht hI => ?_) (fun σ H5 hI => ?_)
        · obtain ⟨s5, lf5, la5, p5, lu5, y5', y6', rfl, nlf5, hne5, hlf5, sub5, hp5, subl5, hF5, hno5, hT5⟩ := hI
          have eL : la5.map rf = (turnsL shbI (la0.map rf) [rf c] t).1 := congrArg Prod.fst hT5
          have eU : lu5.map rf = (turnsL shbI (la0.map rf) [rf c] t).2 := congrArg Prod.snd hT5
          have tl := turns_len (shb := shbI) (la0.map rf) [rf c] t
          rw [← eL, ← eU, List.length_map, List.length_map] at tl
          have l0l : (la0.map rf).length ≤ 120 := by
            rw [e0]
            exact Nat.le_trans (List.length_filter_le _ _) (by omega)
          have hla5 : la5.length ≤ 121 := by
            rw [List.length_singleton] at tl
            omega
          have hlu5 : lu5.length ≤ 121 := by
            rw [List.length_singleton] at tl
            omega
          refine ⟨.ref lf5, rfl, lf5, rfl, ⟨_, SqL.of hlf5⟩, fun D nD => ?_⟩
          refine lc_list (K := K) (a := lf5) (xs := la5.map V.ref) (fun j H' => Same H5 H' ∧ H' D = some (.lst (((la5.take j).filter fun a => (lu5.map rf).any (shbI (rf a))).map V.ref))) ⟨same_new nD, by rw [upd_same]; rfl⟩ (fun j H' _ hP => SqL.of (hP.1 _ _ hlf5)) (fun j x H6 hx ⟨s6, hD⟩ => ?_) (fun H6 ⟨s6, hD⟩ => ?_)
          · obtain ⟨a, ha, rfl⟩ : ∃ n, la5[j]? = some n ∧ x = V.ref n := by
              rw [List.getElem?_map] at hx
              cases e : la5[j]? with
              | none => rw [e] at hx; cases hx
              | some n => rw [e] at hx; exact ⟨n, rfl, (Option.some.inj hx).symm⟩
            have ham := List.mem_of_getElem? ha
            have em : ((la5.take (j + 1)).filter fun a => (lu5.map rf).any (shbI (rf a))) = ((la5.take j).filter fun a => (lu5.map rf).any (shbI (rf a))) ++ if (lu5.map rf).any (shbI (rf a)) = true then [a] else [] := by
              rw [List.take_add_one, ha, List.filter_append]
              congr 1
              show List.filter _ [a] = _
              rw [List.filter_cons, List.filter_nil]
            refine ⟨rfl, .ref p5, rfl, p5, rfl, ⟨_, SqL.of (s6 _ _ hp5)⟩, fun D2 nD2 => ?_⟩
            refine lc_list (K := K) (a := p5) (xs := lu5.map V.ref) (fun k H' => Same H6 H' ∧ H' D2 = some (.lst (((lu5.map fun b => shbI (rf a) (rf b)).take k).map V.bl))) ⟨same_new nD2, by rw [upd_same]; rfl⟩ (fun k H' _ hP => SqL.of (hP.1 _ _ (s6 _ _ hp5))) (fun k x H7 hx ⟨s7, hD2⟩ => ?_) (fun H7 ⟨s7, hD2⟩ => ?_)
            · obtain ⟨b, hb, rfl⟩ : ∃ n, lu5[k]? = some n ∧ x = V.ref n := by
                rw [List.getElem?_map] at hx
                cases e : lu5[k]? with
                | none => rw [e] at hx; cases hx
                | some n => rw [e] at hx; exact ⟨n, rfl, (Option.some.inj hx).symm⟩
              have hbm := List.mem_of_getElem? hb
              have s57 := s5.trans (s6.trans s7)
              refine ⟨rfl, yes (iteT ?_)⟩
              refine ⟨.ref a, rfl, .ref b, rfl, a, b, rf a, rf b, rfl, s57 _ _ (hri a (sub5 a ham)), s57 _ _ (hri b (subl5 b hbm)), (hrow a (sub5 a ham)).1.trans (hrow b (subl5 b hbm)).1.symm, by rw [(hrow a (sub5 a ham)).1]; exact hn, fun H8 s8 => ?_⟩
              exact turn_bl nD2 (xs := lu5.map fun b => shbI (rf a) (rf b)) (by rw [List.getElem?_map, hb]; rfl) (by rw [List.length_map]; omega) s7 hD2 s8
            · rw [List.length_map, List.take_of_length_le (by rw [List.length_map]; exact Nat.le_refl _)] at hD2
              refine ⟨D2, _, rfl, SqL.of hD2, _, rfl, ?_⟩
              have ea : (lu5.map fun b => shbI (rf a) (rf b)).any id = (lu5.map rf).any (shbI (rf a)) := by
                rw [List.any_map, List.any_map]
                rfl
              rw [ea, em]
              have hD7 := s7 _ _ hD
              refine ite2 (fun c2 => ?_) (fun c2 => ?_)
              · refine ⟨.ref a, rfl, _, hD7, ?_, same_late (s6.trans s7) nD, by rw [upd_same, if_pos c2, List.map_append]; rfl⟩
                rw [List.length_map]
                exact small1000 (Nat.le_trans (List.length_filter_le _ _) (Nat.le_trans (List.length_take_le' _ _) (by omega)))
              · rw [if_neg c2, List.append_nil]
                exact ⟨s6.trans s7, hD7⟩
          · rw [List.length_map, List.take_length] at hD
            have enr : (la5.filter fun a => (lu5.map rf).any (shbI (rf a))).map rf = nearL shbI (la5.map rf) (lu5.map rf) := filt_map rf (fun r => (lu5.map rf).any (shbI r)) la5
            have subn : ∀ a ∈ la5.filter (fun a => (lu5.map rf).any (shbI (rf a))), a ∈ ca := fun a ha => sub5 a (List.mem_filter.mp ha).1
            have nln : (la5.filter fun a => (lu5.map rf).any (shbI (rf a))).length ≤ 121 := Nat.le_trans (List.length_filter_le _ _) hla5
            generalize la5.filter (fun a => (lu5.map rf).any (shbI (rf a))) = ln at hD enr subn nln
            refine ⟨.ref lf5, rfl, lf5, rfl, ⟨_, SqL.of (s6 _ _ hlf5)⟩, fun D3 nD3 => ?_⟩
            refine lc_list (K := K) (a := lf5) (xs := la5.map V.ref) (fun j H' => Same H6 H' ∧ H' D3 = some (.lst (((la5.take j).filter fun a => !decide (rf a ∈ ln.map rf)).map V.ref))) ⟨same_new nD3, by rw [upd_same]; rfl⟩ (fun j H' _ hP => SqL.of (hP.1 _ _ (s6 _ _ hlf5))) (fun j x H7 hx ⟨s7, hD3⟩ => ?_) (fun H7 ⟨s7, hD3⟩ => ?_)
            · obtain ⟨a, ha, rfl⟩ : ∃ n, la5[j]? = some n ∧ x = V.ref n := by
                rw [List.getElem?_map] at hx
                cases e : la5[j]? with
                | none => rw [e] at hx; cases hx
                | some n => rw [e] at hx; exact ⟨n, rfl, (Option.some.inj hx).symm⟩
              have ham := List.mem_of_getElem? ha
              have s57 := s5.trans (s6.trans s7)
              have em : ((la5.take (j + 1)).filter fun a => !decide (rf a ∈ ln.map rf)) = ((la5.take j).filter fun a => !decide (rf a ∈ ln.map rf)) ++ if (!decide (rf a ∈ ln.map rf)) = true then [a] else [] := by
                rw [List.take_add_one, ha, List.filter_append]
                congr 1
                show List.filter _ [a] = _
                rw [List.filter_cons, List.filter_nil]
              refine ⟨rfl, .ref a, rfl, .ref D, rfl, _, _, dq_row (s57 _ _ (hri a (sub5 a ham))), dpl H7 D ln s57 subn (s7 _ _ hD), shp_row _, shp_rows (ln.map rf), _, rfl, ?_⟩
              rw [in_rows, em]
              refine ite2 (fun c2 => ?_) (fun c2 => ?_)
              · refine ⟨.ref a, rfl, _, hD3, ?_, same_late s7 nD3, by rw [upd_same, if_pos c2, List.map_append]; rfl⟩
                rw [List.length_map]
                exact small1000 (Nat.le_trans (List.length_filter_le _ _) (Nat.le_trans (List.length_take_le' _ _) (by omega)))
              · rw [if_neg c2, List.append_nil]
                exact ⟨s7, hD3⟩
            · rw [List.length_map, List.take_length] at hD3
              have s57 := s5.trans (s6.trans s7)
              have s67 := s6.trans s7
              refine ⟨.ref p5, rfl, .ref D, rfl, p5, D, _, _, rfl, rfl, s67 _ _ hp5, s7 _ _ hD, ?_, fun p6 np6 => ?_⟩
              · rw [List.length_map, List.length_map]
                exact sz1000 (by omega)
              have s8 := same_new (o := .lst (lu5.map V.ref ++ ln.map V.ref)) np6
              have hF8 := hF5.same (s67.trans s8)
              refine ⟨s57.trans s8, D3, la5.filter fun a => !decide (rf a ∈ ln.map rf), p6, lu5 ++ ln, _, _, rfl, s5.free (s6.free nD3), fun e => ?_, s8 _ _ hD3, fun a ha => sub5 a (List.mem_filter.mp ha).1, by rw [upd_same, List.map_append], fun a ha => ?_, hF8, fun fs e hm => ?_, ?_⟩
              · obtain ⟨fs, e1, _⟩ := hF5.ex
                rw [e, s6 _ _ e1] at nD3
                cases nD3
              · rcases List.mem_append.mp ha with ha | ha
                · exact subl5 a ha
                · exact subn a ha
              · obtain ⟨fs', e', k2, k3, k4⟩ := hF5.ex
                rw [(s67.trans s8) _ _ e'] at e
                have ee : fs'.map V.ref = fs.map V.ref := HO.lst.inj (Option.some.inj e)
                have hm' : V.ref D3 ∈ fs'.map V.ref := by rw [ee]; exact List.mem_map.mpr ⟨D3, hm, rfl⟩
                obtain ⟨a, ha, ea⟩ := List.mem_map.mp hm'
                cases ea
                obtain ⟨t', ht', et'⟩ := List.mem_iff_getElem.mp ha
                have h1 : fs'[t']? = some D3 := by rw [List.getElem?_eq_getElem ht', et']
                obtain ⟨l1, hl1⟩ : ∃ l1, found[t']? = some l1 := ⟨_, List.getElem?_eq_getElem (by omega)⟩
                obtain ⟨⟨cc, h2, _⟩, _⟩ := k4 t' D3 l1 h1 hl1
                rw [s6 _ _ h2] at nD3
                cases nD3
              · have er : (la5.filter fun a => !decide (rf a ∈ ln.map rf)).map rf = restL shbI (la5.map rf) (lu5.map rf) := by
                  rw [filt_map rf (fun r => !decide (r ∈ ln.map rf)) la5, enr]
                  unfold restL nearL
                  refine List.filter_congr fun x hx => ?_
                  congr 1
                  rw [Bool.eq_iff_iff, decide_eq_true_eq, List.mem_filter]
                  exact ⟨fun z => z.2, fun z => ⟨hx, z⟩⟩
                rw [er, List.map_append, enr, eL, eU]
                rfl
        · obtain ⟨s5, lf5, la5, p5, lu5, y5', y6', rfl, nlf5, hne5, hlf5, sub5, hp5, subl5, hF5, hno5, hT5⟩ := hI
          rw [Int.toNat_natCast, hcl] at hT5
          have eL : la5.map rf = (turnsL shbI (la0.map rf) [rf c] rows.length).1 := congrArg Prod.fst hT5
          have eU : lu5.map rf = (turnsL shbI (la0.map rf) [rf c] rows.length).2 := congrArg Prod.snd hT5
          have TI5 : TI rows shI (la0.map rf) (rf c) (la5.map rf, lu5.map rf) := by
            rw [hT5]
            exact turns_inv (fun x y h => shM_symm x y (shb_fwd h)) nd0 inr0 rn0 _
          have CL5 : ClosedL shbI (la5.map rf, lu5.map rf) := by
            rw [hT5]
            refine turns_end ?_
            rw [e0]
            exact Nat.le_trans (List.length_filter_le _ _) lll
          obtain ⟨fs, hfs, k2, k3, k4⟩ := hF5.ex
          refine ⟨.ref fl, rfl, .inl ⟨rfl, _, SqL.of hfs⟩, .ref p5, rfl, p5, lu5, fun a => .tuple ((rf a).map .int), rfl, SqL.of hp5, fun a ha => dq_row (s5 _ _ (hri a (subl5 a ha))), ?_, .inl fun d hd => ?_, fun a ha => ?_, fun cs z ecs PM nz => ?_⟩
          · intro d hd d' hd'
            obtain ⟨a, _, rfl⟩ := List.mem_map.mp hd
            obtain ⟨a', _, rfl⟩ := List.mem_map.mp hd'
            exact row_alike _ _
          · obtain ⟨a, ha, rfl⟩ := List.mem_map.mp hd
            have := (hrow a (subl5 a ha)).1
            cases e : rf a with
            | nil => rw [e] at this; exact absurd this (by show 0 ≠ n; omega)
            | cons x r => exact ⟨.int x, r.map .int, rfl⟩
          · show (PyData.tuple ((rf a).map .int)).depth ≤ 4
            rw [row_depth]
            decide
          · have S : cs.Pairwise fun a b => PySem.W.dataLe false (fun a => .tuple ((rf a).map .int)) a b = true := by
              rw [ecs]
              exact PySem.W.sort_pairwise (PySem.W.sortLe_total _ _ _) _
            have esr := sorted_rows (f := rf) (rows := rows) ris (fun a ha => by rw [← hmap]; exact List.mem_map.mpr ⟨a, subl5 a ha, rfl⟩) TI5.nd PM S
            have s6 := same_new (o := .lst (cs.map V.ref)) nz
            have nez : z ≠ fl := fun e => by rw [e, hfs] at nz; cases nz
            have hfs6 := s6 _ _ hfs
            have lz : LRow (upd H5 z (.lst (cs.map V.ref))) z (rows.filter fun r => decide (r ∈ lu5.map rf)) := ⟨cs, upd_same, by
              rw [← esr]
              exact rows_of fun a ha => s6 _ _ (s5 _ _ (hri a (subl5 a (PM.mem_iff.mp ha))))⟩
            have O' : OI rows shI (· < ·) (i + 1) (la5.map rf) (found ++ [rows.filter fun r => decide (r ∈ lu5.map rf)]) := by
              have h := hO.take (shb := shbI) shM_symm (fun x hx y hy h => (shb_iff (hok x hx).2 (hok y hy).2 ((hok x hx).1.trans (hok y hy).1.symm)).mpr h) ris nd hri' rin e0 TI5 CL5
              exact Eq.mp (congrArg (fun F => OI rows shI (· < ·) (i + 1) (la5.map rf) (found ++ [F])) (List.filter_congr fun x _ => decide_eq_decide.mpr Iff.rfl)) h
            refine ⟨fl, _, .ref z, rfl, rfl, hfs6, ?_, ?_⟩
            · rw [List.length_map]
              exact small1000 (by omega)
            refine ⟨same_late (s5.trans s6) hF5.new, lf5, la5, found ++ [rows.filter fun r => decide (r ∈ lu5.map rf)], _, _, _, _, rfl, nlf5, hne5, by rw [upd_ne hne5]; exact s6 _ _ hlf5, sub5, ⟨hF5.new, fs ++ [z], by rw [upd_same, List.map_append]; rfl, by rw [List.length_append, List.length_append, k2]; rfl, ?_, fun i' a l h1 h2 => ?_⟩, fun fs2 e2 hm => ?_, O', by rw [List.length_append]; exact Nat.succ_le_succ hfi⟩
            · rw [List.length_append]
              show found.length + 1 ≤ 400
              omega
            · by_cases ci : i' < fs.length
              · rw [List.getElem?_append_left ci] at h1
                rw [List.getElem?_append_left (by omega)] at h2
                obtain ⟨m1, m2, m3⟩ := k4 i' a l h1 h2
                exact ⟨lrow_put (m1.same s6) hfs6 m3, m2, m3⟩
              · rw [List.getElem?_append_right (by omega)] at h1
                rw [List.getElem?_append_right (by omega)] at h2
                have ei : i' - fs.length = 0 := by
                  have := (List.getElem?_eq_some_iff.mp h1).1
                  rw [List.length_singleton] at this
                  omega
                have ei2 : i' - found.length = 0 := by omega
                rw [ei] at h1
                rw [ei2] at h2
                cases Option.some.inj h1
                cases Option.some.inj h2
                exact ⟨lrow_put lz hfs6 nez, s5.free nz, nez⟩
            · rw [upd_same] at e2
              have ee : fs.map V.ref ++ [V.ref z] = fs2.map V.ref := HO.lst.inj (Option.some.inj e2)
              have hm' : V.ref lf5 ∈ fs.map V.ref ++ [V.ref z] := by rw [ee]; exact List.mem_map.mpr ⟨lf5, hm, rfl⟩
              rcases List.mem_append.mp hm' with hm' | hm'
              · obtain ⟨a, ha, ea⟩ := List.mem_map.mp hm'
                cases ea
                exact hno5 fs hfs ha
              · have := V.ref.inj (List.mem_singleton.mp hm')
                rw [← this, hlf5] at nz
                cases nz
      · refine ⟨s2, lf, la, found, _, y4, y5, y6, rfl, nlf, hne, hlf, hsub, hF, hno, hO.skip hri' (fun z => c1 (decide_eq_true z)), by omega⟩
    · obtain ⟨s2, lf, la, found, y3, y4, y5, y6, rfl, nlf, hne, hlf, hsub, hF, hno, hO, hfi⟩ := hI
      rw [List.length_map, hcl] at hO
      exact ⟨.ref fl, rfl, q H2 fl found s2 hF hO.done⟩
end
end HL

set_option pp.maxSteps 600
set_option pp.deepTerms false
namespace HL
open PySem PySem.Spec PyProof.Rows L2
open C8 (pss_cut)
open LamX (GivesTo CodeO Tabs TabS TabB ExtN tLam pe_lamcall LamS lamS_by lamCx lamEnv codeO_ne)
abbrev NL : List Str := ["_law_script", "_law_feed_here", "_law_turn", "_law_mlot", "_law_mbill", "_law_rows", "_law_due", "_law_told", "_law_lump", "_law_many"]
theorem scLaw : FnScope NL ["_law_script"] (defScope sLaw) := ⟨rfl, rfl, rfl, by decide +kernel, rfl, by decide +kernel, by decide +kernel⟩
abbrev qLam : Str := ((Str.ofString "law" : Str) ++ (Str.ofString ".<locals>." : Str)) ++ (Str.ofString "<lambda>" : Str)
theorem good_flaw {g m : Int} {ll : List (List Int)} (g1 : 1 ≤ g) (g3 : g ≤ 3) (m6 : m ≤ 6) (h : GoodLot g m 5 ll) : flaw ll = none := by
  obtain ⟨h1, h2, h3⟩ := h
  have hw : width ll = g.toNat := by
    cases ll with
    | nil => simp at h1
    | cons r rs => exact (h3 r List.mem_cons_self).1
  unfold flaw
  rw [if_pos ⟨h1, h2, by omega, by omega⟩]
  exact flawIn_none fun j r hj hjr => by
    obtain ⟨e1, e2, e3⟩ := h3 r (List.mem_of_getElem? hjr)
    refine okRow_iff.mpr ⟨by rw [e1, hw], fun n hn => ?_, e3⟩
    have := e2 n hn
    omega
theorem box_most {c : Int} (c0 : 0 ≤ c) : ∀ {b : List Int} {x y : Int}, 0 ≤ x → x ≤ y → (∀ n ∈ b, 0 ≤ n ∧ n ≤ c) → b.foldl (fun x a => x * (a + 1)) x ≤ y * (c + 1) ^ b.length
  | [], x, y, _, h, _ => by simpa using h
  | a :: b, x, y, h0, h, hb => by
    have ha := hb a List.mem_cons_self
    have h1 : x * (a + 1) ≤ y * (c + 1) := Int.mul_le_mul h (by omega) (by omega) (by omega)
    have h2 := box_most c0 (b := b) (x := x * (a + 1)) (y := y * (c + 1)) (Int.mul_nonneg h0 (by omega)) h1 fun n hn => hb n (List.mem_cons_of_mem _ hn)
    rw [List.foldl_cons, List.length_cons, Int.pow_succ, Int.mul_comm _ (c + 1), ← Int.mul_assoc]
    exact h2
structure Small (ll : List (List Int)) (b : List Int) : Prop where
  ok : flaw ll = none
  wide : b.length = width ll
  less : ∀ n ∈ b, 0 ≤ n ∧ n < G30
  box : BoxOk b
  sum : b.sum ≤ 100
  pow : (b.sum.toNat + 1) ^ ll.length ≤ 500000
theorem small_of {ll : List (List Int)} {b : List Int} {c : Int} {S : Nat} (ef : flaw ll = none) (hw : b.length = width ll) (c0 : 0 ≤ c) (hb : ∀ n ∈ b, 0 ≤ n ∧ n ≤ c) (h1 : c * (b.length : Nat) ≤ (S : Int)) (h2 : S ≤ 100) (h3 : 1 * (c + 1) ^ b.length ≤ 4000) (h4 : (S + 1) ^ ll.length ≤ 500000) : Small ll b := by
  have hok := flaw_ok ef
  have hs : b.sum ≤ (S : Int) := Int.le_trans (sum_most fun n hn => (hb n hn).2) h1
  refine ⟨ef, hw, fun n hn => ⟨(hb n hn).1, ?_⟩, ⟨fun n hn => (hb n hn).1, by omega, ?_⟩, by omega, ?_⟩
  · have hn2 := (hb n hn).2
    have hl : (1 : Int) ≤ (b.length : Nat) := by
      have := List.length_pos_of_mem hn
      omega
    have : c * 1 ≤ c * (b.length : Nat) := Int.mul_le_mul_of_nonneg_left hl c0
    show n < 1000000000000000000000000000000
    omega
  · exact Int.le_trans (box_most c0 (by decide) (Int.le_refl _) hb) h3
  · exact Nat.le_trans (Nat.pow_le_pow_left (by omega) _) h4
theorem small_a {g m : Int} {ll : List (List Int)} {b : List Int} (g1 : 1 ≤ g) (g3 : g ≤ 3) (m3 : m ≤ 6) (h : GoodLot g m 4 ll) (hl : b.length = width ll) (hb : ∀ n ∈ b, 0 ≤ n ∧ n < limW (width ll)) : Small ll b := by
  have ef := good_flaw g1 g3 (by omega) ⟨h.1, Nat.le_trans h.2.1 (by decide), h.2.2⟩
  have hok := flaw_ok ef
  have h4 := h.2.1
  have pw : ∀ S : Nat, S + 1 ≤ 13 → (S + 1) ^ ll.length ≤ 500000 := fun S hS => Nat.le_trans (Nat.pow_le_pow_left hS _) (Nat.le_trans (Nat.pow_le_pow_right (by decide) h4) (by decide))
  have : width ll = 1 ∨ width ll = 2 ∨ width ll = 3 := by omega
  rcases this with e | e | e
  · refine small_of (c := 12) (S := 12) ef hl (by decide) (fun n hn => ?_) (by rw [hl, e]; decide) (by decide) (by rw [hl, e]; decide) (pw _ (by decide))
    have := hb n hn
    rw [e] at this
    have el : limW 1 = 13 := rfl
    omega
  · refine small_of (c := 5) (S := 10) ef hl (by decide) (fun n hn => ?_) (by rw [hl, e]; decide) (by decide) (by rw [hl, e]; decide) (pw _ (by decide))
    have := hb n hn
    rw [e] at this
    have el : limW 2 = 6 := rfl
    omega
  · refine small_of (c := 3) (S := 9) ef hl (by decide) (fun n hn => ?_) (by rw [hl, e]; decide) (by decide) (by rw [hl, e]; decide) (pw _ (by decide))
    have := hb n hn
    rw [e] at this
    have el : limW 3 = 4 := rfl
    omega
theorem Small.kd {ll : List (List Int)} {b : List Int} (x : Small ll b) : ∀ h ∈ ll, Kd b.length h := fun h hh => by
  rw [x.wide]
  exact flaw_kd x.ok h hh
theorem lx_code {B : Int} : ∀ {r s : List Int}, r.length = s.length → TS.Bd B r → TS.Bd B s → lx r s → TS.code B r < TS.code B s
  | [], [], _, _, _, h => h.elim
  | [], _ :: _, _, _, _, h => h.elim
  | _ :: _, [], _, _, _, h => h.elim
  | x :: r, y :: s, e, h1, h2, h => by
    have e' : r.length = s.length := by simpa using e
    rcases h with h | ⟨h, h'⟩
    · exact TS.code_lt e' h1.tail h2.tail h
    · rw [h]
      exact (TS.code_same e').mpr (lx_code e' h1.tail h2.tail h')

theorem fils_few {ll : List (List Int)} {b : List Int} (sm : Small ll b) : (fils ll b).length ≤ 500000 := by
  have hkd := sm.kd
  rw [← all_fils hkd rfl, List.length_map]
  refine Nat.le_trans (List.length_filter_le _ _) (Nat.le_trans ?_ sm.pow)
  have := (lds_all hkd rfl (Nat.le_refl _) (Nat.le_refl ll.length)).2
  rw [List.take_length] at this
  exact this
theorem fils_bd {g : Nat} : ∀ {l : List (List Int)} {b c : List Int}, (∀ h ∈ l, Kd g h) → b.length = g → c ∈ fils l b → ∀ n ∈ c, 0 ≤ n ∧ n ≤ b.sum.toNat
  | [], b, c, _, _, hc => by
    unfold fils at hc
    split at hc
    · rw [List.mem_singleton.mp hc]
      exact fun n hn => by cases hn
    · cases hc
  | h :: t, b, c, hl, hb, hc => by
    have kh := hl h List.mem_cons_self
    have eb : b.length = h.length := by rw [hb, kh.1]
    unfold fils at hc
    obtain ⟨k, hk, hm⟩ := List.mem_flatMap.mp hc
    obtain ⟨c', hc', rfl⟩ := List.mem_map.mp hm
    have hk' := List.mem_range.mp hk
    intro n hn
    rcases List.mem_cons.mp hn with e | e
    · rw [e]
      omega
    · have := fils_bd (fun x hx => hl x (List.mem_cons_of_mem _ hx)) (by rw [subR_len eb, hb]) hc' n e
      rw [subR_sum eb] at this
      have h1 := sum_kd kh
      have h2 : 0 ≤ (k : Int) * h.sum := Int.mul_nonneg (by omega) (by omega)
      omega

theorem RowsAt.ext {H H' : Hp} {p : Addr} {as : List Addr} {ll : List (List Int)} (h : RowsAt H p as ll) (e : ExtN H H') : RowsAt H' p as ll :=
  ⟨e _ _ h.1 (fun ps z => by cases z), h.2.mono fun a xs q => e _ _ q (fun ps z => by cases z)⟩
theorem Small.right {ll : List (List Int)} {b : List Int} (x : Small ll b) : wrong (width ll : Nat) b = none := wrong_good (by rw [x.wide]) x.less
/-! ### lumps alike -/
theorem eqd_rows {H : Hp} {a b : Addr} {as bs : List Addr} {ll : List (List Int)} (ha : H a = some (.lst (as.map V.ref))) (hb : H b = some (.lst (bs.map V.ref))) (ra : Rows H as ll) (rb : Rows H bs ll) (hz : ll.length ≤ 1000) (hr : ∀ r ∈ ll, r.length ≤ 1000) : Eqd H 2 (.ref a) (.ref b) := by
  refine .inr ⟨a, b, _, _, rfl, rfl, .inl ⟨ha, hb⟩, by rw [List.length_map, List.length_map, ra.len, rb.len], by rw [List.length_map, ra.len]; exact hz, fun i x y h1 h2 => ?_⟩
  rw [List.getElem?_map] at h1 h2
  cases e1 : as[i]? with
  | none => rw [e1] at h1; cases h1
  | some x1 =>
    cases e2 : bs[i]? with
    | none => rw [e2] at h2; cases h2
    | some y1 =>
      rw [e1] at h1
      rw [e2] at h2
      cases Option.some.inj h1
      cases Option.some.inj h2
      obtain ⟨r, g1, g2⟩ := ra.at e1
      obtain ⟨r', g3, g4⟩ := rb.at e2
      cases (g1.symm.trans g3)
      exact eqd_tup g2 g4 (by rw [List.length_map]; exact hr r (List.mem_of_getElem? g1)) fun x hx => by
        obtain ⟨n, _, rfl⟩ := List.mem_map.mp hx
        rfl
theorem eqd_lumps {H0 H1 H : Hp} {l fl : Addr} {Ls : List (List (List Int))} (hL : LumpsAt H0 H l Ls) (hF : FndAt H1 H fl Ls) (hz : ∀ m ∈ Ls, m.length ≤ 1000 ∧ ∀ r ∈ m, r.length ≤ 1000) : Eqd H 3 (.ref l) (.ref fl) := by
  obtain ⟨ls, h1, _, _, h4, h5, h6⟩ := hL
  obtain ⟨fs, k1, k2, k3, k4⟩ := hF.ex
  have ell : ls.length = Ls.length := by rw [h5, List.length_map]
  refine .inr ⟨l, fl, _, _, rfl, rfl, .inl ⟨h1, k1⟩, by rw [List.length_map, List.length_map, k2, ell], by rw [List.length_map]; omega, fun i x y e1 e2 => ?_⟩
  rw [List.getElem?_map] at e1 e2
  cases f1 : ls[i]? with
  | none => rw [f1] at e1; cases e1
  | some x1 =>
    cases f2 : fs[i]? with
    | none => rw [f2] at e2; cases e2
    | some y1 =>
      rw [f1] at e1
      rw [f2] at e2
      cases Option.some.inj e1
      cases Option.some.inj e2
      have hm : Ls[i]? = some (rowsF H x1) := by rw [h5, List.getElem?_map, f1]; rfl
      obtain ⟨ca, c1, c2⟩ := (h6 x1 (List.mem_of_getElem? f1)).1
      obtain ⟨⟨cb, d1, d2⟩, _⟩ := k4 i y1 _ f2 hm
      obtain ⟨z1, z2⟩ := hz _ (List.mem_of_getElem? hm)
      exact eqd_rows c1 d1 c2 d2 z1 z2
theorem cnt_four : cnt [[1], [1], [1], [1]] [15] = 816 := by decide +kernel
/-! ### what the law knows of the heap -/
structure S8 (cf fe Pt p bl : Addr) (as : List Addr) (ll : List (List Int)) (b : List Int) (H : Hp) : Prop where
  F : FeedAt cf H fe
  T : Tabs [(Pt, qLam)] H
  R : RowsAt H p as ll
  B : IntsAt H bl b
section
variable {cf fe Pt p bl : Addr} {as : List Addr} {ll : List (List Int)} {b : List Int} {H H' : Hp}
theorem S8.same (x : S8 cf fe Pt p bl as ll b H) (s : Same H H') : S8 cf fe Pt p bl as ll b H' := ⟨x.F.same s, x.T.ext s, x.R.same s, x.B.same s⟩
end
/-- all that the law takes from the module -/
structure Txt (P : Program) (w : World) (K : PySem.W.Frag) (mg : Str → Option Value) (base : Heap) (CB CM CE CMi CN : Addr) : Prop where
  B : Bl mg
  feed : Cal P w K mg base CX0 1 "_law_feed" ["_law_script"] (spFeed K)
  same3 : Cal P w K mg base CX0 4 "_law_same" ["_law_found", "_law_due"] (spSame 3)
  plain : Cal P w K mg base CX0 4 "_law_plain_lot" ["_law_feed_here"] spPlain
  sb : Cal P w K mg base CX0 2 "_law_small_bill" ["_law_feed_here", "_law_mlot"] spSmallBill
  al : Cal P w K mg base CX0 3 "_law_all" ["_law_mlot", "_law_mbill"] spAll
  ll : Cal P w K mg base CX0 2 "_law_lumps" ["_law_rows"] spLL
  lu : ∃ (f : Addr) (fd : FuncData), FnOk P w K mg base (L2.CX P w) 7 f fd ["lot", "bill"] (spLum CB CM) ∧ mg "lumps" = some (.ref f) ∧ PySem.W.keepIn K (.ref f) = true ∧ L2.Binds K fd ["lot", "bill"] [] ∧ KBn K fd ["lot", "bill"] 0 ["bill", "lot"] (fun _ ws => ws.reverse) (fun _ zs => zs.reverse)
  word : ∃ (g : Addr) (oc : Value) (od : Option Addr) (kV doc pm : Value) (an : Option Addr) (cdv ct : Value) (osl : Array (Option Value)), mg "_law_word" = some (.ref g) ∧ PySem.W.keepIn K (.ref g) = true ∧
    K.lookup g = some ⟨oc, od, .func (PySem.W.fnOf "_law_word" "_law_word" (defArgs sWord) (defBody sWord) (defScope sWord) .none kV doc pm an cdv ct), osl⟩ ∧ PySem.W.codeIn K cdv "_law_word" = true ∧
    L2.Binds K (PySem.W.fnOf "_law_word" "_law_word" (defArgs sWord) (defBody sWord) (defScope sWord) .none kV doc pm an cdv ct) ["_law_ask"] []
  cls : ClsW mg CE CMi CN
  fB : FamW K CE CMi CB false
  fM : FamW K CE CMi CM false
  srt : mg "sorted" = none
section
variable {P : Program} {w : World} {K : PySem.W.Frag} {mg : Str → Option Value} {base : Heap}
def spLaw (K : PySem.W.Frag) (Pt : Addr) : Sp := fun vs H Q _ => ∃ (a : Addr) (ns : List Int), vs = [.ref a] ∧ SqL K H a (ns.map V.int) ∧ ns.length ≤ 63 ∧ Tabs [(Pt, qLam)] H ∧ ∀ H', Q (.bl true) H'
theorem ok_law {f CB CM CE CMi CN c Pt : Addr} {oc : Value} {od : Option Addr} {kV doc pm : Value} {an : Option Addr} {ct : Value} {osl : Array (Option Value)}
    (lk : K.lookup f = some ⟨oc, od, .func (PySem.W.fnOf "law" "law" (defArgs sLaw) (defBody sLaw) (defScope sLaw) .none kV doc pm an (.ref c) ct), osl⟩) (hcd : PySem.W.codeIn K (.ref c) "law" = true) (T : Txt P w K mg base CB CM CE CMi CN) (TB : TabB base mg c Pt) :
    FnOk P w K mg base CX0 10 f (PySem.W.fnOf "law" "law" (defArgs sLaw) (defBody sLaw) (defScope sLaw) .none kV doc pm an (.ref c) ct) ["_law_script"] (spLaw K Pt) := by
  have B := T.B
  obtain ⟨fF, fdF, GF, gF, kF, bF⟩ := T.feed.ex
  obtain ⟨fS, fdS, GS, gS, kS, bS⟩ := T.same3.ex
  obtain ⟨fPl, fdPl, GPl, gPl, kPl, bPl⟩ := T.plain.ex
  obtain ⟨fSB, fdSB, GSB, gSB, kSB, bSB⟩ := T.sb.ex
  obtain ⟨fAl, fdAl, GAl, gAl, kAl, bAl⟩ := T.al.ex
  obtain ⟨fLL, fdLL, GLL, gLL, kLL, bLL⟩ := T.ll.ex
  obtain ⟨fLu, fdLu, GLu, gLu, kLu, bLu, kb1⟩ := T.lu
  obtain ⟨gT, toc, tod, tkV, tdoc, tpm, tan, tcdv, tct, tosl, gW, kW, lkW, cdW, bW⟩ := T.word
  have mSo := T.srt
  refine fn_of lk hcd scLaw (fun vs H Q E h => ?_) fun A outer s H vs Q E hr h => ?_
  · obtain ⟨a, ns, rfl, _⟩ := h
    rfl
  · obtain ⟨a, ns, rfl, hS, hlen, hT, q⟩ := h
    have tl : ∀ {X : Cx} (eK : X.K = K) (em : X.mg = mg) {q : Str} {cdg : Value} {g : Addr}, AsksOf X NW "_law_word" (defScope sWord) g cdg (defBody sWord) "_law_ask" q (TTw K CE CMi) := fun {X} eK em {q cdg g} => by
      subst eK em
      exact word_gives T.cls
    have build : ∃ t, PSs (cxOf CX0 P w K mg base NL "law" (defScope sLaw) f (.ref c) A outer s H E).nox (defBody sLaw) t ∧ t { nx := fun _ H' => Q .non H', rt := Q } (L2.start NL [.ref a]) H := by
      refine ⟨_, (pss_cons (ps_set (i := 1) scLaw.nd rfl (.inl rfl) (pe_call GF (hr.mono (by decide)) (by rfl) gF kF bF .nil pass0 (pa_cons (pv 0) pa_nil)))
      (pss_cut (ps_for PassesOwn.never rfl (pi_range1 (by rfl) B.range (pa_cons pe_int pa_nil)) (pg_name (i := 2) scLaw.nd rfl (.inl rfl))
      (pss_cons (ps_set (i := 3) scLaw.nd rfl (.inr rfl) (pe_call GPl (hr.mono (by decide)) (by rfl) gPl kPl bPl .nil pass0 (pa_cons (pv 1) pa_nil)))
      (pss_cut (ps_set (i := 4) scLaw.nd rfl (.inl rfl) (pe_call GSB (hr.mono (by decide)) (by rfl) gSB kSB bSB .nil pass0 (pa_cons (pv 1) (pa_cons (pv 3) pa_nil))))
      (pss_cut (ps_set (i := 5) scLaw.nd rfl (.inl rfl) (pe_callB cr_sortedR (by rfl) mSo (by decide +kernel) (pa_cons (pe_call GAl (hr.mono (by decide)) (by rfl) gAl kAl bAl .nil pass0 (pa_cons (pv 3) (pa_cons (pv 4) pa_nil))) pa_nil)))
      (pss_cons (ps_if (pt_cmpR op_gt (pe_callB call_len_seq (by rfl) B.len PySem.boot_len (pa_cons (pv 5) pa_nil)) pe_int (nomark _)) (pss_one ps_continue) pss_nil)
      (pss_cut (ps_set (i := 6) scLaw.nd rfl (.inl rfl) (pe_call GLL (hr.mono (by decide)) (by rfl) gLL kLL bLL .nil pass0 (pa_cons (pv 5) pa_nil)))
      (pss_cut (ps_set (i := 7) scLaw.nd rfl (.inl rfl) (pe_call GLu (hr.mono (by decide)) (by rfl) gLu kLu bLu .nil passL (pa_cons (pv 3) (pa_cons (pv 4) pa_nil))))
      (pss_cut (ps_if (pt_not (pt_val (pe_call GS (hr.mono (by decide)) (by rfl) gS kS bS .nil pass0 (pa_cons (pv 7) (pa_cons (pv 6) pa_nil))))) pss_never pss_nil)
      (pss_cut (ps_for PassesOwn.never rfl (pi_list (pv 7)) (pg_name (i := 8) scLaw.nd rfl (.inl rfl))
      (pss_one (ps_expr (pe_bm0 PySem.F.plainAttrs_list PySem.F.slot_list_clear PySem.F.type_list_clear mt_clear (pv 8)))))
      (pss_cut (ps_expr (pe_bm0 PySem.F.plainAttrs_list PySem.F.slot_list_clear PySem.F.type_list_clear mt_clear (pv 7)))
      (pss_one (ps_if (pt_not (pt_val (pe_call GS (hr.mono (by decide)) (by rfl) gS kS bS .nil pass0 (pa_cons (pe_kw0 GLu (hr.mono (by decide)) (by rfl) gLu kLu kb1 passL (pk_cons (pv 4) (pk_cons (pv 3) pk_nil))) (pa_cons (pv 6) pa_nil))))) pss_never pss_nil))))))))))))
      (pss_cut (ps_set (i := 9) scLaw.nd rfl (.inl rfl) (pe_askcall (k := 7) (T := [(Pt, qLam)]) (TT := TTw K CE CMi) (t := (fun E => tCall (spLum CB CM) [] E (tCons (tOp (rRepA K) (tTup (tCons (tTup (tCons (tC (.int 1)) tNil)) tNil)) (tC (.int 4))) (tCons (tTup (tCons (tC (.int 15)) tNil)) tNil)))) (by rfl) gW kW lkW cdW bW scWord rfl (.inl rfl) (tl rfl rfl) TB rfl List.mem_cons_self (fun p hp _ => by rw [List.mem_singleton.mp hp]; rfl) hr (lamS_by (sc := defScope sLaw) (by decide +kernel)) rfl (fun _ _ _ _ _ => rfl)
              (fun A outer s H E f c' hr2 => pe_call GLu (hr2.mono (by decide)) (by rfl) gLu kLu bLu .nil (passes_call (takes_of rfl rfl rfl rfl) (fun _ _ _ _ h => h)) (pa_cons (pe_op op_repA (pe_tup (pa_cons (pe_tup (pa_cons pe_int pa_nil)) pa_nil)) pe_int) (pa_cons (pe_tup (pa_cons pe_int pa_nil)) pa_nil)))))
      (pss_one (ps_ret (pe_cmpR (op_eqD hr.units) (pe_lst (pa_cons (pv 9) (pa_cons (pe_askcall (k := 7) (T := [(Pt, qLam)]) (TT := TTw K CE CMi) (t := (fun E => tCall (spLum CB CM) [] E (tCons (tVar 3) (tCons (tOp (rRepA K) (tTup (tCons (tC (.int 1)) tNil)) (tC (.int 4))) tNil)))) (by rfl) gW kW lkW cdW bW scWord rfl (.inl rfl) (tl rfl rfl) TB rfl List.mem_cons_self (fun p hp _ => by rw [List.mem_singleton.mp hp]; rfl) hr (lamS_by (sc := defScope sLaw) (by decide +kernel)) rfl (fun _ _ _ _ _ => rfl)
              (fun A outer s H E f c' hr2 => pe_call GLu (hr2.mono (by decide)) (by rfl) gLu kLu bLu .nil (passes_call (takes_of rfl rfl rfl rfl) (fun _ _ _ _ h => h)) (pa_cons (pv 3) (pa_cons (pe_op op_repA (pe_tup (pa_cons pe_int pa_nil)) pe_int) pa_nil)))) pa_nil))) (pe_lst (pa_cons (pe_tup (pa_cons pe_non (pa_cons pe_str pa_nil))) (pa_cons (pe_tup (pa_cons pe_non (pa_cons pe_str pa_nil))) pa_nil))) (nomark _))))))), ?_⟩
      refine ⟨.ref a, rfl, a, ns, rfl, hS, hlen, fun H1 fe cf s1 nf F1 => ?_⟩
      refine ⟨fun σ' H' => ∃ (p : Addr) (as : List Addr) (ll : List (List Int)), (∃ y2 y4 y5 y6 y7 y8 y9, σ' = [some (.ref a), some (.ref fe), y2, some (.ref p), y4, y5, y6, y7, y8, y9]) ∧ FeedAt cf H' fe ∧ Tabs [(Pt, qLam)] H' ∧ RowsAt H' p as ll ∧ flaw ll = none, ?_, ?_⟩
      · refine ⟨3, rfl, by decide, by decide, ?_⟩
        refine for_range (lo := 0) (n := 3) (fun i σ' H' => (i = 0 ∧ (∃ y2 y3 y4 y5 y6 y7 y8 y9, σ' = [some (.ref a), some (.ref fe), y2, y3, y4, y5, y6, y7, y8, y9]) ∧ FeedAt cf H' fe ∧ Tabs [(Pt, qLam)] H') ∨ ∃ (p : Addr) (as : List Addr) (ll : List (List Int)), (∃ y2 y4 y5 y6 y7 y8 y9, σ' = [some (.ref a), some (.ref fe), y2, some (.ref p), y4, y5, y6, y7, y8, y9]) ∧ FeedAt cf H' fe ∧ Tabs [(Pt, qLam)] H' ∧ RowsAt H' p as ll ∧ flaw ll = none)
          (.inl ⟨rfl, ⟨_, _, _, _, _, _, _, _, rfl⟩, F1, hT.ext s1⟩) (fun i σ H2 hi hI => ?_) (fun σ H2 hI => ?_)
        · have hI : (∃ y2 y3 y4 y5 y6 y7 y8 y9, σ = [some (.ref a), some (.ref fe), y2, y3, y4, y5, y6, y7, y8, y9]) ∧ FeedAt cf H2 fe ∧ Tabs [(Pt, qLam)] H2 := by
            rcases hI with ⟨_, h1, h2, h3⟩ | ⟨p, as, ll, ⟨y2, y4, y5, y6, y7, y8, y9, rfl⟩, h2, h3, _⟩
            · exact ⟨h1, h2, h3⟩
            · exact ⟨⟨_, _, _, _, _, _, _, _, rfl⟩, h2, h3⟩
          obtain ⟨⟨y2, y3, y4, y5, y6, y7, y8, y9, rfl⟩, F2, T2⟩ := hI
          -- the lot and the bill
          refine ⟨.ref fe, rfl, fe, cf, rfl, F2, fun H3 p ll g m k3 F3 ⟨as, hp, hR⟩ g1 g2 m1 m2 gl => ?_⟩
          have R3 : RowsAt H3 p as ll := ⟨hp, hR⟩
          have T3 := tabs_kp T2 F2 k3
          have gl4 : GoodLot g m 4 ll := ⟨gl.1, Nat.le_trans gl.2.1 (by decide), gl.2.2⟩
          have ef := good_flaw g1 g2 (by omega) ⟨gl.1, Nat.le_trans gl.2.1 (by decide), gl.2.2⟩
          have hok := flaw_ok ef
          have hrw := flaw_rows ef
          have hlen0 := hR.len
          refine ⟨fun σ' H' => ∃ (bl : Addr) (b : List Int), (∃ y2 y5 y6 y7 y8 y9, σ' = [some (.ref a), some (.ref fe), y2, some (.ref p), some (.ref bl), y5, y6, y7, y8, y9]) ∧ S8 cf fe Pt p bl as ll b H' ∧ Small ll b, ?_, ?_⟩
          · refine ⟨.ref fe, rfl, .ref p, rfl, fe, cf, p, as, ll, rfl, F3, R3, hok.1, by omega, by omega, fun H4 bl b k4 F4 hb hbl hbb => ?_⟩
            exact ⟨bl, b, ⟨_, _, _, _, _, _, rfl⟩, ⟨F4, tabs_kp T3 F3 k4, R3.kp F3 k4, hb⟩, small_a g1 g2 (by omega) gl4 hbl hbb⟩
          clear R3 T3
          rintro σ' H5 ⟨bl, b, ⟨y2, y5, y6, y7, y8, y9, rfl⟩, X5, sm⟩
          have hkd := sm.kd
          have few := fils_few sm
          have hbl100 : b.length ≤ 100 := by rw [sm.wide]; omega
          have ewb := sm.right
          have hsum := sm.sum
          have hsz : wrong (width ll : Nat) b = none → boxI b ≤ 4000 ∧ b.sum ≤ 900 ∧ cnt ll b ≤ 500000 := fun _ => ⟨sm.box.box, by omega, by rw [← fils_len]; exact few⟩
          have ris : (fils ll b).Pairwise (· < ·) := (fils_rise ll b).imp fun {x y} h => lx_lt h
          have hrl : ∀ r ∈ fils ll b, r.length = ll.length ∧ ∀ z ∈ r, 0 ≤ z := fun r hr => ⟨comes_len ((fils_mem hkd rfl).mp hr), comes_nn ((fils_mem hkd rfl).mp hr)⟩
          -- all fillings
          refine ⟨fun σ' H' => ∃ (l : Addr) (ca : List Addr), (∃ y2 y6 y7 y8 y9, σ' = [some (.ref a), some (.ref fe), y2, some (.ref p), some (.ref bl), some (.ref l), y6, y7, y8, y9]) ∧ S8 cf fe Pt p bl as ll b H' ∧ H' l = some (.lst (ca.map V.ref)) ∧ Rows H' ca (fils ll b), ?_, ?_⟩
          · refine ⟨.ref p, rfl, .ref bl, rfl, p, bl, as, ll, b, rfl, X5.R, by omega, X5.B, fun n hn => (sm.less n hn).1, fun h hh => ⟨hkd h hh, fun n hn => ?_⟩, hbl100, sm.pow, fun H6 l0 ca s6 nl0 hl0 hR6 => ?_⟩
            · have := (hrw h hh).2 n hn
              omega
            have hbd : ∀ r ∈ fils ll b, r.length = ll.length ∧ TS.Bd 1000 r := fun r hr => ⟨(hrl r hr).1, fun m hm => by
              have h1 := fils_bd hkd rfl hr m hm
              omega⟩
            refine ⟨l0, ca, fils ll b, ll.length, 1000, rfl, SqL.of hl0, hR6.len, fun i b' r h1 h2 => ?_, hok.1, hbd, ?_, fun l nl => ?_⟩
            · obtain ⟨r', e1, e2⟩ := hR6.at h1
              cases (e1.symm.trans h2)
              exact e2
            · exact (fils_rise ll b).imp_of_mem fun {r s} hr hs h => lx_code (by rw [(hbd r hr).1, (hbd s hs).1]) (hbd r hr).2 (hbd s hs).2 h
            · have sl := same_new (o := .lst (ca.map V.ref)) nl
              exact ⟨l, ca, ⟨_, _, _, _, _, rfl⟩, (X5.same s6).same sl, upd_same, hR6.same sl⟩
          clear X5
          rintro σ' H6 ⟨l, ca, ⟨y2, y6, y7, y8, y9, rfl⟩, X6, hl6, hR6⟩
          refine ⟨.ref l, rfl, l, _, rfl, .inl (SqL.of hl6), _, 120, rfl, rfl, _, rfl, ?_⟩
          have hcl := hR6.len
          rw [List.length_map, hcl]
          refine ite2 (fun c1 => .inr ⟨p, as, ll, ⟨_, _, _, _, _, _, _, rfl⟩, X6.F, X6.T, X6.R, ef⟩) (fun c1 => ?_)
          have h120 : (fils ll b).length ≤ 120 := by
            have : ¬ ((fils ll b).length : Int) > 120 := fun z => c1 (decide_eq_true z)
            omega
          have c400 : (cnt ll b : Int) ≤ 400 := by rw [← fils_len]; omega
          -- the law's own
          refine ⟨fun σ' H' => ∃ (fl : Addr) (found : List (List (List Int))), (∃ y2 y5 y7 y8 y9, σ' = [some (.ref a), some (.ref fe), y2, some (.ref p), some (.ref bl), y5, some (.ref fl), y7, y8, y9]) ∧ S8 cf fe Pt p bl as ll b H' ∧ FndAt H6 H' fl found ∧ IsL (fils ll b) shI (hltOf (· < ·)) found, ?_, ?_⟩
          · refine ⟨.ref l, rfl, l, ca, fils ll b, ll.length, rfl, hl6, hR6, h120, ris, hok.1, by omega, hrl, fun H7 fl found s7 hF hI => ⟨fl, found, ⟨_, _, _, _, _, rfl⟩, X6.same s7, hF, hI⟩⟩
          rintro σ' H7 ⟨fl, found, ⟨y2, y5, y7, y8, y9, rfl⟩, X7, hF, hI⟩
          have hsz3 : ∀ m ∈ found, m.length ≤ 1000 ∧ ∀ r ∈ m, r.length ≤ 1000 := fun m hm => by
            obtain ⟨q, e⟩ := hI.fil m hm
            subst e
            refine ⟨Nat.le_trans (List.length_filter_le _ _) (by omega), fun r hr => ?_⟩
            rw [(hrl r (List.mem_filter.mp hr).1).1]
            omega
          have uniq : ∀ Ls, IsL (fils ll b) shI (hltOf (· < ·)) Ls → Ls = found := fun Ls h => h.uniq (hlt_asym fun a b h g => lt_irr a (lt_tr h g)) hI
          -- the program's
          refine ⟨fun σ' H' => ∃ (lt : Addr), (∃ y2 y5 y8 y9, σ' = [some (.ref a), some (.ref fe), y2, some (.ref p), some (.ref bl), y5, some (.ref fl), some (.ref lt), y8, y9]) ∧ Same H7 H' ∧ LumpsAt H7 H' lt found, ?_, ?_⟩
          · refine ⟨.ref p, rfl, .ref bl, rfl, p, bl, as, ll, b, rfl, X7.R, ef, X7.B, hbl100, (fun k hk => by rw [ewb] at hk; cases hk), fun ew => ?_⟩
            obtain ⟨x1, x2, x3⟩ := hsz ew
            refine ⟨x1, x2, x3, fun z => absurd c400 (by omega), fun _ H8 lt Ls s8 hL hI8 => ?_⟩
            have := uniq Ls hI8
            subst this
            exact ⟨lt, ⟨_, _, _, _, rfl⟩, s8, hL⟩
          rintro σ' H8 ⟨lt, ⟨y2, y5, y8, y9, rfl⟩, s8, hL⟩
          refine ⟨fun σ' H' => (∃ y2 y5 y8 y9, σ' = [some (.ref a), some (.ref fe), y2, some (.ref p), some (.ref bl), y5, some (.ref fl), some (.ref lt), y8, y9]) ∧ Same H7 H' ∧ ∃ ls : List Addr, H' lt = some (.lst (ls.map V.ref)) ∧ H7 lt = none ∧ ∀ a ∈ ls, H7 a = none ∧ a ≠ lt ∧ ∃ xs, H' a = some (.lst xs), ?_, ?_⟩
          · refine ⟨.ref lt, rfl, .ref fl, rfl, .ref lt, .ref fl, rfl, eqd_lumps hL (hF.same s8) hsz3, fun H9 s9 => ⟨_, rfl, iteF ?_⟩⟩
            obtain ⟨ls, h1, h2, h3, h4, h5, h6⟩ := hL
            refine ⟨⟨_, _, _, _, rfl⟩, s8.trans s9, ls, s9 _ _ h1, h2, fun a ha => ⟨(h3 a ha).1, (h3 a ha).2, ?_⟩⟩
            obtain ⟨ca', c1, _⟩ := (h6 a ha).1
            exact ⟨_, s9 _ _ c1⟩
          clear hL s8
          rintro σ' H8 ⟨⟨y2, y5, y8, y9, rfl⟩, s8, ls, hlt8, nlt, hls⟩
          -- cleared one by one
          refine ⟨fun σ' H' => (∃ y2 y5 y8 y9, σ' = [some (.ref a), some (.ref fe), y2, some (.ref p), some (.ref bl), y5, some (.ref fl), some (.ref lt), y8, y9]) ∧ Same H7 H' ∧ H' lt = some (.lst (ls.map V.ref)), ?_, ?_⟩
          · refine ⟨.ref lt, rfl, lt, rfl, ⟨_, SqL.of hlt8⟩, ?_⟩
            refine for_list (K := K) (a := lt) (xs := ls.map V.ref) (fun i σ' H' => (∃ y2 y5 y8 y9, σ' = [some (.ref a), some (.ref fe), y2, some (.ref p), some (.ref bl), y5, some (.ref fl), some (.ref lt), y8, y9]) ∧ Same H7 H' ∧ H' lt = some (.lst (ls.map V.ref)) ∧ ∀ a ∈ ls, ∃ xs, H' a = some (.lst xs)) ⟨⟨_, _, _, _, rfl⟩, s8, hlt8, fun a ha => (hls a ha).2.2⟩ (fun i σ H' _ hI => SqL.of hI.2.2.1) (fun i x σ H9 hx hI => ?_) (fun σ H9 hI => ⟨hI.1, hI.2.1, hI.2.2.1⟩)
            obtain ⟨⟨y2, y5, y8, y9, rfl⟩, s9, hlt9, hls9⟩ := hI
            obtain ⟨c, hc, rfl⟩ : ∃ n, ls[i]? = some n ∧ x = V.ref n := by
              rw [List.getElem?_map] at hx
              cases e : ls[i]? with
              | none => rw [e] at hx; cases hx
              | some n => rw [e] at hx; exact ⟨n, rfl, (Option.some.inj hx).symm⟩
            have hcm := List.mem_of_getElem? hc
            obtain ⟨xs, hxs⟩ := hls9 c hcm
            refine ⟨.ref c, rfl, .inl ⟨rfl, _, SqL.of hxs⟩, c, xs, rfl, rfl, hxs, ⟨_, _, _, _, rfl⟩, same_late s9 (hls c hcm).1, by rw [upd_ne (fun e => (hls c hcm).2.1 e.symm)]; exact hlt9, fun a ha => ?_⟩
            by_cases e : a = c
            · subst e; exact ⟨_, upd_same⟩
            · rw [upd_ne e]; exact hls9 a ha
          rintro σ' H9 ⟨⟨y2, y5, y8, y9, rfl⟩, s9, hlt9⟩
          refine ⟨fun σ' H' => (∃ y2 y5 y7 y8 y9, σ' = [some (.ref a), some (.ref fe), y2, some (.ref p), some (.ref bl), y5, some (.ref fl), y7, y8, y9]) ∧ Same H7 H', ?_, ?_⟩
          · exact ⟨.ref lt, rfl, .inl ⟨rfl, _, SqL.of hlt9⟩, lt, _, rfl, rfl, hlt9, ⟨_, _, _, _, _, rfl⟩, same_late s9 nlt⟩
          clear s9 hlt9
          rintro σ' H9 ⟨⟨y2, y5, y7, y8, y9, rfl⟩, s9⟩
          -- once more, by name
          have X9 := X7.same s9
          refine ⟨.ref bl, rfl, .ref p, rfl, rfl, rfl, p, bl, as, ll, b, rfl, X9.R, ef, X9.B, hbl100, (fun k hk => by rw [ewb] at hk; cases hk), fun ew => ?_⟩
          obtain ⟨x1, x2, x3⟩ := hsz ew
          refine ⟨x1, x2, x3, fun z => absurd c400 (by omega), fun _ H10 lt2 Ls s10 hL hI10 => ?_⟩
          have := uniq Ls hI10
          subst this
          refine ⟨.ref fl, rfl, .ref lt2, .ref fl, rfl, eqd_lumps hL (hF.same (s9.trans s10)) hsz3, fun H11 s11 => ⟨_, rfl, iteF ?_⟩⟩
          have X11 := X9.same (s10.trans s11)
          exact .inr ⟨p, as, ll, ⟨_, _, _, _, _, _, _, rfl⟩, X11.F, X11.T, X11.R, ef⟩
        · rcases hI with ⟨h0, _⟩ | h
          · exact absurd h0 (by decide)
          · exact h
      rintro σ' H2 ⟨p, as, ll, ⟨y2, y4, y5, y6, y7, y8, y9, rfl⟩, F2, T2, R2, ef⟩
      -- too many
      refine ⟨fun σ' H' => ∃ (u : Addr), (∃ y2 y4 y5 y6 y7 y8, σ' = [some (.ref a), some (.ref fe), y2, some (.ref p), y4, y5, y6, y7, y8, some (.ref u)]) ∧ Tabs [(Pt, qLam)] H' ∧ RowsAt H' p as ll ∧ H' u = some (.tup [.non, .str "too many"]), ?_, ?_⟩
      · refine ⟨T2, fun H3 e3 T3 => ?_⟩
        refine ⟨sz_1 _, fun t1 nt1 => ⟨sz_1 _, fun t2 nt2 => ?_⟩⟩
        have m1 := same_new (o := .tup [.int 1]) nt1
        have m2 := same_new (o := .tup [.ref t1]) nt2
        refine ⟨t2, 4, [.ref t1], rfl, rfl, SqT.of upd_same, by simp, by decide, by decide, (by show 1 ≤ 1000; decide), (fun z => absurd z (by decide)), fun _ t4 nt4 => ⟨sz_1 _, fun t5 nt5 => ?_⟩⟩
        have m4 := same_new (o := .tup (List.replicate (4 : Int).toNat [V.ref t1]).flatten) nt4
        have m5 := same_new (o := .tup [.int 15]) nt5
        have h1 := (m2.trans (m4.trans m5)) _ _ (upd_same (H := H3) (a := t1) (o := .tup [.int 1]))
        have c816 : cnt [[1], [1], [1], [1]] [15] = 816 := cnt_four
        have w15 : wrong (width ([[1], [1], [1], [1]] : List (List Int)) : Nat) [15] = none := by decide +kernel
        refine ⟨t4, t5, [t1, t1, t1, t1], [[1], [1], [1], [1]], [15], rfl, ⟨m5 _ _ upd_same, h1, h1, h1, h1, True.intro⟩, by decide +kernel, (show IntsAt _ t5 [15] from upd_same), by decide, (fun k hk => by rw [w15] at hk; cases hk), fun _ => ⟨by decide +kernel, by decide, by rw [c816]; decide, fun _ => (caught T.fM fun H9 u1 s9 hu1 => ?_).refd (by decide), fun z => absurd z (by rw [c816]; decide)⟩⟩
        have sa := (m1.trans (m2.trans (m4.trans m5))).trans s9
        exact ⟨u1, ⟨_, _, _, _, _, _, rfl⟩, T3.ext sa, (R2.ext e3).same sa, hu1⟩
      rintro σ' H3 ⟨u, ⟨y2, y4, y5, y6, y7, y8, rfl⟩, T3, R3, hu⟩
      -- a bill too long
      refine ⟨.ref u, rfl, T3, fun H4 e4 T4 => ?_⟩
      refine ⟨.ref p, rfl, sz_1 _, fun t1 nt1 => ?_⟩
      have m1 := same_new (o := .tup [.int 1]) nt1
      refine ⟨t1, 4, [.int 1], rfl, rfl, SqT.of upd_same, by simp, by decide, by decide, (by show 1 ≤ 1000; decide), (fun z => absurd z (by decide)), fun _ t4 nt4 => ?_⟩
      have m4 := same_new (o := .tup (List.replicate (4 : Int).toNat [V.int 1]).flatten) nt4
      have hok := flaw_ok ef
      have wl : wrong (width ll : Nat) [1, 1, 1, 1] = some (-1) := wrong_len (by show ¬ ((4 : Nat) : Int) = _; omega)
      refine ⟨p, t4, as, ll, [1, 1, 1, 1], rfl, (R3.ext e4).same (m1.trans m4), ef, (show IntsAt _ t4 [1, 1, 1, 1] from upd_same), (by show 4 ≤ 100; decide), fun k hk => (caught T.fB fun H9 u2 s9 hu2 => ?_).refd (by decide), fun z => by rw [wl] at z; cases z⟩
      have hu9 := s9 _ _ ((m1.trans m4) _ _ (e4 _ _ hu (fun ps z => by cases z)))
      refine ⟨sz_2 _ _, fun l1 nl1 => ⟨sz_2 _ _, fun v1 nv1 => ⟨sz_2 _ _, fun v2 nv2 => ⟨sz_2 _ _, fun l2 nl2 => ?_⟩⟩⟩⟩
      have n1 := same_new (o := .lst [.ref u, .ref u2]) nl1
      have n2 := same_new (o := .tup [.non, .str "too many"]) nv1
      have n3 := same_new (o := .tup [.non, .str "bad bill"]) nv2
      have n4 := same_new (o := .lst [.ref v1, .ref v2]) nl2
      have n24 := n2.trans (n3.trans n4)
      have n14 := n1.trans n24
      have dw : ∀ {H' : Hp} {x : Addr} {wd : Str}, H' x = some (.tup [.non, .str wd]) → Dp K H' (.ref x) (.tuple [.none, .str wd]) := fun h => .tup (SqT.of h) (.cons .non (.cons (.str _) .nil))
      refine ⟨.list [.tuple [.none, .str "too many"], .tuple [.none, .str "bad bill"]], .list [.tuple [.none, .str "too many"], .tuple [.none, .str "bad bill"]], .lst (SqL.of (n24 _ _ upd_same)) (.cons (dw (n14 _ _ hu9)) (.cons (dw (n14 _ _ hu2)) .nil)), .lst (SqL.of upd_same) (.cons (dw ((n3.trans n4) _ _ upd_same)) (.cons (dw (n4 _ _ upd_same)) .nil)), by decide +kernel, by decide +kernel, ?_⟩
      have ee : PyData.eqv (.list [.tuple [.none, .str "too many"], .tuple [.none, .str "bad bill"]]) (.list [.tuple [.none, .str "too many"], .tuple [.none, .str "bad bill"]]) = true := by simp [PyData.eqv, PyData.eqvAll]
      rw [ee]
      exact q _

    obtain ⟨t, h1, h2⟩ := build
    exact ⟨t, h1.nox, h2⟩
end
end HL

namespace HL
open PySem PySem.Spec PyProof.Rows L2
open LamX (Tabs TabS TabB LawAtS)
/-- whether an error of the class T is what an except clause of S takes -/
theorem exm_by {K : PySem.W.Frag} {S T : Addr} {b : Bool} (h1 : PySem.W.subIn K (.ref S) (.type "BaseException") = some true) (h2 : PySem.W.isClsIn K S = true) (h3 : PySem.W.typeIn K (.ref S) = some (.type "type"))
    (h4 : PySem.W.subIn K (.ref T) (.ref S) = some b) : PySem.W.exmOne K (.ref T) (.ref S) = some b := by
  have e1 : (PySem.W.subIn K (.ref S) (.type "BaseException") == some true) = true := by rw [h1] <;> rfl
  have e2 : ((PySem.W.clsIn K S).isSome && PySem.W.typeIn K (.ref S) == some (.type "type")) = true := by
    have h2' : (PySem.W.clsIn K S).isSome = true := h2
    rw [h2', h3] <;> rfl
  show (if (PySem.W.subIn K (.ref S) (.type "BaseException") == some true) = true then (if ((PySem.W.clsIn K S).isSome && PySem.W.typeIn K (.ref S) == some (.type "type")) = true then PySem.W.subIn K (.ref T) (.ref S) else none) else none) = some b
  rw [if_pos e1, if_pos e2]
  exact h4
theorem rev_vals {zs : List V} {ws : List Value} (r : Vals zs ws) : Vals zs.reverse ws.reverse := by
  induction r with
  | nil => exact .nil
  | cons r t ih =>
    rw [List.reverse_cons, List.reverse_cons]
    exact ih.append (.cons r .nil)
theorem all_mk {l : PySem.W.OpenLaw} {w : World} {K : PySem.W.Frag} {h : Heap} {mg : Str → Option Value} {fa : Addr} (X : K.In h) (G : h.Ns mainGlobals mg) (hfa : mg "law" = some (.ref fa))
    {f0 : Addr} {oc0 kV0 dc0 pm0 cd0 ct0 : Value} {od0 an0 : Option Addr} {sl0 : Array (Option Value)}
    {f1 : Addr} {oc1 kV1 dc1 pm1 cd1 ct1 : Value} {od1 an1 : Option Addr} {sl1 : Array (Option Value)}
    {f2 : Addr} {oc2 kV2 dc2 pm2 cd2 ct2 : Value} {od2 an2 : Option Addr} {sl2 : Array (Option Value)}
    {f3 : Addr} {oc3 kV3 dc3 pm3 cd3 ct3 : Value} {od3 an3 : Option Addr} {sl3 : Array (Option Value)}
    {f4 : Addr} {oc4 kV4 dc4 pm4 cd4 ct4 : Value} {od4 an4 : Option Addr} {sl4 : Array (Option Value)}
    {f5 : Addr} {oc5 kV5 dc5 pm5 cd5 ct5 : Value} {od5 an5 : Option Addr} {sl5 : Array (Option Value)}
    {f6 : Addr} {oc6 kV6 dc6 pm6 cd6 ct6 : Value} {od6 an6 : Option Addr} {sl6 : Array (Option Value)}
    {f7 : Addr} {oc7 kV7 dc7 pm7 cd7 ct7 : Value} {od7 an7 : Option Addr} {sl7 : Array (Option Value)}
    {f8 : Addr} {oc8 kV8 dc8 pm8 cd8 ct8 : Value} {od8 an8 : Option Addr} {sl8 : Array (Option Value)}
    {f9 : Addr} {oc9 kV9 dc9 pm9 cd9 ct9 : Value} {od9 an9 : Option Addr} {sl9 : Array (Option Value)}
    {f10 : Addr} {oc10 kV10 dc10 pm10 cd10 ct10 : Value} {od10 an10 : Option Addr} {sl10 : Array (Option Value)}
    {f11 : Addr} {oc11 kV11 dc11 pm11 cd11 ct11 : Value} {od11 an11 : Option Addr} {sl11 : Array (Option Value)}
    {f12 : Addr} {oc12 kV12 dc12 pm12 cd12 ct12 : Value} {od12 an12 : Option Addr} {sl12 : Array (Option Value)}
    {f13 : Addr} {oc13 kV13 dc13 pm13 cd13 ct13 : Value} {od13 an13 : Option Addr} {sl13 : Array (Option Value)}
    {f14 : Addr} {oc14 kV14 dc14 pm14 cd14 ct14 : Value} {od14 an14 : Option Addr} {sl14 : Array (Option Value)}
    {f15 : Addr} {oc15 kV15 dc15 pm15 cd15 ct15 : Value} {od15 an15 : Option Addr} {sl15 : Array (Option Value)}
    {f16 : Addr} {oc16 kV16 dc16 pm16 cd16 ct16 : Value} {od16 an16 : Option Addr} {sl16 : Array (Option Value)}
    {f17 : Addr} {oc17 kV17 dc17 pm17 cd17 ct17 : Value} {od17 an17 : Option Addr} {sl17 : Array (Option Value)}
    {f18 : Addr} {oc18 kV18 dc18 pm18 cd18 ct18 : Value} {od18 an18 : Option Addr} {sl18 : Array (Option Value)}
    {f19 : Addr} {oc19 kV19 dc19 pm19 cd19 ct19 : Value} {od19 an19 : Option Addr} {sl19 : Array (Option Value)}
    {f20 : Addr} {oc20 kV20 dc20 pm20 cd20 ct20 : Value} {od20 an20 : Option Addr} {sl20 : Array (Option Value)}
    {f21 : Addr} {oc21 kV21 dc21 pm21 cd21 ct21 : Value} {od21 an21 : Option Addr} {sl21 : Array (Option Value)}
    {f22 : Addr} {oc22 kV22 dc22 pm22 cd22 ct22 : Value} {od22 an22 : Option Addr} {sl22 : Array (Option Value)}
    {f23 : Addr} {oc23 kV23 dc23 pm23 cd23 ct23 : Value} {od23 an23 : Option Addr} {sl23 : Array (Option Value)}
    {f24 : Addr} {oc24 kV24 dc24 pm24 cd24 ct24 : Value} {od24 an24 : Option Addr} {sl24 : Array (Option Value)}
    {f25 : Addr} {oc25 kV25 dc25 pm25 cd25 ct25 : Value} {od25 an25 : Option Addr} {sl25 : Array (Option Value)}
    {f26 : Addr} {oc26 kV26 dc26 pm26 cd26 ct26 : Value} {od26 an26 : Option Addr} {sl26 : Array (Option Value)}
    {f27 : Addr} {oc27 kV27 dc27 pm27 cd27 ct27 : Value} {od27 an27 : Option Addr} {sl27 : Array (Option Value)}
    {f28 : Addr} {oc28 kV28 dc28 pm28 cd28 ct28 : Value} {od28 an28 : Option Addr} {sl28 : Array (Option Value)}
    {f29 : Addr} {oc29 kV29 dc29 pm29 cd29 ct29 : Value} {od29 an29 : Option Addr} {sl29 : Array (Option Value)}
    {fLe TLe : Addr} {ocLe kVLe dcLe pmLe cdLe ctLe ocTLe : Value} {odLe anLe odTLe : Option Addr} {slLe slTLe : Array (Option Value)} {tkLe : Tok} {nTLe : Nat}
    {fFl DFl : Addr} {ocFl dcFl pmFl cdFl ctFl : Value} {odFl anFl : Option Addr} {slFl : Array (Option Value)} {tkFl : Tok}
    {fL cL Pt : Addr} {ocL kVL dcL pmL ctL : Value} {odL anL : Option Addr} {slL : Array (Option Value)}
    {C1 CE1 fI1 N1 : Addr} {nm1 q1 : Str} {bs1 : List Value} {sn1 : List Str} {sub1 : List Value} {ab1 : Bool} {col1 : Option Bool} {dd1 : Option Addr} {m01 m11 m21 m31 m51 : Option Value} {ocI1 kVI1 dcI1 pmI1 cdI1 ctI1 : Value} {odI1 anI1 : Option Addr} {slI1 : Array (Option Value)}
    {C2 CE2 fI2 N2 : Addr} {nm2 q2 : Str} {bs2 : List Value} {sn2 : List Str} {sub2 : List Value} {ab2 : Bool} {col2 : Option Bool} {dd2 : Option Addr} {m02 m12 m22 m32 m52 : Option Value} {ocI2 kVI2 dcI2 pmI2 cdI2 ctI2 : Value} {odI2 anI2 : Option Addr} {slI2 : Array (Option Value)}
    {E1 E2 E3 : Addr}
    {t6 : Tok}
    {t5 : Tok}
    {t3 : Tok}
    {t30 : Tok}
    {t4000 : Tok}
    (hTab : h.get? Pt = some (PySem.W.tabObj #[]))
    (a0 : PySem.W.nsIn K mainGlobals "is_hold" = some (some (.ref f0)))
    (l0 : K.lookup f0 = some ⟨oc0, od0, .func (PySem.W.fnOf "is_hold" "is_hold" (defArgs sIsHold) (defBody sIsHold) (defScope sIsHold) .none kV0 dc0 pm0 an0 cd0 ct0), sl0⟩)
    (c0 : PySem.W.codeIn K cd0 "is_hold" = true)
    (k0 : PySem.W.keepIn K (.ref f0) = true)
    (a1 : PySem.W.nsIn K mainGlobals "look_lot" = some (some (.ref f1)))
    (l1 : K.lookup f1 = some ⟨oc1, od1, .func (PySem.W.fnOf "look_lot" "look_lot" (defArgs sLook) (defBody sLook) (defScope sLook) .none kV1 dc1 pm1 an1 cd1 ct1), sl1⟩)
    (c1 : PySem.W.codeIn K cd1 "look_lot" = true)
    (k1 : PySem.W.keepIn K (.ref f1) = true)
    (a2 : PySem.W.nsIn K mainGlobals "goods_of" = some (some (.ref f2)))
    (l2 : K.lookup f2 = some ⟨oc2, od2, .func (PySem.W.fnOf "goods_of" "goods_of" (defArgs sGoods) (defBody sGoods) (defScope sGoods) .none kV2 dc2 pm2 an2 cd2 ct2), sl2⟩)
    (c2 : PySem.W.codeIn K cd2 "goods_of" = true)
    (k2 : PySem.W.keepIn K (.ref f2) = true)
    (a3 : PySem.W.nsIn K mainGlobals "first_wrong" = some (some (.ref f3)))
    (l3 : K.lookup f3 = some ⟨oc3, od3, .func (PySem.W.fnOf "first_wrong" "first_wrong" (defArgs sFirst) (defBody sFirst) (defScope sFirst) .none kV3 dc3 pm3 an3 cd3 ct3), sl3⟩)
    (c3 : PySem.W.codeIn K cd3 "first_wrong" = true)
    (k3 : PySem.W.keepIn K (.ref f3) = true)
    (a4 : PySem.W.nsIn K mainGlobals "look_bill" = some (some (.ref f4)))
    (l4 : K.lookup f4 = some ⟨oc4, od4, .func (PySem.W.fnOf "look_bill" "look_bill" (defArgs sLookBill) (defBody sLookBill) (defScope sLookBill) .none kV4 dc4 pm4 an4 cd4 ct4), sl4⟩)
    (c4 : PySem.W.codeIn K cd4 "look_bill" = true)
    (k4 : PySem.W.keepIn K (.ref f4) = true)
    (a5 : PySem.W.nsIn K mainGlobals "marks" = some (some (.ref f5)))
    (l5 : K.lookup f5 = some ⟨oc5, od5, .func (PySem.W.fnOf "marks" "marks" (defArgs sMarks) (defBody sMarks) (defScope sMarks) .none kV5 dc5 pm5 an5 cd5 ct5), sl5⟩)
    (c5 : PySem.W.codeIn K cd5 "marks" = true)
    (k5 : PySem.W.keepIn K (.ref f5) = true)
    (a6 : PySem.W.nsIn K mainGlobals "look_box" = some (some (.ref f6)))
    (l6 : K.lookup f6 = some ⟨oc6, od6, .func (PySem.W.fnOf "look_box" "look_box" (defArgs sBox) (defBody sBox) (defScope sBox) .none kV6 dc6 pm6 an6 cd6 ct6), sl6⟩)
    (c6 : PySem.W.codeIn K cd6 "look_box" = true)
    (k6 : PySem.W.keepIn K (.ref f6) = true)
    (a7 : PySem.W.nsIn K mainGlobals "look_both" = some (some (.ref f7)))
    (l7 : K.lookup f7 = some ⟨oc7, od7, .func (PySem.W.fnOf "look_both" "look_both" (defArgs sBoth) (defBody sBoth) (defScope sBoth) .none kV7 dc7 pm7 an7 cd7 ct7), sl7⟩)
    (c7 : PySem.W.codeIn K cd7 "look_both" = true)
    (k7 : PySem.W.keepIn K (.ref f7) = true)
    (a8 : PySem.W.nsIn K mainGlobals "cells_of" = some (some (.ref f8)))
    (l8 : K.lookup f8 = some ⟨oc8, od8, .func (PySem.W.fnOf "cells_of" "cells_of" (defArgs sCells) (defBody sCells) (defScope sCells) .none kV8 dc8 pm8 an8 cd8 ct8), sl8⟩)
    (c8 : PySem.W.codeIn K cd8 "cells_of" = true)
    (k8 : PySem.W.keepIn K (.ref f8) = true)
    (a9 : PySem.W.nsIn K mainGlobals "with_one_more" = some (some (.ref f9)))
    (l9 : K.lookup f9 = some ⟨oc9, od9, .func (PySem.W.fnOf "with_one_more" "with_one_more" (defArgs sOneMore) (defBody sOneMore) (defScope sOneMore) .none kV9 dc9 pm9 an9 cd9 ct9), sl9⟩)
    (c9 : PySem.W.codeIn K cd9 "with_one_more" = true)
    (k9 : PySem.W.keepIn K (.ref f9) = true)
    (a10 : PySem.W.nsIn K mainGlobals "tables_of" = some (some (.ref f10)))
    (l10 : K.lookup f10 = some ⟨oc10, od10, .func (PySem.W.fnOf "tables_of" "tables_of" (defArgs sTables) (defBody sTables) (defScope sTables) .none kV10 dc10 pm10 an10 cd10 ct10), sl10⟩)
    (c10 : PySem.W.codeIn K cd10 "tables_of" = true)
    (k10 : PySem.W.keepIn K (.ref f10) = true)
    (a11 : PySem.W.nsIn K mainGlobals "takings" = some (some (.ref f11)))
    (l11 : K.lookup f11 = some ⟨oc11, od11, .func (PySem.W.fnOf "takings" "takings" (defArgs sTakings) (defBody sTakings) (defScope sTakings) .none kV11 dc11 pm11 an11 cd11 ct11), sl11⟩)
    (c11 : PySem.W.codeIn K cd11 "takings" = true)
    (k11 : PySem.W.keepIn K (.ref f11) = true)
    (a12 : PySem.W.nsIn K mainGlobals "joined" = some (some (.ref f12)))
    (l12 : K.lookup f12 = some ⟨oc12, od12, .func (PySem.W.fnOf "joined" "joined" (defArgs sJoined) (defBody sJoined) (defScope sJoined) .none kV12 dc12 pm12 an12 cd12 ct12), sl12⟩)
    (c12 : PySem.W.codeIn K cd12 "joined" = true)
    (k12 : PySem.W.keepIn K (.ref f12) = true)
    (a13 : PySem.W.nsIn K mainGlobals "is_among" = some (some (.ref f13)))
    (l13 : K.lookup f13 = some ⟨oc13, od13, .func (PySem.W.fnOf "is_among" "is_among" (defArgs sAmong) (defBody sAmong) (defScope sAmong) .none kV13 dc13 pm13 an13 cd13 ct13), sl13⟩)
    (c13 : PySem.W.codeIn K cd13 "is_among" = true)
    (k13 : PySem.W.keepIn K (.ref f13) = true)
    (a14 : PySem.W.nsIn K mainGlobals "lumps" = some (some (.ref f14)))
    (l14 : K.lookup f14 = some ⟨oc14, od14, .func (PySem.W.fnOf "lumps" "lumps" (defArgs sLumps) (defBody sLumps) (defScope sLumps) .none kV14 dc14 pm14 an14 cd14 ct14), sl14⟩)
    (c14 : PySem.W.codeIn K cd14 "lumps" = true)
    (k14 : PySem.W.keepIn K (.ref f14) = true)
    (a15 : PySem.W.nsIn K mainGlobals "_law_feed" = some (some (.ref f15)))
    (l15 : K.lookup f15 = some ⟨oc15, od15, .func (PySem.W.fnOf "_law_feed" "_law_feed" (defArgs sFeed) (defBody sFeed) (defScope sFeed) .none kV15 dc15 pm15 an15 cd15 ct15), sl15⟩)
    (c15 : PySem.W.codeIn K cd15 "_law_feed" = true)
    (k15 : PySem.W.keepIn K (.ref f15) = true)
    (a16 : PySem.W.nsIn K mainGlobals "_law_draw" = some (some (.ref f16)))
    (l16 : K.lookup f16 = some ⟨oc16, od16, .func (PySem.W.fnOf "_law_draw" "_law_draw" (defArgs sDraw) (defBody sDraw) (defScope sDraw) .none kV16 dc16 pm16 an16 cd16 ct16), sl16⟩)
    (c16 : PySem.W.codeIn K cd16 "_law_draw" = true)
    (k16 : PySem.W.keepIn K (.ref f16) = true)
    (a17 : PySem.W.nsIn K mainGlobals "_law_same" = some (some (.ref f17)))
    (l17 : K.lookup f17 = some ⟨oc17, od17, .func (PySem.W.fnOf "_law_same" "_law_same" (defArgs sSame) (defBody sSame) (defScope sSame) .none kV17 dc17 pm17 an17 cd17 ct17), sl17⟩)
    (c17 : PySem.W.codeIn K cd17 "_law_same" = true)
    (k17 : PySem.W.keepIn K (.ref f17) = true)
    (a18 : PySem.W.nsIn K mainGlobals "_law_word" = some (some (.ref f18)))
    (l18 : K.lookup f18 = some ⟨oc18, od18, .func (PySem.W.fnOf "_law_word" "_law_word" (defArgs sWord) (defBody sWord) (defScope sWord) .none kV18 dc18 pm18 an18 cd18 ct18), sl18⟩)
    (c18 : PySem.W.codeIn K cd18 "_law_word" = true)
    (k18 : PySem.W.keepIn K (.ref f18) = true)
    (a19 : PySem.W.nsIn K mainGlobals "_law_hold" = some (some (.ref f19)))
    (l19 : K.lookup f19 = some ⟨oc19, od19, .func (PySem.W.fnOf "_law_hold" "_law_hold" (defArgs sHold) (defBody sHold) (defScope sHold) .none kV19 dc19 pm19 an19 cd19 ct19), sl19⟩)
    (c19 : PySem.W.codeIn K cd19 "_law_hold" = true)
    (k19 : PySem.W.keepIn K (.ref f19) = true)
    (a20 : PySem.W.nsIn K mainGlobals "_law_lot" = some (some (.ref f20)))
    (l20 : K.lookup f20 = some ⟨oc20, od20, .func (PySem.W.fnOf "_law_lot" "_law_lot" (defArgs sLot) (defBody sLot) (defScope sLot) .none kV20 dc20 pm20 an20 cd20 ct20), sl20⟩)
    (c20 : PySem.W.codeIn K cd20 "_law_lot" = true)
    (k20 : PySem.W.keepIn K (.ref f20) = true)
    (a21 : PySem.W.nsIn K mainGlobals "_law_plain_lot" = some (some (.ref f21)))
    (l21 : K.lookup f21 = some ⟨oc21, od21, .func (PySem.W.fnOf "_law_plain_lot" "_law_plain_lot" (defArgs sPlain) (defBody sPlain) (defScope sPlain) .none kV21 dc21 pm21 an21 cd21 ct21), sl21⟩)
    (c21 : PySem.W.codeIn K cd21 "_law_plain_lot" = true)
    (k21 : PySem.W.keepIn K (.ref f21) = true)
    (a22 : PySem.W.nsIn K mainGlobals "_law_small_bill" = some (some (.ref f22)))
    (l22 : K.lookup f22 = some ⟨oc22, od22, .func (PySem.W.fnOf "_law_small_bill" "_law_small_bill" (defArgs sSmallBill) (defBody sSmallBill) (defScope sSmallBill) .none kV22 dc22 pm22 an22 cd22 ct22), sl22⟩)
    (c22 : PySem.W.codeIn K cd22 "_law_small_bill" = true)
    (k22 : PySem.W.keepIn K (.ref f22) = true)
    (a23 : PySem.W.nsIn K mainGlobals "_law_minus" = some (some (.ref f23)))
    (l23 : K.lookup f23 = some ⟨oc23, od23, .func (PySem.W.fnOf "_law_minus" "_law_minus" (defArgs sMinus) (defBody sMinus) (defScope sMinus) .none kV23 dc23 pm23 an23 cd23 ct23), sl23⟩)
    (c23 : PySem.W.codeIn K cd23 "_law_minus" = true)
    (k23 : PySem.W.keepIn K (.ref f23) = true)
    (a24 : PySem.W.nsIn K mainGlobals "_law_times" = some (some (.ref f24)))
    (l24 : K.lookup f24 = some ⟨oc24, od24, .func (PySem.W.fnOf "_law_times" "_law_times" (defArgs sTimes) (defBody sTimes) (defScope sTimes) .none kV24 dc24 pm24 an24 cd24 ct24), sl24⟩)
    (c24 : PySem.W.codeIn K cd24 "_law_times" = true)
    (k24 : PySem.W.keepIn K (.ref f24) = true)
    (a25 : PySem.W.nsIn K mainGlobals "_law_within" = some (some (.ref f25)))
    (l25 : K.lookup f25 = some ⟨oc25, od25, .func (PySem.W.fnOf "_law_within" "_law_within" (defArgs sWithin) (defBody sWithin) (defScope sWithin) .none kV25 dc25 pm25 an25 cd25 ct25), sl25⟩)
    (c25 : PySem.W.codeIn K cd25 "_law_within" = true)
    (k25 : PySem.W.keepIn K (.ref f25) = true)
    (a26 : PySem.W.nsIn K mainGlobals "_law_loads" = some (some (.ref f26)))
    (l26 : K.lookup f26 = some ⟨oc26, od26, .func (PySem.W.fnOf "_law_loads" "_law_loads" (defArgs sLoads) (defBody sLoads) (defScope sLoads) .none kV26 dc26 pm26 an26 cd26 ct26), sl26⟩)
    (c26 : PySem.W.codeIn K cd26 "_law_loads" = true)
    (k26 : PySem.W.keepIn K (.ref f26) = true)
    (a27 : PySem.W.nsIn K mainGlobals "_law_all" = some (some (.ref f27)))
    (l27 : K.lookup f27 = some ⟨oc27, od27, .func (PySem.W.fnOf "_law_all" "_law_all" (defArgs sAll) (defBody sAll) (defScope sAll) .none kV27 dc27 pm27 an27 cd27 ct27), sl27⟩)
    (c27 : PySem.W.codeIn K cd27 "_law_all" = true)
    (k27 : PySem.W.keepIn K (.ref f27) = true)
    (a28 : PySem.W.nsIn K mainGlobals "_law_share" = some (some (.ref f28)))
    (l28 : K.lookup f28 = some ⟨oc28, od28, .func (PySem.W.fnOf "_law_share" "_law_share" (defArgs sShare) (defBody sShare) (defScope sShare) .none kV28 dc28 pm28 an28 cd28 ct28), sl28⟩)
    (c28 : PySem.W.codeIn K cd28 "_law_share" = true)
    (k28 : PySem.W.keepIn K (.ref f28) = true)
    (a29 : PySem.W.nsIn K mainGlobals "_law_lumps" = some (some (.ref f29)))
    (l29 : K.lookup f29 = some ⟨oc29, od29, .func (PySem.W.fnOf "_law_lumps" "_law_lumps" (defArgs sLLumps) (defBody sLLumps) (defScope sLLumps) .none kV29 dc29 pm29 an29 cd29 ct29), sl29⟩)
    (c29 : PySem.W.codeIn K cd29 "_law_lumps" = true)
    (k29 : PySem.W.keepIn K (.ref f29) = true)
    (aLe : PySem.W.nsIn K mainGlobals "less" = some (some (.ref fLe)))
    (lLe : K.lookup fLe = some ⟨ocLe, odLe, .func (PySem.W.fnOf "less" "less" (defArgs sLess) (defBody sLess) (defScope sLess) (.ref TLe) kVLe dcLe pmLe anLe cdLe ctLe), slLe⟩)
    (cLe : PySem.W.codeIn K cdLe "less" = true)
    (kLe : PySem.W.keepIn K (.ref fLe) = true)
    (lTLe : K.lookup TLe = some ⟨ocTLe, odTLe, .seq #[.int 1 tkLe] nTLe, slTLe⟩)
    (aFl : PySem.W.nsIn K mainGlobals "fillings" = some (some (.ref fFl)))
    (lFl : K.lookup fFl = some ⟨ocFl, odFl, .func (PySem.W.fnOf "fillings" "fillings" (defArgs sFillings) (defBody sFillings) (defScope sFillings) .none (.ref DFl) dcFl pmFl anFl cdFl ctFl), slFl⟩)
    (cFl : PySem.W.codeIn K cdFl "fillings" = true)
    (kFl : PySem.W.keepIn K (.ref fFl) = true)
    (nDFl : PySem.W.nsIn K DFl "most" = some (some (.int (400) tkFl)))
    (aL : PySem.W.nsIn K mainGlobals "law" = some (some (.ref fL)))
    (lL : K.lookup fL = some ⟨ocL, odL, .func (PySem.W.fnOf "law" "law" (defArgs sLaw) (defBody sLaw) (defScope sLaw) .none kVL dcL pmL anL (.ref cL) ctL), slL⟩)
    (cdL : PySem.W.codeIn K (.ref cL) "law" = true)
    (nP : K.lookup Pt = none)
    (hd : PySem.W.codeHdIn K cL Pt = true)
    (aC1 : PySem.W.nsIn K mainGlobals "BadBill" = some (some (.ref C1)))
    (xL1 : K.lookup C1 = some (excClassObj nm1 q1 C1 N1 bs1 [.ref CE1, .type "ValueError", .type "Exception", .type "BaseException", .type "object"] true sn1 sub1 ab1 col1 dd1 m01 m11 m21 m31 m51 "ValueError.__new__"))
    (sa1 : PySem.W.findIn K (.ref C1) "__setattr__" = some (some (.builtin "object.__setattr__")))
    (ga1 : PySem.W.findIn K (.ref C1) "__getattribute__" = some (some (.builtin "BaseException.__getattribute__")))
    (gg1 : PySem.W.findIn K (.ref C1) "__getattr__" = some none)
    (nW1 : PySem.W.findIn K (.ref C1) "word" = some none)
    (nF1 : PySem.W.findIn K (.ref C1) "good" = some none)
    (aI1 : PySem.W.findIn K (.ref C1) "__init__" = some (some (.ref fI1)))
    (tI1 : PySem.W.typeIn K (.ref fI1) = some (.type "function"))
    (lI1 : K.lookup fI1 = some ⟨ocI1, odI1, .func (PySem.W.fnOf "__init__" "BadBill.__init__" (defArgs sBillInit) (defBody sBillInit) (defScope sBillInit) .none kVI1 dcI1 pmI1 anI1 cdI1 ctI1), slI1⟩)
    (cI1 : PySem.W.codeIn K cdI1 "BadBill.__init__" = true)
    (kI1 : PySem.W.keepIn K (.ref fI1) = true)
    (kC1 : PySem.W.keepIn K (.ref C1) = true)
    (eC1 : PySem.W.subIn K (.ref C1) (.type "BaseException") = some true)
    (tC1 : PySem.W.typeIn K (.ref C1) = some (.type "type"))
    (hC1 : PySem.W.hasDictIn K C1 = true)
    (iC1 : PySem.W.isClsIn K C1 = true)
    (aC2 : PySem.W.nsIn K mainGlobals "TooMany" = some (some (.ref C2)))
    (xL2 : K.lookup C2 = some (excClassObj nm2 q2 C2 N2 bs2 [.ref CE2, .type "ValueError", .type "Exception", .type "BaseException", .type "object"] true sn2 sub2 ab2 col2 dd2 m02 m12 m22 m32 m52 "ValueError.__new__"))
    (sa2 : PySem.W.findIn K (.ref C2) "__setattr__" = some (some (.builtin "object.__setattr__")))
    (ga2 : PySem.W.findIn K (.ref C2) "__getattribute__" = some (some (.builtin "BaseException.__getattribute__")))
    (gg2 : PySem.W.findIn K (.ref C2) "__getattr__" = some none)
    (nW2 : PySem.W.findIn K (.ref C2) "word" = some none)
    (nF2 : PySem.W.findIn K (.ref C2) "most" = some none)
    (aI2 : PySem.W.findIn K (.ref C2) "__init__" = some (some (.ref fI2)))
    (tI2 : PySem.W.typeIn K (.ref fI2) = some (.type "function"))
    (lI2 : K.lookup fI2 = some ⟨ocI2, odI2, .func (PySem.W.fnOf "__init__" "TooMany.__init__" (defArgs sManyInit) (defBody sManyInit) (defScope sManyInit) .none kVI2 dcI2 pmI2 anI2 cdI2 ctI2), slI2⟩)
    (cI2 : PySem.W.codeIn K cdI2 "TooMany.__init__" = true)
    (kI2 : PySem.W.keepIn K (.ref fI2) = true)
    (kC2 : PySem.W.keepIn K (.ref C2) = true)
    (eC2 : PySem.W.subIn K (.ref C2) (.type "BaseException") = some true)
    (tC2 : PySem.W.typeIn K (.ref C2) = some (.type "type"))
    (hC2 : PySem.W.hasDictIn K C2 = true)
    (iC2 : PySem.W.isClsIn K C2 = true)
    (aE1 : PySem.W.nsIn K mainGlobals "LotError" = some (some (.ref E1)))
    (aE2 : PySem.W.nsIn K mainGlobals "Missing" = some (some (.ref E2)))
    (aE3 : PySem.W.nsIn K mainGlobals "NothingLeft" = some (some (.ref E3)))
    (eE1 : PySem.W.subIn K (.ref E1) (.type "BaseException") = some true)
    (iE1 : PySem.W.isClsIn K E1 = true)
    (tE1 : PySem.W.typeIn K (.ref E1) = some (.type "type"))
    (s1E : PySem.W.subIn K (.ref C1) (.ref E1) = some true)
    (s2E : PySem.W.subIn K (.ref C2) (.ref E1) = some true)
    (v6 : PySem.W.nsIn K mainGlobals "MOST_HOLD" = some (some (.int 6 t6)))
    (v5 : PySem.W.nsIn K mainGlobals "MOST_KINDS" = some (some (.int 5 t5)))
    (v3 : PySem.W.nsIn K mainGlobals "MOST_GOODS" = some (some (.int 3 t3)))
    (v30 : PySem.W.nsIn K mainGlobals "GREAT" = some (some (.int G30 t30)))
    (v4000 : PySem.W.nsIn K mainGlobals "MOST_BOX" = some (some (.int 4000 t4000)))
    (z_len : PySem.W.nsIn K mainGlobals "len" = some none)
    (z_list : PySem.W.nsIn K mainGlobals "list" = some none)
    (z_tuple : PySem.W.nsIn K mainGlobals "tuple" = some none)
    (z_dict : PySem.W.nsIn K mainGlobals "dict" = some none)
    (z_str : PySem.W.nsIn K mainGlobals "str" = some none)
    (z_int : PySem.W.nsIn K mainGlobals "int" = some none)
    (z_bool : PySem.W.nsIn K mainGlobals "bool" = some none)
    (z_isinstance : PySem.W.nsIn K mainGlobals "isinstance" = some none)
    (z_all : PySem.W.nsIn K mainGlobals "all" = some none)
    (z_range : PySem.W.nsIn K mainGlobals "range" = some none)
    (z_sum : PySem.W.nsIn K mainGlobals "sum" = some none)
    (z_min : PySem.W.nsIn K mainGlobals "min" = some none)
    (z_max : PySem.W.nsIn K mainGlobals "max" = some none)
    (z_enumerate : PySem.W.nsIn K mainGlobals "enumerate" = some none)
    (z_zip : PySem.W.nsIn K mainGlobals "zip" = some none)
    (z_sorted : PySem.W.nsIn K mainGlobals "sorted" = some none)
    (z_reversed : PySem.W.nsIn K mainGlobals "reversed" = some none)
    (z_any : PySem.W.nsIn K mainGlobals "any" = some none)
    : LawAtS l w K CX0 10 63 "_law_script" mg fa h := by
  have e := hfa.symm.trans (PySem.W.mg_of X G aL)
  cases e
  have F0 := fun_mk (st := sIsHold) l0 c0 k0
  have b0 := F0.binds (ps := ["hold", "goods"]) fun _ _ _ _ _ _ us hl => match us, hl with | [_, _], _ => rfl
  have g0 := PySem.W.mg_of X G a0
  have F1 := fun_mk (st := sLook) l1 c1 k1
  have b1 := F1.binds (ps := ["lot"]) fun _ _ _ _ _ _ us hl => match us, hl with | [_], _ => rfl
  have g1 := PySem.W.mg_of X G a1
  have F2 := fun_mk (st := sGoods) l2 c2 k2
  have b2 := F2.binds (ps := ["lot"]) fun _ _ _ _ _ _ us hl => match us, hl with | [_], _ => rfl
  have g2 := PySem.W.mg_of X G a2
  have F3 := fun_mk (st := sFirst) l3 c3 k3
  have b3 := F3.binds (ps := ["row", "many"]) fun _ _ _ _ _ _ us hl => match us, hl with | [_, _], _ => rfl
  have g3 := PySem.W.mg_of X G a3
  have F4 := fun_mk (st := sLookBill) l4 c4 k4
  have b4 := F4.binds (ps := ["lot", "bill"]) fun _ _ _ _ _ _ us hl => match us, hl with | [_, _], _ => rfl
  have g4 := PySem.W.mg_of X G a4
  have F5 := fun_mk (st := sMarks) l5 c5 k5
  have b5 := F5.binds (ps := ["row"]) fun _ _ _ _ _ _ us hl => match us, hl with | [_], _ => rfl
  have g5 := PySem.W.mg_of X G a5
  have F6 := fun_mk (st := sBox) l6 c6 k6
  have b6 := F6.binds (ps := ["bill"]) fun _ _ _ _ _ _ us hl => match us, hl with | [_], _ => rfl
  have g6 := PySem.W.mg_of X G a6
  have F7 := fun_mk (st := sBoth) l7 c7 k7
  have b7 := F7.binds (ps := ["lot", "bill"]) fun _ _ _ _ _ _ us hl => match us, hl with | [_, _], _ => rfl
  have g7 := PySem.W.mg_of X G a7
  have F8 := fun_mk (st := sCells) l8 c8 k8
  have b8 := F8.binds (ps := ["bill"]) fun _ _ _ _ _ _ us hl => match us, hl with | [_], _ => rfl
  have g8 := PySem.W.mg_of X G a8
  have F9 := fun_mk (st := sOneMore) l9 c9 k9
  have b9 := F9.binds (ps := ["cells", "table", "hold"]) fun _ _ _ _ _ _ us hl => match us, hl with | [_, _, _], _ => rfl
  have g9 := PySem.W.mg_of X G a9
  have F10 := fun_mk (st := sTables) l10 c10 k10
  have b10 := F10.binds (ps := ["lot", "bill"]) fun _ _ _ _ _ _ us hl => match us, hl with | [_, _], _ => rfl
  have g10 := PySem.W.mg_of X G a10
  have F11 := fun_mk (st := sTakings) l11 c11 k11
  have b11 := F11.binds (ps := ["bill", "hold"]) fun _ _ _ _ _ _ us hl => match us, hl with | [_, _], _ => rfl
  have g11 := PySem.W.mg_of X G a11
  have F12 := fun_mk (st := sJoined) l12 c12 k12
  have b12 := F12.binds (ps := ["groups", "kinds"]) fun _ _ _ _ _ _ us hl => match us, hl with | [_, _], _ => rfl
  have g12 := PySem.W.mg_of X G a12
  have F13 := fun_mk (st := sAmong) l13 c13 k13
  have b13 := F13.binds (ps := ["row", "kinds"]) fun _ _ _ _ _ _ us hl => match us, hl with | [_, _], _ => rfl
  have g13 := PySem.W.mg_of X G a13
  have F14 := fun_mk (st := sLumps) l14 c14 k14
  have b14 := F14.binds (ps := ["lot", "bill"]) fun _ _ _ _ _ _ us hl => match us, hl with | [_, _], _ => rfl
  have g14 := PySem.W.mg_of X G a14
  have F15 := fun_mk (st := sFeed) l15 c15 k15
  have b15 := F15.binds (ps := ["_law_script"]) fun _ _ _ _ _ _ us hl => match us, hl with | [_], _ => rfl
  have g15 := PySem.W.mg_of X G a15
  have F16 := fun_mk (st := sDraw) l16 c16 k16
  have b16 := F16.binds (ps := ["_law_feed_here", "_law_many"]) fun _ _ _ _ _ _ us hl => match us, hl with | [_, _], _ => rfl
  have g16 := PySem.W.mg_of X G a16
  have F17 := fun_mk (st := sSame) l17 c17 k17
  have b17 := F17.binds (ps := ["_law_found", "_law_due"]) fun _ _ _ _ _ _ us hl => match us, hl with | [_, _], _ => rfl
  have g17 := PySem.W.mg_of X G a17
  have F18 := fun_mk (st := sWord) l18 c18 k18
  have b18 := F18.binds (ps := ["_law_ask"]) fun _ _ _ _ _ _ us hl => match us, hl with | [_], _ => rfl
  have g18 := PySem.W.mg_of X G a18
  have F19 := fun_mk (st := sHold) l19 c19 k19
  have b19 := F19.binds (ps := ["_law_feed_here", "_law_goods", "_law_most"]) fun _ _ _ _ _ _ us hl => match us, hl with | [_, _, _], _ => rfl
  have g19 := PySem.W.mg_of X G a19
  have F20 := fun_mk (st := sLot) l20 c20 k20
  have b20 := F20.binds (ps := ["_law_feed_here", "_law_goods", "_law_kinds", "_law_most"]) fun _ _ _ _ _ _ us hl => match us, hl with | [_, _, _, _], _ => rfl
  have g20 := PySem.W.mg_of X G a20
  have F21 := fun_mk (st := sPlain) l21 c21 k21
  have b21 := F21.binds (ps := ["_law_feed_here"]) fun _ _ _ _ _ _ us hl => match us, hl with | [_], _ => rfl
  have g21 := PySem.W.mg_of X G a21
  have F22 := fun_mk (st := sSmallBill) l22 c22 k22
  have b22 := F22.binds (ps := ["_law_feed_here", "_law_mlot"]) fun _ _ _ _ _ _ us hl => match us, hl with | [_, _], _ => rfl
  have g22 := PySem.W.mg_of X G a22
  have F23 := fun_mk (st := sMinus) l23 c23 k23
  have b23 := F23.binds (ps := ["_law_one", "_law_other"]) fun _ _ _ _ _ _ us hl => match us, hl with | [_, _], _ => rfl
  have g23 := PySem.W.mg_of X G a23
  have F24 := fun_mk (st := sTimes) l24 c24 k24
  have b24 := F24.binds (ps := ["_law_row", "_law_many"]) fun _ _ _ _ _ _ us hl => match us, hl with | [_, _], _ => rfl
  have g24 := PySem.W.mg_of X G a24
  have F25 := fun_mk (st := sWithin) l25 c25 k25
  have b25 := F25.binds (ps := ["_law_one", "_law_other"]) fun _ _ _ _ _ _ us hl => match us, hl with | [_, _], _ => rfl
  have g25 := PySem.W.mg_of X G a25
  have F26 := fun_mk (st := sLoads) l26 c26 k26
  have b26 := F26.binds (ps := ["_law_mlot", "_law_mbill"]) fun _ _ _ _ _ _ us hl => match us, hl with | [_, _], _ => rfl
  have g26 := PySem.W.mg_of X G a26
  have F27 := fun_mk (st := sAll) l27 c27 k27
  have b27 := F27.binds (ps := ["_law_mlot", "_law_mbill"]) fun _ _ _ _ _ _ us hl => match us, hl with | [_, _], _ => rfl
  have g27 := PySem.W.mg_of X G a27
  have F28 := fun_mk (st := sShare) l28 c28 k28
  have b28 := F28.binds (ps := ["_law_one", "_law_other"]) fun _ _ _ _ _ _ us hl => match us, hl with | [_, _], _ => rfl
  have g28 := PySem.W.mg_of X G a28
  have F29 := fun_mk (st := sLLumps) l29 c29 k29
  have b29 := F29.binds (ps := ["_law_rows"]) fun _ _ _ _ _ _ us hl => match us, hl with | [_], _ => rfl
  have g29 := PySem.W.mg_of X G a29
  have kb1 : KBn K (PySem.W.fnOf "lumps" "lumps" (defArgs sLumps) (defBody sLumps) (defScope sLumps) .none kV14 dc14 pm14 an14 cd14 ct14) ["lot", "bill"] 0 ["bill", "lot"] (fun _ ws => ws.reverse) (fun _ zs => zs.reverse) := ⟨fun s us ws _ h1 h2 => by
    match us, ws, h1, h2 with
    | [], [w0, w1], _, _ => exact .of_eq rfl, fun _ r => rev_vals r⟩
  have FLe : FunD K "less" "less" (defArgs sLess) (defBody sLess) (defScope sLess) [.int 1] [] fLe (PySem.W.fnOf "less" "less" (defArgs sLess) (defBody sLess) (defScope sLess) (.ref TLe) kVLe dcLe pmLe anLe cdLe ctLe) :=
    ⟨⟨ocLe, odLe, .ref TLe, kVLe, dcLe, pmLe, anLe, cdLe, ctLe, slLe, rfl, lLe, cLe, .inr ⟨by simp, TLe, _, [.int 1 tkLe], nTLe, rfl, lTLe, rfl, .cons ⟨_, rfl⟩ .nil⟩, .inl rfl⟩, kLe⟩
  obtain ⟨dsLe, rdLe, bLe⟩ := FLe.binds1 (ps := ["row", "other", "times"]) 2 0 (by simp) rfl (fun T kV doc pm an cdv ct us its h1 h2 => by
    match us, its, h1, h2 with
    | [u0, u1], [k1], _, _ => exact ⟨_, rfl, rfl⟩)
  obtain ⟨ttLe, edLe⟩ : ∃ t, dsLe = [.int 1 t] := by
    cases rdLe with
    | cons r t =>
      cases t
      obtain ⟨q, rfl⟩ := r
      exact ⟨q, rfl⟩
  subst edLe
  obtain ⟨dzLe, rzLe, bzLe⟩ := FLe.binds1 (ps := ["row", "other", "times"]) 3 1 (by simp) rfl (fun T kV doc pm an cdv ct us its h1 h2 => by
    match us, its, h1, h2 with
    | [u0, u1, u2], [k1], _, _ => exact ⟨_, rfl, rfl⟩)
  have ezLe : dzLe = [] := by
    cases rzLe
    rfl
  subst ezLe
  have kwFl : KwdV K (.ref DFl) [("most", .int (400))] := .inr ⟨DFl, rfl, fun q hq => by
    rw [List.mem_singleton.mp hq]
    exact ⟨_, nDFl, ⟨_, rfl⟩⟩⟩
  have FFl : FunD K "fillings" "fillings" (defArgs sFillings) (defBody sFillings) (defScope sFillings) [] [("most", .int (400))] fFl (PySem.W.fnOf "fillings" "fillings" (defArgs sFillings) (defBody sFillings) (defScope sFillings) .none (.ref DFl) dcFl pmFl anFl cdFl ctFl) :=
    ⟨⟨ocFl, odFl, .none, .ref DFl, dcFl, pmFl, anFl, cdFl, ctFl, slFl, rfl, lFl, cFl, .inl ⟨rfl, rfl⟩, kwFl⟩, kFl⟩
  obtain ⟨dsFl, rdFl, bFl⟩ := FFl.binds0 (ps := ["lot", "bill", "most"]) 2 (by simp) rfl (fun D doc pm an cdv ct us ks h1 h2 => by
    match us, ks, h1, h2 with
    | [u0, u1], [k1], _, _ => exact ⟨_, _, _, _, _, _, rfl, rfl, rfl⟩)
  obtain ⟨ttFl, edFl⟩ : ∃ t, dsFl = [.int (400) t] := by
    cases rdFl with
    | cons r t =>
      cases t
      obtain ⟨q, rfl⟩ := r
      exact ⟨q, rfl⟩
  subst edFl
  have FI1 := fun_mk (st := sBillInit) lI1 cI1 kI1
  have bI1 := FI1.binds (ps := ["self", "good"]) fun _ _ _ _ _ _ us hl => match us, hl with | [_, _], _ => rfl
  have ox1 : OexC K C1 := ⟨⟨nm1, q1, N1, bs1, _, sn1, sub1, ab1, col1, dd1, m01, m11, m21, m31, m51, xL1, (show PySem.HandSPX.refsVE [.type "ValueError", .type "Exception", .type "BaseException", .type "object"] = true by decide +kernel)⟩, sa1, eC1, tC1, kC1⟩
  have kk1 : Cls2 K C1 "good" := ⟨ox1, nW1, nF1⟩
  have FI2 := fun_mk (st := sManyInit) lI2 cI2 kI2
  have bI2 := FI2.binds (ps := ["self", "most"]) fun _ _ _ _ _ _ us hl => match us, hl with | [_, _], _ => rfl
  have ox2 : OexC K C2 := ⟨⟨nm2, q2, N2, bs2, _, sn2, sub2, ab2, col2, dd2, m02, m12, m22, m32, m52, xL2, (show PySem.HandSPX.refsVE [.type "ValueError", .type "Exception", .type "BaseException", .type "object"] = true by decide +kernel)⟩, sa2, eC2, tC2, kC2⟩
  have kk2 : Cls2 K C2 "most" := ⟨ox2, nW2, nF2⟩
  have B : Bl mg := ⟨PySem.W.mg_none_of X G z_len, PySem.W.mg_none_of X G z_list, PySem.W.mg_none_of X G z_tuple, PySem.W.mg_none_of X G z_dict, PySem.W.mg_none_of X G z_str, PySem.W.mg_none_of X G z_int, PySem.W.mg_none_of X G z_bool, PySem.W.mg_none_of X G z_isinstance, PySem.W.mg_none_of X G z_all, PySem.W.mg_none_of X G z_range, PySem.W.mg_none_of X G z_sum, PySem.W.mg_none_of X G z_min, PySem.W.mg_none_of X G z_max, PySem.W.mg_none_of X G z_enumerate⟩
  have M : Consts mg := ⟨⟨_, PySem.W.mg_of X G v6⟩, ⟨_, PySem.W.mg_of X G v5⟩, ⟨_, PySem.W.mg_of X G v3⟩⟩
  refine ⟨PySem.W.fnOf "law" "law" (defArgs sLaw) (defBody sLaw) (defScope sLaw) .none kVL dcL pmL anL (.ref cL) ctL, [(cL, Pt)], spLaw K Pt, fun p hp => ?_, fun p hp => ?_, fun p hp => ?_, fun s u => .of_eq rfl, fun H a ns hl _ hH hS => ⟨a, ns, rfl, hS, hl, fun p hp => ?_, fun _ => rfl⟩, fun base KB GB TB => ?_⟩
  · rw [List.mem_singleton.mp hp]; exact hTab
  · rw [List.mem_singleton.mp hp]; exact nP
  · rw [List.mem_singleton.mp hp]; exact PySem.W.codeHd_of_K X hd
  · rw [List.mem_singleton.mp hp]; exact TabS.nil (hH (cL, Pt) List.mem_cons_self)
  · have Tb := TB (cL, Pt) List.mem_cons_self
    have bad1 : BadTxt l.prog w K mg base "BadBill" C1 "good" "bad bill" := ⟨kk1, PySem.W.mg_of X G aC1, fI1, _, aI1, tI1, ok_billInit FI1 kk1, bI1⟩
    have bad2 : BadTxt l.prog w K mg base "TooMany" C2 "most" "too many" := ⟨kk2, PySem.W.mg_of X G aC2, fI2, _, aI2, tI2, ok_manyInit FI2 kk2, bI2⟩
    have cDraw : Cal l.prog w K mg base CX0 1 "_law_draw" ["_law_feed_here", "_law_many"] spDraw := ⟨⟨f16, _, ok_draw F16 B.len, g16, k16, b16⟩⟩
    have cHold : Cal l.prog w K mg base CX0 2 "_law_hold" ["_law_feed_here", "_law_goods", "_law_most"] spHold := ⟨⟨f19, _, ok_hold F19 B cDraw, g19, k19, b19⟩⟩
    have cLot : Cal l.prog w K mg base CX0 3 "_law_lot" ["_law_feed_here", "_law_goods", "_law_kinds", "_law_most"] spLot := ⟨⟨f20, _, ok_lot F20 B cDraw cHold, g20, k20, b20⟩⟩
    have cIH : Cal l.prog w K mg base CX0 1 "is_hold" ["hold", "goods"] spIsHold := ⟨⟨f0, _, ok_isHold F0 B M, g0, k0, b0⟩⟩
    have cLk : Cal l.prog w K mg base CX0 2 "look_lot" ["lot"] spLook0 := ⟨⟨f1, _, ok_look0 F1 B M cIH, g1, k1, b1⟩⟩
    have cGo : Cal l.prog w K mg base CX0 3 "goods_of" ["lot"] spGoods0 := ⟨⟨f2, _, ok_goods0 F2 B cLk, g2, k2, b2⟩⟩
    have cFi : Cal l.prog w K mg base CX0 1 "first_wrong" ["row", "many"] (spFirst K) := ⟨⟨f3, _, ok_first F3 B ⟨_, PySem.W.mg_of X G v30⟩, g3, k3, b3⟩⟩
    have cLB : Cal l.prog w K mg base (L2.CX l.prog w) 4 "look_bill" ["lot", "bill"] (spLookBillR K C1) := ⟨⟨f4, _, ok_lookBillR F4 bad1 cFi cGo, g4, k4, b4⟩⟩
    have cBx : Cal l.prog w K mg base CX0 1 "look_box" ["bill"] spBox0 := ⟨⟨f6, _, ok_box0 F6 ⟨_, PySem.W.mg_of X G v4000⟩, g6, k6, b6⟩⟩
    have cBo : Cal l.prog w K mg base (L2.CX l.prog w) 5 "look_both" ["lot", "bill"] (spBothR C1) := ⟨⟨f7, _, ok_bothR F7 cLB cBx, g7, k7, b7⟩⟩
    have cCe : Cal l.prog w K mg base CX0 1 "cells_of" ["bill"] spCells := ⟨⟨f8, _, ok_cells F8 B, g8, k8, b8⟩⟩
    have cLe : CalLess l.prog w K mg base := ⟨fLe, _, ttLe, ok_less FLe B (PySem.W.mg_none_of X G z_zip), PySem.W.mg_of X G aLe, kLe, bLe⟩
    have cOM : Cal l.prog w K mg base CX0 2 "with_one_more" ["cells", "table", "hold"] spOneMore := ⟨⟨f9, _, ok_oneMore F9 cLe, g9, k9, b9⟩⟩
    have cTa : Cal l.prog w K mg base CX0 3 "tables_of" ["lot", "bill"] spTables := ⟨⟨f10, _, ok_tables F10 B (PySem.W.mg_none_of X G z_reversed) cCe cOM, g10, k10, b10⟩⟩
    have cTk : Cal l.prog w K mg base CX0 2 "takings" ["bill", "hold"] spTakings := ⟨⟨f11, _, ok_takings F11 B cLe, g11, k11, b11⟩⟩
    have cFl : CalFil l.prog w K mg base C1 C2 := ⟨fFl, _, ttFl, ok_fil FFl B bad2 cBo cTa cTk, PySem.W.mg_of X G aFl, kFl, bFl⟩
    have cMk : Cal l.prog w K mg base CX0 1 "marks" ["row"] spMarks := ⟨⟨f5, _, ok_marks F5 B, g5, k5, b5⟩⟩
    have cJo : Cal l.prog w K mg base CX0 1 "joined" ["groups", "kinds"] spJoined := ⟨⟨f12, _, ok_joined F12 B, g12, k12, b12⟩⟩
    have cAm : Cal l.prog w K mg base CX0 2 "is_among" ["row", "kinds"] spAmong := ⟨⟨f13, _, ok_among F13 cMk, g13, k13, b13⟩⟩
    have cSh : Cal l.prog w K mg base CX0 1 "_law_share" ["_law_one", "_law_other"] spShare := ⟨⟨f28, _, ok_share F28 B (PySem.W.mg_none_of X G z_any), g28, k28, b28⟩⟩
    have cMi : Cal l.prog w K mg base CX0 1 "_law_minus" ["_law_one", "_law_other"] spMinus := ⟨⟨f23, _, ok_minus F23 B, g23, k23, b23⟩⟩
    have cTi : Cal l.prog w K mg base CX0 1 "_law_times" ["_law_row", "_law_many"] spTimes := ⟨⟨f24, _, ok_times F24 B, g24, k24, b24⟩⟩
    have cWn : Cal l.prog w K mg base CX0 1 "_law_within" ["_law_one", "_law_other"] spWithin := ⟨⟨f25, _, ok_within F25 B, g25, k25, b25⟩⟩
    have cLd : Cal l.prog w K mg base CX0 2 "_law_loads" ["_law_mlot", "_law_mbill"] spLoads := ⟨⟨f26, _, ok_loads F26 cWn cTi cMi, g26, k26, b26⟩⟩
    have T : Txt l.prog w K mg base C1 C2 E1 E2 E3 := {
        B := B
        feed := ⟨⟨f15, _, ok_feed F15 B.list, g15, k15, b15⟩⟩
        same3 := ⟨⟨f17, _, ok_same F17 B g17 b17 3, g17, k17, b17⟩⟩
        plain := ⟨⟨f21, _, ok_plain F21 cDraw cLot, g21, k21, b21⟩⟩
        sb := ⟨⟨f22, _, ok_smallBill F22 B cDraw, g22, k22, b22⟩⟩
        al := ⟨⟨f27, _, ok_all F27 B cLd, g27, k27, b27⟩⟩
        ll := ⟨⟨f29, _, ok_ll F29 B (PySem.W.mg_none_of X G z_any) (PySem.W.mg_none_of X G z_sorted) cSh, g29, k29, b29⟩⟩
        lu := ⟨f14, _, ok_lum F14 B (PySem.W.mg_none_of X G z_sorted) cFl cJo cMk cAm, g14, k14, b14, kb1⟩
        word := ⟨f18, oc18, od18, kV18, dc18, pm18, an18, cd18, ct18, sl18, g18, k18, l18, c18, b18⟩
        cls := ⟨PySem.W.mg_of X G aE1, PySem.W.mg_of X G aE2, PySem.W.mg_of X G aE3⟩
        fB := ⟨⟨ga1, gg1, eC1, hC1⟩, nW1, exm_by eE1 iE1 tE1 s1E, fun z => Bool.noConfusion z⟩
        fM := ⟨⟨ga2, gg2, eC2, hC2⟩, nW2, exm_by eE1 iE1 tE1 s2E, fun z => Bool.noConfusion z⟩
        srt := (PySem.W.mg_none_of X G z_sorted) }
    exact ok_law lL cdL T Tb
end HL

open PySem PySem.W PyProof.Rows
set_option maxHeartbeats 0 in
theorem PySem.Challenge.cw_hamperlot_k31_lumps_of_bills_holds : PySem.Challenge.rw_hamperlot_k31_lumps_of_bills.Holds := by
  w_on; o_law; k_head; (case hw => w_witness2)
  k_fill
  refine LamX.walk_ofTs (l := PySem.Challenge.rw_hamperlot_k31_lumps_of_bills) (n := 63) (k := 10) (x := "_law_script") (CX := fun _ => L2.CX0) rfl (by decide) rfl ⟨rfl, by decide, by decide⟩ (fun w h Y => PySem.W.km_in_of Y) ?F (fun _ _ _ _ _ h => h)
  case F =>
    intro w mg fa h Y KX G hmg
    refine' HL.all_mk KX G hmg (PySem.W.km_tabs_of Y _ (List.mem_cons_self))  ?a0 ?l0 ?c0 ?k0 ?a1 ?l1 ?c1 ?k1 ?a2 ?l2 ?c2 ?k2 ?a3 ?l3 ?c3 ?k3 ?a4 ?l4 ?c4 ?k4 ?a5 ?l5 ?c5 ?k5 ?a6 ?l6 ?c6 ?k6 ?a7 ?l7 ?c7 ?k7 ?a8 ?l8 ?c8 ?k8 ?a9 ?l9 ?c9 ?k9 ?a10 ?l10 ?c10 ?k10 ?a11 ?l11 ?c11 ?k11 ?a12 ?l12 ?c12 ?k12 ?a13 ?l13 ?c13 ?k13 ?a14 ?l14 ?c14 ?k14 ?a15 ?l15 ?c15 ?k15 ?a16 ?l16 ?c16 ?k16 ?a17 ?l17 ?c17 ?k17 ?a18 ?l18 ?c18 ?k18 ?a19 ?l19 ?c19 ?k19 ?a20 ?l20 ?c20 ?k20 ?a21 ?l21 ?c21 ?k21 ?a22 ?l22 ?c22 ?k22 ?a23 ?l23 ?c23 ?k23 ?a24 ?l24 ?c24 ?k24 ?a25 ?l25 ?c25 ?k25 ?a26 ?l26 ?c26 ?k26 ?a27 ?l27 ?c27 ?k27 ?a28 ?l28 ?c28 ?k28 ?a29 ?l29 ?c29 ?k29 ?aLe ?lLe ?cLe ?kLe ?lTLe ?aFl ?lFl ?cFl ?kFl ?nDFl ?aL ?lL ?cdL ?nP ?hd ?aC1 ?xL1 ?sa1 ?ga1 ?gg1 ?nW1 ?nF1 ?aI1 ?tI1 ?lI1 ?cI1 ?kI1 ?kC1 ?eC1 ?tC1 ?hC1 ?iC1 ?aC2 ?xL2 ?sa2 ?ga2 ?gg2 ?nW2 ?nF2 ?aI2 ?tI2 ?lI2 ?cI2 ?kI2 ?kC2 ?eC2 ?tC2 ?hC2 ?iC2 ?aE1 ?aE2 ?aE3 ?eE1 ?iE1 ?tE1 ?s1E ?s2E ?v6 ?v5 ?v3 ?v30 ?v4000 ?z_len ?z_list ?z_tuple ?z_dict ?z_str ?z_int ?z_bool ?z_isinstance ?z_all ?z_range ?z_sum ?z_min ?z_max ?z_enumerate ?z_zip ?z_sorted ?z_reversed ?z_any
    (case a0 => first | k_is | rfl)
    (case l0 => first | k_is | rfl)
    (case c0 => first | k_is | rfl)
    (case k0 => first | k_is | rfl)
    (case a1 => first | k_is | rfl)
    (case l1 => first | k_is | rfl)
    (case c1 => first | k_is | rfl)
    (case k1 => first | k_is | rfl)
    (case a2 => first | k_is | rfl)
    (case l2 => first | k_is | rfl)
    (case c2 => first | k_is | rfl)
    (case k2 => first | k_is | rfl)
    (case a3 => first | k_is | rfl)
    (case l3 => first | k_is | rfl)
    (case c3 => first | k_is | rfl)
    (case k3 => first | k_is | rfl)
    (case a4 => first | k_is | rfl)
    (case l4 => first | k_is | rfl)
    (case c4 => first | k_is | rfl)
    (case k4 => first | k_is | rfl)
    (case a5 => first | k_is | rfl)
    (case l5 => first | k_is | rfl)
    (case c5 => first | k_is | rfl)
    (case k5 => first | k_is | rfl)
    (case a6 => first | k_is | rfl)
    (case l6 => first | k_is | rfl)
    (case c6 => first | k_is | rfl)
    (case k6 => first | k_is | rfl)
    (case a7 => first | k_is | rfl)
    (case l7 => first | k_is | rfl)
    (case c7 => first | k_is | rfl)
    (case k7 => first | k_is | rfl)
    (case a8 => first | k_is | rfl)
    (case l8 => first | k_is | rfl)
    (case c8 => first | k_is | rfl)
    (case k8 => first | k_is | rfl)
    (case a9 => first | k_is | rfl)
    (case l9 => first | k_is | rfl)
    (case c9 => first | k_is | rfl)
    (case k9 => first | k_is | rfl)
    (case a10 => first | k_is | rfl)
    (case l10 => first | k_is | rfl)
    (case c10 => first | k_is | rfl)
    (case k10 => first | k_is | rfl)
    (case a11 => first | k_is | rfl)
    (case l11 => first | k_is | rfl)
    (case c11 => first | k_is | rfl)
    (case k11 => first | k_is | rfl)
    (case a12 => first | k_is | rfl)
    (case l12 => first | k_is | rfl)
    (case c12 => first | k_is | rfl)
    (case k12 => first | k_is | rfl)
    (case a13 => first | k_is | rfl)
    (case l13 => first | k_is | rfl)
    (case c13 => first | k_is | rfl)
    (case k13 => first | k_is | rfl)
    (case a14 => first | k_is | rfl)
    (case l14 => first | k_is | rfl)
    (case c14 => first | k_is | rfl)
    (case k14 => first | k_is | rfl)
    (case a15 => first | k_is | rfl)
    (case l15 => first | k_is | rfl)
    (case c15 => first | k_is | rfl)
    (case k15 => first | k_is | rfl)
    (case a16 => first | k_is | rfl)
    (case l16 => first | k_is | rfl)
    (case c16 => first | k_is | rfl)
    (case k16 => first | k_is | rfl)
    (case a17 => first | k_is | rfl)
    (case l17 => first | k_is | rfl)
    (case c17 => first | k_is | rfl)
    (case k17 => first | k_is | rfl)
    (case a18 => first | k_is | rfl)
    (case l18 => first | k_is | rfl)
    (case c18 => first | k_is | rfl)
    (case k18 => first | k_is | rfl)
    (case a19 => first | k_is | rfl)
    (case l19 => first | k_is | rfl)
    (case c19 => first | k_is | rfl)
    (case k19 => first | k_is | rfl)
    (case a20 => first | k_is | rfl)
    (case l20 => first | k_is | rfl)
    (case c20 => first | k_is | rfl)
    (case k20 => first | k_is | rfl)
    (case a21 => first | k_is | rfl)
    (case l21 => first | k_is | rfl)
    (case c21 => first | k_is | rfl)
    (case k21 => first | k_is | rfl)
    (case a22 => first | k_is | rfl)
    (case l22 => first | k_is | rfl)
    (case c22 => first | k_is | rfl)
    (case k22 => first | k_is | rfl)
    (case a23 => first | k_is | rfl)
    (case l23 => first | k_is | rfl)
    (case c23 => first | k_is | rfl)
    (case k23 => first | k_is | rfl)
    (case a24 => first | k_is | rfl)
    (case l24 => first | k_is | rfl)
    (case c24 => first | k_is | rfl)
    (case k24 => first | k_is | rfl)
    (case a25 => first | k_is | rfl)
    (case l25 => first | k_is | rfl)
    (case c25 => first | k_is | rfl)
    (case k25 => first | k_is | rfl)
    (case a26 => first | k_is | rfl)
    (case l26 => first | k_is | rfl)
    (case c26 => first | k_is | rfl)
    (case k26 => first | k_is | rfl)
    (case a27 => first | k_is | rfl)
    (case l27 => first | k_is | rfl)
    (case c27 => first | k_is | rfl)
    (case k27 => first | k_is | rfl)
    (case a28 => first | k_is | rfl)
    (case l28 => first | k_is | rfl)
    (case c28 => first | k_is | rfl)
    (case k28 => first | k_is | rfl)
    (case a29 => first | k_is | rfl)
    (case l29 => first | k_is | rfl)
    (case c29 => first | k_is | rfl)
    (case k29 => first | k_is | rfl)
    (case aLe => first | k_is | rfl)
    (case lLe => first | k_is | rfl)
    (case cLe => first | k_is | rfl)
    (case kLe => first | k_is | rfl)
    (case lTLe => first | k_is | rfl)
    (case aFl => first | k_is | rfl)
    (case lFl => first | k_is | rfl)
    (case cFl => first | k_is | rfl)
    (case kFl => first | k_is | rfl)
    (case nDFl => first | k_is | rfl)
    (case aL => first | k_is | rfl)
    (case lL => first | k_is | rfl)
    (case cdL => first | k_is | rfl)
    (case nP => first | k_is | rfl)
    (case hd => first | k_is | rfl)
    (case aC1 => first | k_is | rfl)
    (case xL1 => first | k_is | rfl)
    (case sa1 => first | k_is | rfl)
    (case ga1 => first | k_is | rfl)
    (case gg1 => first | k_is | rfl)
    (case nW1 => first | k_is | rfl)
    (case nF1 => first | k_is | rfl)
    (case aI1 => first | k_is | rfl)
    (case tI1 => first | k_is | rfl)
    (case lI1 => first | k_is | rfl)
    (case cI1 => first | k_is | rfl)
    (case kI1 => first | k_is | rfl)
    (case kC1 => first | k_is | rfl)
    (case eC1 => first | k_is | rfl)
    (case tC1 => first | k_is | rfl)
    (case hC1 => first | k_is | rfl)
    (case iC1 => first | k_is | rfl)
    (case aC2 => first | k_is | rfl)
    (case xL2 => first | k_is | rfl)
    (case sa2 => first | k_is | rfl)
    (case ga2 => first | k_is | rfl)
    (case gg2 => first | k_is | rfl)
    (case nW2 => first | k_is | rfl)
    (case nF2 => first | k_is | rfl)
    (case aI2 => first | k_is | rfl)
    (case tI2 => first | k_is | rfl)
    (case lI2 => first | k_is | rfl)
    (case cI2 => first | k_is | rfl)
    (case kI2 => first | k_is | rfl)
    (case kC2 => first | k_is | rfl)
    (case eC2 => first | k_is | rfl)
    (case tC2 => first | k_is | rfl)
    (case hC2 => first | k_is | rfl)
    (case iC2 => first | k_is | rfl)
    (case aE1 => first | k_is | rfl)
    (case aE2 => first | k_is | rfl)
    (case aE3 => first | k_is | rfl)
    (case eE1 => first | k_is | rfl)
    (case iE1 => first | k_is | rfl)
    (case tE1 => first | k_is | rfl)
    (case s1E => first | k_is | rfl)
    (case s2E => first | k_is | rfl)
    (case v6 => first | k_is | rfl)
    (case v5 => first | k_is | rfl)
    (case v3 => first | k_is | rfl)
    (case v30 => first | k_is | rfl)
    (case v4000 => first | k_is | rfl)
    (case z_len => first | k_is | rfl)
    (case z_list => first | k_is | rfl)
    (case z_tuple => first | k_is | rfl)
    (case z_dict => first | k_is | rfl)
    (case z_str => first | k_is | rfl)
    (case z_int => first | k_is | rfl)
    (case z_bool => first | k_is | rfl)
    (case z_isinstance => first | k_is | rfl)
    (case z_all => first | k_is | rfl)
    (case z_range => first | k_is | rfl)
    (case z_sum => first | k_is | rfl)
    (case z_min => first | k_is | rfl)
    (case z_max => first | k_is | rfl)
    (case z_enumerate => first | k_is | rfl)
    (case z_zip => first | k_is | rfl)
    (case z_sorted => first | k_is | rfl)
    (case z_reversed => first | k_is | rfl)
    (case z_any => first | k_is | rfl)

