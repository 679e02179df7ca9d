import PyProof.Rows.All
import Wide.All
import OpenK.AllK
import Wide.FinOn
import PySem.Challenge.RW_hamperlot_k11_whole_fillings_all_led_to
import HandS.ForMost
import HandS.Exc
import HandS.TryOnly
import HandS.ExcInit
import HandS.ExcField
import HandS.WordsExc
import HandS.Lambda
import HandS.EndTab
import HandS.IsInst
import HandS.TupMul
import HandS.TupAny
import HandS.Walk
import HandS.Defaults
import KE.KTupSum
import KE.DatumOrd
import KE.GoesEnum
import HandS.TryMany
import HandS.Wide
import HandS.Zip
import HandS.SortInts
import HandS.Conv
import HandS.SortRule
import HandS.Deep
import KE.SortKeyHeap
import KE.KSortKey
import KE.GoesZip
import KE.GoesMore
import KE.SortData
import KE.DataFind
import HandS.SetFor
import HandS.ListItems
import KE.KDictCopyH
import KE.KDictWalk
import HandS.DictComp
import HandS.Style
import KE.KEqSeq
import HandS.SetKeys
import HandS.TupSets
import HandS.Rev
import KE.KNestM
set_option Elab.async false
set_option linter.all false
set_option maxRecDepth 100000
set_option maxHeartbeats 4000000
/-! Rules of one's own beside the layer's: sum, max, min of a tuple of ints; enumerate of a tuple; a tuple times 1. -/
namespace HL
open PySem PySem.Spec PyProof.Rows L2
section
variable {X : Cx}
theorem tupI {pins : List (Addr × Obj)} {σ : L2.St} {H : Hp} {s : Shared} {a : Addr} {ns : List Int} (I : Inv X pins σ H s) (h : SqT X.K H a (ns.map V.int)) :
    ∃ its : List Value, IntsAre its ns ∧ s.heap.IsTuple a its.toArray := by
  obtain ⟨its, rv, ⟨o, ho, hc, n, hd⟩, _⟩ := I.tuple h
  exact ⟨its, rv.ints, o, ho, hc, n, hd⟩
/-- sum(t) -/
def rSumT (K : PySem.W.Frag) : List V → Hp → VK → Prop := fun vs H Q =>
  ∃ (a : Addr) (ns : List Int), vs = [V.ref a] ∧ SqT K H a (ns.map V.int) ∧ Q (.int ns.sum) H
theorem cr_sumT (hc : X.calm = true) : CallR X (.builtin "sum") (rSumT X.K) := by
  intro pins s σ H vs us Q I r h
  obtain ⟨a, ns, rfl, hs, q⟩ := h
  obtain ⟨its, hi, hl⟩ := tupI I hs
  rw [Vals.ref1 r]
  obtain ⟨xs, e⟩ := hi.allInts.items
  have hn : numsOf (intItems xs).toList = ns := by
    rw [← e]
    exact hi.numsOf
  rw [nums_intItems] at hn
  rw [e] at hl
  refine PySem.W.ktm_sumG (I.ok.hd hc) hl fun h' tk t' hk => ?_
  rw [preSum_eq]
  rw [List.take_of_length_le (by simp), hn]
  exact ⟨.int _, H, I.kept hk, ⟨_, rfl⟩, q⟩
theorem maxOf_le (x : Int) (xs : List Int) : PySem.W.maxOf x xs ∈ x :: xs ∧ ∀ y ∈ x :: xs, y ≤ PySem.W.maxOf x xs := by
  induction xs generalizing x with
  | nil => exact ⟨List.mem_cons_self, fun y hy => by simp at hy; subst hy; exact Int.le_refl _⟩
  | cons z zs ih =>
    have e : PySem.W.maxOf x (z :: zs) = PySem.W.maxOf (if PySem.W.DatumOrd.lt x z = true then z else x) zs := rfl
    have d : (PySem.W.DatumOrd.lt x z = true) ↔ x < z := by
      show decide (x < z) = true ↔ x < z
      exact decide_eq_true_iff
    rw [e]
    by_cases c : x < z
    · rw [if_pos (d.mpr c)]
      obtain ⟨h1, h2⟩ := ih z
      refine ⟨List.mem_cons_of_mem _ h1, fun y hy => ?_⟩
      rcases List.mem_cons.mp hy with r | r
      · have := h2 z List.mem_cons_self
        omega
      · exact h2 y r
    · rw [if_neg (fun q => c (d.mp q))]
      obtain ⟨h1, h2⟩ := ih x
      refine ⟨?_, fun y hy => ?_⟩
      · rcases List.mem_cons.mp h1 with r | r
        · rw [r]; exact List.mem_cons_self
        · exact List.mem_cons_of_mem _ (List.mem_cons_of_mem _ r)
      · rcases List.mem_cons.mp hy with r | r
        · have := h2 x List.mem_cons_self
          omega
        · rcases List.mem_cons.mp r with r | r
          · have := h2 x List.mem_cons_self
            omega
          · exact h2 y (List.mem_cons_of_mem _ r)
theorem minOf_le (x : Int) (xs : List Int) : PySem.W.minOf x xs ∈ x :: xs ∧ ∀ y ∈ x :: xs, PySem.W.minOf x xs ≤ y := by
  induction xs generalizing x with
  | nil => exact ⟨List.mem_cons_self, fun y hy => by simp at hy; subst hy; exact Int.le_refl _⟩
  | cons z zs ih =>
    have e : PySem.W.minOf x (z :: zs) = PySem.W.minOf (if PySem.W.DatumOrd.lt z x = true then z else x) zs := rfl
    have d : (PySem.W.DatumOrd.lt z x = true) ↔ z < x := by
      show decide (z < x) = true ↔ z < x
      exact decide_eq_true_iff
    rw [e]
    by_cases c : z < x
    · rw [if_pos (d.mpr c)]
      obtain ⟨h1, h2⟩ := ih z
      refine ⟨List.mem_cons_of_mem _ h1, fun y hy => ?_⟩
      rcases List.mem_cons.mp hy with r | r
      · have := h2 z List.mem_cons_self
        omega
      · exact h2 y r
    · rw [if_neg (fun q => c (d.mp q))]
      obtain ⟨h1, h2⟩ := ih x
      refine ⟨?_, fun y hy => ?_⟩
      · rcases List.mem_cons.mp h1 with r | r
        · rw [r]; exact List.mem_cons_self
        · exact List.mem_cons_of_mem _ (List.mem_cons_of_mem _ r)
      · rcases List.mem_cons.mp hy with r | r
        · have := h2 x List.mem_cons_self
          omega
        · rcases List.mem_cons.mp r with r | r
          · have := h2 x List.mem_cons_self
            omega
          · exact h2 y (List.mem_cons_of_mem _ r)
/-- max(t), min(t) of ints -/
def rMaxT (K : PySem.W.Frag) : List V → Hp → VK → Prop := fun vs H Q =>
  ∃ (a : Addr) (ns : List Int), vs = [V.ref a] ∧ SqT K H a (ns.map V.int) ∧ 0 < ns.length ∧ ∀ m, m ∈ ns → (∀ y ∈ ns, y ≤ m) → Q (.int m) H
def rMinT (K : PySem.W.Frag) : List V → Hp → VK → Prop := fun vs H Q =>
  ∃ (a : Addr) (ns : List Int), vs = [V.ref a] ∧ SqT K H a (ns.map V.int) ∧ 0 < ns.length ∧ ∀ m, m ∈ ns → (∀ y ∈ ns, m ≤ y) → Q (.int m) H
theorem int_of_holds {h : Heap} {v : Value} {x : Int} (H : PySem.W.Holds h v x) : ∃ t, v = Value.int x t := by
  have z := PySem.W.HoldAll.toInts (PySem.W.HoldAll.cons H PySem.W.HoldAll.nil)
  cases z with
  | cons n t z => exact ⟨t, rfl⟩
theorem cr_maxT (hc : X.calm = true) (hu : X.A.units + 64 < cLine) : CallR X (.builtin "max") (rMaxT X.K) := by
  intro pins s σ H vs us Q I r h
  obtain ⟨a, ns, rfl, hs, hne, q⟩ := h
  obtain ⟨its, hi, hl⟩ := tupI I hs
  rw [Vals.ref1 r]
  cases ns with
  | nil => simp at hne
  | cons x xs =>
    refine PySem.W.max_tuple_datum (x := x) (xs := xs) (I.ok.hd hc) hl (PySem.W.HoldAll.of_ints (by simpa using hi)) (by show X.A.units + 1 + 0 < cLine; omega) fun i v h' tk _ hv hk => ?_
    obtain ⟨t, rfl⟩ := int_of_holds hv
    obtain ⟨h1, h2⟩ := maxOf_le x xs
    exact ⟨.int _, H, I.kept hk, ⟨_, rfl⟩, q _ h1 h2⟩
theorem cr_minT (hc : X.calm = true) (hu : X.A.units + 64 < cLine) : CallR X (.builtin "min") (rMinT X.K) := by
  intro pins s σ H vs us Q I r h
  obtain ⟨a, ns, rfl, hs, hne, q⟩ := h
  obtain ⟨its, hi, hl⟩ := tupI I hs
  rw [Vals.ref1 r]
  cases ns with
  | nil => simp at hne
  | cons x xs =>
    refine PySem.W.min_tuple_datum (x := x) (xs := xs) (I.ok.hd hc) hl (PySem.W.HoldAll.of_ints (by simpa using hi)) (by show X.A.units + 1 + 0 < cLine; omega) fun i v h' tk _ hv hk => ?_
    obtain ⟨t, rfl⟩ := int_of_holds hv
    obtain ⟨h1, h2⟩ := minOf_le x xs
    exact ⟨.int _, H, I.kept hk, ⟨_, rfl⟩, q _ h1 h2⟩
end
end HL

namespace HL
open PySem PySem.Spec PyProof.Rows L2
open AutoSeq1 (wpAny_loadPart')
/-! enumerate(t), t a tuple -/
abbrev oIt (t : Addr) : Obj := { cls := .type "tuple_iterator", data := .fields #[.ref t, .int 0 0] }
abbrev oEn (i : Addr) : Obj := { cls := .type "enumerate", data := .fields #[.none, .bool false, .ref i, rawInt 0, .none, .none] }
theorem meets_enumT (t : Addr) (items : Array Value) (o : Obj) (tyE : ∀ h : Heap, h.get? t = some o → h.IsTuple t items) :
    Meets (Builtin.«enumerate.__new__» ⟨[.type "enumerate", .ref t], []⟩)
      (fun _ R s => s.heap.get? t = some o ∧ R (.ok (.ret (.ref (s.heap.push (oIt t)).objs.size))) { s with heap := (s.heap.push (oIt t)).push (oEn s.heap.objs.size) }) :=
  .of_wp fun prog w A R s h => by
    obtain ⟨hp, g, d, tk, os⟩ := s
    obtain ⟨hl, h⟩ := h
    have hsub := sub_enumerate
    have hL : Heap.IsTuple (Shared.heap ⟨hp, g, d, tk, os⟩) t items := tyE _ hl
    wp_walk using wpAny_loadPart' hl
    refine wpAny_stack_any fun stk => wpAny_pure ?_
    split
    · rename_i c _ _ _ _ _
      cases (c == Value.type "enumerate") <;> (wp_walk using wpAny_loadPart' hl, wpAny_pyIter_tuple hL; exact ⟨_, rfl, h⟩)
    · wp_walk using wpAny_loadPart' hl, wpAny_pyIter_tuple hL
      exact ⟨_, rfl, h⟩
theorem call_enumT {prog : Program} {w : World} {A : Around} {E : Value → Shared → Prop} {s : Shared} {t : Addr} {items : Array Value} {Q : Value → Shared → Prop} (hL : s.heap.IsTuple t items)
    (h : ∀ h', IsEnum h' (s.heap.objs.size + 1) s.heap.objs.size 0 .none → h'.IsTupleIter s.heap.objs.size t 0 →
      (∀ b o, s.heap.get? b = some o → h'.get? b = some o) → Q (.ref (s.heap.objs.size + 1)) { s with heap := h' }) :
    wpAny (model prog w) A (call (.type "enumerate") [.ref t]) Q E s := by
  obtain ⟨o, hl, hc, n, hd⟩ := hL
  refine callType_new F.called_enumerate (by decide) (F.typeCall_enumerate_1 _) (F.newCall_enumerate_1 _) (fun obj => F.args_object_init_2 obj _) F.entry_enumerate_new
    (meets_enumT t items o fun h' e => ⟨o, e, hc, n, hd⟩) ⟨hl, ?_⟩
  have hz : (s.heap.push (oIt t)).objs.size = s.heap.objs.size + 1 := Heap.size_push ..
  show _ ∧ _
  rw [hz]
  have hen : IsEnum ((s.heap.push (oIt t)).push (oEn s.heap.objs.size)) (s.heap.objs.size + 1) s.heap.objs.size 0 .none := by
    have q := Heap.get?_push_size (s.heap.push (oIt t)) (o := oEn s.heap.objs.size) rfl
    rw [hz] at q
    exact q
  exact ⟨⟨_, hen, rfl⟩, h _ hen ⟨_, Heap.get?_push_of_some _ (Heap.get?_push_size _ rfl), rfl, rfl⟩ fun b o x => Heap.get?_push_of_some _ (Heap.get?_push_of_some _ x)⟩
theorem enum_endT {prog : Program} {w : World} {A : Around} {E : Value → Shared → Prop} {s : Shared} {e it t : Addr} {i : Nat} {items : Array Value} {old : Value} {Q : Option Value → Shared → Prop}
    (hh : A.handled = none) (hen : IsEnum s.heap e it i old) (hit : s.heap.IsTupleIter it t i) (hl : s.heap.IsTuple t items) (hx : items[i]? = none)
    (wish : ∀ h', Heap.ExtBut it s.heap h' → Q none { s with heap := h' }) : wpAny (model prog w) A (pyNext (.ref e)) Q E s := by
  have tyE : s.TypeIs (.ref e) "enumerate" := ⟨_, hen, rfl⟩
  unfold pyNext
  refine wpAny_bind (wpAny_attempt (wpAny_callSpecial?_slot (name := Str.ofString "__next__") tyE F.slot_enumerate_next (wpAny_call_entry F.slot_enumerate_next tyE F.entry_enumerate_next ?_ (F.args_enumerate_next_1 _))))
  show wpAny _ _ (field (.ref e) 2 >>= _) _ _ _
  refine wpAny_bind (wpAny_field hen rfl (x := .ref it) rfl (wpAny_bind (wpAny_nextOf_tuple_end hh hit hl hx fun h' x hen' hx' => ?_)))
  obtain ⟨o, ho, hc⟩ := hx'
  exact wpAny_bind (wpAny_isInstance (T := "StopIteration") (b := true) ⟨o, ho, hc⟩ isSubtype_stop (wpAny_pure (wish _ hen')))
/-- the tuple at a, each item in a new pair -/
def IteT (K : PySem.W.Frag) (a : Addr) : It where
  go := fun i H => ∃ (xs : List V) (x : V), SqT K H a xs ∧ xs[i]? = some x
  yld := fun i H v H' => ∃ T x, v = .ref T ∧ H T = none ∧ H' = upd H T (.tup [.int (i : Nat), x]) ∧ ∀ xs, SqT K H a xs → xs[i]? = some x
  stop := fun i H => ∃ xs : List V, SqT K H a xs ∧ xs.length ≤ i
theorem turn_enumT {P : Program} {w : World} {K : PySem.W.Frag} {elts : List Expr} {kk : Nat} {tpos : Pos} (a e it : Addr) (hai : a ≠ it) :
    Turn P w K (.Tuple elts kk tpos) (IteT K a) [e, it] e (fun i h => (∃ old, IsEnum h e it ((i : Nat) : Int) old) ∧ h.IsTupleIter it a i ∧ e ≠ it ∧ e ≠ a) where
  mem := by simp
  obj := fun i h sta b hb => by
    obtain ⟨⟨old, hen⟩, ⟨o, ho, hc, hd⟩, _⟩ := sta
    have e' : b = e ∨ b = it := by simpa using hb
    rcases e' with z | z
    · rw [z]
      exact ⟨_, hen, fun v q => nomatch q⟩
    · rw [z]
      exact ⟨o, ho, fun v q => by rw [hd] at q; cases q⟩
  keep := fun i h h' sta k => by
    obtain ⟨⟨old, hen⟩, hi, hne⟩ := sta
    exact ⟨⟨old, k e (by simp) _ hen⟩, hi.at fun o q => k it (by simp) o q, hne⟩
  item := by
    intro X hP hw hK hc i pins s σ H E I fpk sta hg
    subst hP hw hK
    obtain ⟨⟨old, hen⟩, hit, hne, hea⟩ := sta
    obtain ⟨xs, x, hq, hx⟩ := hg
    obtain ⟨its, rv, ⟨ot, hot, hct, nt, hdt⟩, hz⟩ := I.tuple hq
    have tyE : s.heap.IsTuple a its.toArray := ⟨ot, hot, hct, nt, hdt⟩
    obtain ⟨u, hu, ru⟩ := rv.get hx
    have hlt : i < its.toArray.size := by
      have := (List.getElem?_eq_some_iff.mp hu).1
      simpa using this
    have elt : e < s.heap.objs.size := Heap.lt_size hen
    have hil : it < s.heap.objs.size := by
      obtain ⟨_, q, _⟩ := hit
      exact Heap.lt_size q
    refine wpAny_pyNext_enum_itemD (Draws.tuple (A := X.A.in1) (I.ok.hd hc) it a hai its.toArray) hen ⟨hit, tyE⟩ hlt hne (by simp [hne, hea]) fun z h' tk hz' ho hit' hTn hsz kep => ?_
    have ez : z = u := by
      have q : its[i]? = some z := by simpa using hz'
      rw [hu] at q
      exact (Option.some.inj q).symm
    subst ez
    refine ⟨_, rfl, wpAny_letOwnedTupleGo_enum (s := { s with heap := h', toks := tk + 1 }) ho fun h'' hen' smb => ?_⟩
    have hT2 : h''.get? s.heap.objs.size = some { cls := .type "tuple", data := .seq #[.int i tk, z] } := (smb.2 _ (Nat.ne_of_gt elt)).trans hTn
    have new : ObjOk X.prog X.w (upd H s.heap.objs.size (.tup [.int (i : Nat), x])) h'' s.heap.objs.size (.tup [.int (i : Nat), x]) :=
      ⟨by show 2 ≤ sizeLine; decide, [.int i tk, z], .cons ⟨_, rfl⟩ (.cons ru .nil), ⟨_, hT2, rfl, _, rfl⟩⟩
    have I1 : Inv X pins σ (upd H s.heap.objs.size (.tup [.int (i : Nat), x])) { s with heap := h'', toks := tk + 1 } :=
      I.turnedNew (ch := [e, it]) (fun b ob hb q => (smb.2 b (fun z => hb (by simp [z]))).trans (kep b ob (fun z => hb (by simp [z])) (fun z => hb (by simp [z])) q)) fpk (Nat.le_refl _) new
    refine ⟨.ref s.heap.objs.size, _, I1, rfl, ⟨_, x, rfl, I.hok.fresh (Nat.le_refl _), rfl, fun ys hy => ?_⟩, ⟨⟨z, ?_⟩, hit'.1.at fun o q => (smb.2 it (Ne.symm hne)).trans q, hne, hea⟩, fun b hb => ?_⟩
    · rw [I.tuple_inj hy hq]
      exact hx
    · have eqi : ((i + 1 : Nat) : Int) = (i : Int) + 1 := by omega
      rw [eqi]
      exact hen'
    · have hb' : b < s.heap.objs.size := by
        have e' : b = e ∨ b = it := by simpa using hb
        rcases e' with z | z
        · rw [z]
          exact elt
        · rw [z]
          exact hil
      rw [upd_ne (Nat.ne_of_lt hb')]
      exact (fpk b hb).1
  done := by
    intro X hP hw hK hc i pins s σ H E I fpk sta hg
    subst hP hw hK
    obtain ⟨⟨old, hen⟩, hit, hne, hea⟩ := sta
    obtain ⟨xs, hq, hx⟩ := hg
    obtain ⟨its, rv, ⟨ot, hot, hct, nt, hdt⟩, hz⟩ := I.tuple hq
    obtain ⟨p0, p1, p2, p3, p4, p5⟩ := fpk it (by simp)
    have hl := rv.length
    refine enum_endT (I.ok.hd hc) hen hit ⟨ot, hot, hct, nt, hdt⟩ (by simp; omega) fun h' eb => ⟨rfl, I.turned (t' := s.toks) (fun b o hb q => eb b o hb q) p0 p1 p3 p4 p5⟩
  self := fun A i s Q E sta h => let ⟨⟨_, hen⟩, _⟩ := sta; wpAny_pyIter_enum hen h
def iEnumT (K : PySem.W.Frag) (ta : TA) : TI := fun σ H R => ta σ H fun vs H1 => ∃ a xs, vs = [.ref a] ∧ SqT K H1 a xs ∧ R (IteT K a) H1
theorem pi_enumT {X : Cx} {e : Expr} {ta : TA} {p pos tpos : Pos} {elts : List Expr} {kk : Nat} (hg : Gl X "enumerate") (hm : X.mg "enumerate" = none) (ha : PA X [e] ta)
    (hs : starEach [e] X.env = [(false, eval e X.env)] := by rfl) : PI X (.Tuple elts kk tpos) (.Call (.Name "enumerate" p) [e] [] pos) (iEnumT X.K ta) := by
  refine ⟨fun pins s σ H R I h => ?_⟩
  refine Call_ (ld_blt I hg hm boot_enumerate (PyProof.Rows.callWith_type1 (thn (ha.run pos pins s σ H _ I h) fun us sA ⟨vs, H1, I1, r1, q1⟩ => ?_) hs rfl))
  obtain ⟨a, xs, ex, hq, q⟩ := q1
  subst ex
  rw [Vals.ref1 r1]
  obtain ⟨its, rv, ⟨ot, hot, hct, nt, hdt⟩, hz⟩ := I1.tuple hq
  have hla : a < sA.heap.objs.size := Heap.lt_size hot
  refine call_enumT (items := its.toArray) ⟨ot, hot, hct, nt, hdt⟩ fun h' hen hit kep => wpAny_pyIter_enum hen ?_
  have JB : Inv X pins σ H1 { sA with heap := h' } := I1.kept (t' := sA.toks) kep
  refine ⟨sA.heap.objs.size + 1, [sA.heap.objs.size + 1, sA.heap.objs.size], _, _, H1, rfl, JB, turn_enumT a (sA.heap.objs.size + 1) sA.heap.objs.size (Nat.ne_of_lt hla),
    ⟨⟨.none, hen⟩, hit, Nat.succ_ne_self _, Nat.ne_of_gt (Nat.lt_succ_of_lt hla)⟩, fun b hb => ?_, q⟩
  have e' : b = sA.heap.objs.size + 1 ∨ b = sA.heap.objs.size := by simpa using hb
  have hle : sA.heap.objs.size ≤ b := by
    rcases e' with z | z
    · rw [z]
      exact Nat.le_add_right _ _
    · rw [z]
      exact Nat.le_refl _
  exact I1.fpOk hle (I1.hok.fresh hle)
end HL

namespace HL
open PySem PySem.Spec PyProof.Rows L2
open AutoSeq1 (wpAny_loadPart')
/-! t * k, k from 1 on: once is the tuple itself -/
theorem tuple_mul1 (l : Addr) (items : Array Value) (n : Nat) (dd : Option Addr) (sl : Array (Option Value)) (u : Tok) :
    Meets (Builtin.«tuple.__mul__» ⟨[.ref l, .int 1 u], []⟩)
      (fun _ R s => s.heap.get? l = some { cls := .type "tuple", dict := dd, data := .seq items n, slots := sl } ∧ R (.ok (.ret (.ref l))) s) :=
  .of_wp fun prog w A R s h => by
    obtain ⟨hp, g, d, tk, os⟩ := s
    obtain ⟨hl, h⟩ := h
    have f1 := AutoSeq1.idx_int
    have ht : Shared.TypeIs ⟨hp, g, d, tk, os⟩ (.ref l) "tuple" := ⟨_, hl, rfl⟩
    wp_walk using wpAny_loadPart' hl
    repeat (first
      | (refine wpAny_ite_false (by decide) ?_; wp_walk using wpAny_loadPart' hl)
      | (refine wpAny_ite_true (by cases items.isEmpty <;> decide) ?_; wp_walk using wpAny_loadPart' hl)
      | (refine wpAny_typeOf ht ?_; wp_walk using wpAny_loadPart' hl)
      | (refine wpAny_bind (wpAny_typeOf ht ?_); wp_walk using wpAny_loadPart' hl))
    exact ⟨_, rfl, h⟩
def rRepA (K : PySem.W.Frag) : R2 := fun x y H Q => ∃ l k xs, x = .ref l ∧ y = .int k ∧ SqT K H l xs ∧ xs ≠ [] ∧ 1 ≤ k ∧ k ≤ 1000 ∧ xs.length ≤ 1000 ∧
  (k = 1 → Q (.ref l) H) ∧ (k ≠ 1 → ∀ p, H p = none → Q (.ref p) (upd H p (.tup (List.replicate k.toNat xs).flatten)))
theorem op_repA {X : Cx} : OpR X (binaryOp .Mult) (rRepA X.K) := by
  intro pins s σ H x y v u Q I rx ry h
  obtain ⟨l, k, xs, rfl, rfl, hT, hne, h1, h2, hz, q1, q2⟩ := h
  by_cases hk : k = 1
  · subst hk
    have rx' := rx
    cases rx
    obtain ⟨t, rfl⟩ := ry
    obtain ⟨its, r, ⟨⟨cl, dd, dat, sl⟩, ho, hc, n, hd⟩, _⟩ := I.tuple hT
    simp only at hc hd
    subst hc hd
    exact wpAny_binaryOp_repeat_ref (T := "tuple") (U := "int") (by decide) ⟨_, ho, rfl⟩ (fun s' => typeIs_int s' 1 t) noFill_tuple_mul F.fills_int_mul F.slot_int_rmul repeat_tuple F.slot_int_index.lookup
      (call_meets F.slot_int_rmul (typeIs_int s 1 t) F.entry_int_rmul (F.args_int_rmul_2 _ _) (int_rmul_tuple 1 t l its.toArray n dd sl)
        ⟨ho, rfl, ⟨_, ho, rfl⟩, call_meets F.slot_tuple_mul ⟨_, ho, rfl⟩ F.entry_tuple_mul (F.args_tuple_mul_2 _ _) (tuple_mul1 l its.toArray n dd sl t) ⟨ho, ⟨.ref l, H, I, rfl, q1 rfl⟩⟩⟩)
  · exact op_repT pins s σ H _ _ v u Q I rx ry ⟨l, k, xs, rfl, rfl, hT, hne, by omega, h2, hz, q2 hk⟩
end HL

namespace HL
open PySem PySem.Spec PyProof.Rows L2
/-! several except clauses, each with a name -/
/-- behind a suite the name's slot is empty -/
abbrev offE (i : Nat) (D : Ends) : Ends := { nx := fun σ' H' => D.nx (σ'.set i none) H', rt := D.rt, bk := fun σ' H' => D.bk (σ'.set i none) H', ct := fun σ' H' => D.ct (σ'.set i none) H' }
def wManyA (K : PySem.W.Frag) (i : Nat) (Wout : WX) (D : Ends) : List (Value × (Addr → Value → Option Addr → TS)) → WX
  | [] => Wout
  | (c, ts) :: r => fun cls d σ H => ∃ b, PySem.W.exmOne K cls c = some b ∧ (b = true → ∀ a, H a = none → ts a cls d (offE i D) (σ.set i (some (.ref a))) H) ∧ (b = false → wManyA K i Wout D r cls d σ H)
inductive HdsA (X : Cx) (n : Str) : List ExceptHandler → List (Value × (Addr → Value → Option Addr → TS)) → Prop
  | nil : HdsA X n [] []
  | cons {x : Str} {c : Value} {ts : Addr → Value → Option Addr → TS} {b₀ : Stmt} {suite : List Stmt} {np pos' : Pos} {hds : List ExceptHandler} {l : List (Value × (Addr → Value → Option Addr → TS))} (hc : Names X x c)
      (hsu : ∀ (a : Addr) (oe : Obj) (cls : Value) (d : Option Addr) (pn : List (Addr × Obj)), Zc cls d oe → (∃ vs, oe.data = .fields vs) → PSs (X.suite a ((a, oe) :: pn)) (b₀ :: suite) (ts a cls d)) (r : HdsA X n hds l) :
      HdsA X n (.ExceptHandler (some (.Name x np)) (some n) (b₀ :: suite) pos' :: hds) ((c, ts) :: l)
section
variable {X : Cx} {n : Str} {i : Nat} {body : List Stmt} {h₀ : ExceptHandler} {hds : List ExceptHandler} {l : List (Value × (Addr → Value → Option Addr → TS))} {pos : Pos} {tb : WX → TS} {Wout : WX}
theorem ps_try_manyA (hs : X.stack = X.env :: X.outer) (hf : X.env.frame = some X.env.locals) (hN : X.N.Nodup) (hi : X.N[i]? = some n) (hln : X.env.kindOf n = some .local) (tk : Takes X Wout)
    (hb : ∀ (W : WX) (pn : List (Addr × Obj)) (xe : Value → Shared → Prop), Takes (X.tr pn xe) W → PassesOwn (model X.prog X.w) X.A X.env xe → PSs (X.tr pn xe) body (tb W)) (hh : HdsA X n (h₀ :: hds) l) :
    PS X (.Try body (h₀ :: hds) [] [] pos) (fun D σ H => tb (wManyA X.K i Wout D l) D σ H) := by
  refine ⟨fun pins s σ H D I hTB => ?_⟩
  have okI := I.ok
  have frA : X.A.frames = some (X.env :: X.outer) := by rw [okI.frames, hs]
  have locN : Loc X.env.scope n := .inl hln
  refine wpAny_Try_except (wpAny_mono ((hb (wManyA X.K i Wout D l) (X.pn ++ pins) (fun e sa => wpAny (model X.prog X.w) X.A (noteFrame e X.env) (fun _ sb => wpAny (model X.prog X.w) X.A (setFlight e none) (fun _ sc =>
    wpAny (model X.prog X.w) X.A (handleBy e X.env (h₀ :: hds)) (SP X pins D) X.xe sc) X.xe sb) X.xe sa) (fun u s' xx => ?_) PassesOwn.looking).run [] s σ H D (I.toTry _) hTB) (fun f sq hsp => ?_) (fun e sq he => he))
  · obtain ⟨a, B, sI, pins', σ', H', cls, d, rfl, J', nb, up, sky, na, os, ag, wsh⟩ := xx
    have J : Inv X pins σ' H' sI := J'.ofTry okI
    have skyE : Sky B (X.env :: X.outer) a (Zc cls d) X.env.locals s'.heap := by rw [← hs]; exact sky
    show wpAny (model X.prog X.w) X.A (noteFrame (.ref a) X.env) _ _ _
    refine Sky.land Zc.steady frA hf skyE fun hC flC upC => ?_
    have JC : Inv X pins σ' H' { s' with heap := hC } := J.landed nb flC.1 (up.trans upC) os ag
    obtain ⟨oC, vC, heC, hzC, hdC⟩ := flC.there
    have notFr : a ∉ frs (X.env :: X.outer) := fun hm => by
      obtain ⟨_, o', e', hnf⟩ := flC.2.2.1.mem hm
      rw [heC] at e'
      cases e'
      exact hnf _ hdC
    have nL : a ≠ X.env.locals := fun z => notFr (List.mem_filterMap.mpr ⟨X.env, List.mem_cons_self, by rw [hf, z]⟩)
    have nF : a ∉ X.fs := fun hm => by
      obtain ⟨e, he, q⟩ := List.mem_filterMap.mp hm
      exact notFr (List.mem_filterMap.mpr ⟨e, List.mem_cons_of_mem _ he, q⟩)
    have SC := JC.suite heC hdC na nL nF
    have go : ∀ {hd2 : List ExceptHandler} {l2 : List (Value × (Addr → Value → Option Addr → TS))}, HdsA X n hd2 l2 → wManyA X.K i Wout D l2 cls d σ' H' → wpAny (model X.prog X.w) X.A (handleBy (.ref a) X.env hd2) (SP X pins D) X.xe { s' with heap := hC } := by
      intro hd2 l2 hk
      induction hk with
      | nil =>
        intro wn
        refine wpAny_handleBy_nil ?_
        obtain ⟨k1, k2, k3, oe, vs, T, oT, ts', he, hz, hd, h1, hr⟩ := id flC
        unfold PySem.passOn
        refine wpAny_bind (wpAny_field he hd h1 ?_)
        rw [if_neg (show ¬ ((Value.ref T == Value.none) = true) from by simp)]
        have fin : wpAny (model X.prog X.w) X.A (setFlight (.ref a) X.env.frame) (fun _ sd => wpAny (model X.prog X.w) X.A (throw (.ref a) : Sem Flow) (SP X pins D) X.xe sd) X.xe { s' with heap := hC } := by
          rw [hf]
          refine HandSPX.setFlight_upZ flC fun hD hhD upD => wpAny_throw (tk _ _ ?_)
          exact ⟨a, B, sI, pins, σ', H', cls, d, rfl, J, nb, (up.trans upC).trans upD, .inr (.inr (by rw [hs]; exact hhD)), na, os, ag, wn⟩
        first
          | exact wpAny_bind (wpAny_pure (wpAny_bind fin))
          | exact wpAny_bind fin
      | @cons x c ts b₀ suite np pos' hd3 l3 hc hsu r ih =>
        intro wn
        obtain ⟨b, hb1, hyes, hno⟩ := wn
        refine wpAny_handleBy_cons (codeAny_handlers_test ?_) (by intro q; cases q)
        have LT : PySem.W.Looks (model X.prog X.w) hC (typeOf (.ref a)) cls := fun A Q E s k q => wpAny_typeOf_ref (k _ _ heC) (by rw [hzC.1]; exact q)
        have LM := PySem.W.exm_one (M := model X.prog X.w) (JC.kIn) LT hb1
        have look : ∀ {Q : Value → Shared → Prop} {E : Value → Shared → Prop}, Q c { s' with heap := hC } → wpAny (model X.prog X.w) (X.A.mark (some (.ref a))) (eval (.Name x np) X.env) Q E { s' with heap := hC } := fun {Q E} q => by
          obtain ⟨hg, hdbg, hm | ⟨hm, hv, hnn⟩⟩ := hc
          · exact ld_glob (X := X.suite a ((a, oC) :: (X.pn ++ pins))) SC hg hm q hdbg
          · exact ld_blt (X := X.suite a ((a, oC) :: (X.pn ++ pins))) SC hg hm hv q hnn hdbg
        refine look (LM.here ?_)
        cases b with
        | false =>
          show wpAny _ X.A (handleBy (.ref a) X.env hd3) _ _ _
          exact ih (hno rfl)
        | true =>
          refine codeAny_handlers_suite_as (HandSPX.lands_againZ flC fun hD flD upD => ?_)
          have JD : Inv X pins σ' H' { s' with heap := hD } := J.landed nb flD.1 ((up.trans upC).trans upD) os ag
          obtain ⟨oD, vD, heD, hzD, hdD⟩ := flD.there
          have SD := JD.suite heD hdD na nL nF
          refine store_ok (X := X.suite a ((a, oD) :: (X.pn ++ pins))) (v := .ref a) SD hN hi locN rfl (fun sE SE => ?_) (.inr hln)
          refine wpAny_mono ((hsu a oD cls d (X.pn ++ pins) hzD ⟨_, hdD⟩).run [] sE _ H' _ SE (hyes rfl a na)) (fun f sG hsp => ?_) (fun _ _ z => False.elim z)
          have off : ∀ {σG : L2.St} {HG : Hp} {Q : Shared → Prop}, Inv (X.suite a ((a, oD) :: (X.pn ++ pins))) [] σG HG sG → (∀ sH, Inv X pins (σG.set i none) HG sH → Q sH) →
              wpAny (model X.prog X.w) X.A (do bindName X.env n .none; unbindBehindTheSuite X.env n pos') (fun _ sH => Q sH) X.xe sG := fun {σG HG Q} SG hq => gone_ok (SG.unsuite okI) hN hi hln hq
          cases f with
          | ret u =>
            obtain ⟨vG, σG, HG, SG, rG, qG⟩ := hsp
            exact off SG fun sH JH => ⟨_, _, _, JH, rG, qG⟩
          | next =>
            obtain ⟨σG, HG, SG, qG⟩ := hsp
            exact off SG fun sH JH => ⟨_, _, JH, qG⟩
          | brk =>
            obtain ⟨σG, HG, SG, qG⟩ := hsp
            exact off SG fun sH JH => ⟨_, _, JH, qG⟩
          | cont =>
            obtain ⟨σG, HG, SG, qG⟩ := hsp
            exact off SG fun sH JH => ⟨_, _, JH, qG⟩
    exact go hh wsh
  · cases f with
    | ret u =>
      obtain ⟨v, σ', H', J', r, q⟩ := hsp
      exact ⟨v, σ', H', J'.ofTry okI, r, q⟩
    | next =>
      obtain ⟨σ', H', J', q⟩ := hsp
      exact wpAny_execs_nil ⟨σ', H', J'.ofTry okI, q⟩
    | brk =>
      obtain ⟨σ', H', J', q⟩ := hsp
      exact ⟨σ', H', J'.ofTry okI, q⟩
    | cont =>
      obtain ⟨σ', H', J', q⟩ := hsp
      exact ⟨σ', H', J'.ofTry okI, q⟩
end
end HL

namespace HL
open PySem PySem.Spec PyProof.Rows L2
open LamX (CodeO Tabs TabB ExtN LamS lamEnv lamCx lam_start2 lam_make2 run_ofS tLam)
/-! what a def got is asked, its own slots known where that raises -/
/-- the asking def's context, entered at s -/
abbrev gCx (X : Cx) (Ng : List Str) (q : Str) (sg : Scope) (g : Addr) (cd : Value) (s : Shared) (H : Hp) : Cx := cxOf C8.CX0 X.prog X.w X.K X.mg X.base Ng q sg g cd X.A X.stack s H C8.E0
/-- the lambda that was made -/
abbrev lamO (X : Cx) (ps : Arguments) (b : Expr) (sc : Scope) (pm : Value) (c' : Addr) (ct : Value) : Obj := PySem.W.kla_obj "<lambda>" (X.env.qual ++ "<lambda>") ps b sc (cloFrom X.env.cells sc.names []) pm c' ct
theorem act_at {X : Cx} {pins : List (Addr × Obj)} {σ : L2.St} {H : Hp} {s : Shared} {Ng : List Str} {q : Str} {sg : Scope} {g f c' : Addr} {cd pm ct : Value} {ps : Arguments} {b : Expr} {sc : Scope} {k i : Nat} {a : Str} {pn : List (Addr × Obj)} {xe : Value → Shared → Prop} {W : WX} {E : XK} {tb : TE} {p1 p2 : Pos} {σ0 : L2.St}
    (I : Inv X pins σ H s) (L : LamS X.env.scope sc) (hf : s.heap.get? f = some (lamO X ps b sc pm c' ct)) (hn : H f = none) (hfr : f ∉ frs X.stack)
    (hb : bindArgs (PySem.W.kla_fn "<lambda>" (X.env.qual ++ "<lambda>") ps b sc (cloFrom X.env.cells sc.names []) pm (.ref c') ct) ⟨[], []⟩ = pure [])
    (tk : Takes ((gCx X Ng q sg g cd s H).tr pn xe) W) (hW : ∀ cls d H', E cls d H' → W cls d σ0 H') (hr : Room (k + 1) (X.A.deeper (envOfC q sg s.heap.objs.size g cd)))
    (hbody : ∀ (A : Around) (o : List Env) (s : Shared) (H : Hp), Room k (A.deeper (lamEnv X sc s.heap.objs.size f c')) → PE (lamCx X A o s H E sc f c') b tb)
    (hN : Ng[i]? = some a) (hv : Vis sg a) (d1 : (a == ("__debug__" : Str)) = false) (d2 : (a == ("__classdict__" : Str)) = false) :
    PE ((gCx X Ng q sg g cd s H).tr pn xe) (.Call (.Name a p1) [] [] p2) (fun σZ HZ Q => σZ = σ0 ∧ σZ[i]? = some (some (.ref f)) ∧ HZ c' = some (CodeO c' (X.env.qual ++ "<lambda>")) ∧ tb σ HZ Q) := by
  refine ⟨fun pz sz σz hz Qz J ⟨eσ, h1, h2, h3⟩ => ?_⟩
  have nm := (pe_var (pos := p1) (i := i) hN hv d1 d2).run pz sz σz hz (fun v H1 => v = .ref f ∧ H1 = hz) J ⟨_, h1, rfl, rfl⟩
  refine wpAny_Call_Name_kw (thn nm ?_)
  rintro u s1 ⟨v, H1, J1, r1, ⟨ev, eh⟩⟩
  subst ev
  rw [eh] at J1
  obtain rfl : u = Value.ref f := r1
  have o1 : s1.heap.get? f = some (lamO X ps b sc pm c' ct) := J1.base.keep f _ hf hn hfr (fun y => List.not_mem_nil (show f ∈ ([] : List Addr) from y))
  have go : codeAny (model X.prog X.w) (X.A.deeper (envOfC q sg s.heap.objs.size g cd)) (.call (.ref f) ⟨[], []⟩) (CR (L2.CX X.prog X.w) (envOfC q sg s.heap.objs.size g cd :: X.stack) X.prog X.w hz s1 Qz E) s1 := by
    obtain ⟨⟨oc, vs, t, ho, hd, hc⟩, _, _⟩ := J1.hok c' _ h2
    refine PySem.W.kla_callFunE hr.depth o1 rfl L.co L.gen rfl ⟨c', oc, vs, t, rfl, ho, hd, hc⟩ ?_
    rw [hb]
    refine wpAny_pure (wpAny_newFunctionEnv (fun y hy => (L.own y hy).2) (fun y hy => absurd hy (by simp)) (fun h1' hns hsb => ⟨J1.nolimit.fresh _ hsb, ?_⟩) L.kind)
    show codeAny _ _ (.expr b (lamEnv X sc s1.heap.objs.size f c')) _ _
    have st : Inv (lamCx X (X.A.deeper (envOfC q sg s.heap.objs.size g cd)) (envOfC q sg s.heap.objs.size g cd :: X.stack) s1 hz E sc f c') [] σ hz { s1 with heap := h1', toks := s1.toks + ([] : List (Str × Value)).length } :=
      lam_start2 I L J1.env0 hr.hd J1.base hns (fun b' o' e' => hsb.extBut b' o' (Nat.ne_of_lt (Heap.lt_size e')) (Heap.get?_push_of_some _ e'))
    refine PySem.W.kla_codeExpr (wpAny_mono ((hbody _ _ s1 hz (hr.deeper _)).run [] _ _ hz Qz st h3) ?_ (fun _ _ x => x))
    rintro v' s' ⟨w', H', J', rv, qv⟩
    exact ⟨w', H', J'.os, J'.bare, J'.base, J'.hok, rv, qv⟩
  refine PySem.W.callWith_F0 ⟨_, _, _, _, o1⟩ (wpAny_call (codeAny_mono go ?_))
  intro r s' hq
  cases r with
  | error e =>
    refine tk e s' (XE.of_call J1 (fun cls d H' hE => ?_) hq)
    rw [eσ]
    exact hW cls d H' hE
  | ok fl =>
    cases fl with
    | ret u => exact J1.after hq
    | next => cases hq
    | brk => cases hq
    | cont => cases hq
/-- the def that asks: σ0 its slots where it asks -/
def AsksOf (X : Cx) (Ng : List Str) (x : Str) (sg : Scope) (g : Addr) (cd : Value) (bg : List Stmt) (a : Str) (q : Str) (TT : (XK → Hp → VK → Prop) → Hp → VK → Prop) : Prop :=
  ∀ (f c' : Addr) (s : Shared) (H : Hp) (Q : VK) (tl : XK → Hp → VK → Prop),
    (∀ (σ0 : L2.St) (W : WX) (pn : List (Addr × Obj)) (xe : Value → Shared → Prop) (E : XK) (p1 p2 : Pos), Takes ((gCx X Ng x sg g cd s H).tr pn xe) W → (∀ cls d H', E cls d H' → W cls d σ0 H') →
      PE ((gCx X Ng x sg g cd s H).tr pn xe) (.Call (.Name a p1) [] [] p2) (fun σZ HZ Q => σZ = σ0 ∧ σZ[0]? = some (some (.ref f)) ∧ HZ c' = some (CodeO c' q) ∧ tl E HZ Q)) →
    H c' = some (CodeO c' q) → TT tl H Q → ∃ t, PSs (gCx X Ng x sg g cd s H).nox bg t ∧ t { nx := fun _ H' => Q .non H', rt := Q } (L2.start Ng [.ref f]) H
theorem pe_askcall {X : Cx} {T : List (Addr × Str)} {TT : (XK → Hp → VK → Prop) → Hp → VK → Prop} {x a : Str} {g c P : Addr} {k : Nat} {pg : Arguments} {bg : List Stmt} {sg : Scope} {dV kV doc pm cdv ct oc : Value} {an od : Option Addr} {osl : Array (Option Value)} {Ng : List Str}
    {ps : Arguments} {b : Expr} {sc : Scope} {t : XK → TE} {p lp pos : Pos} (hg : Gl X x) (hm : X.mg x = some (.ref g)) (hk : PySem.W.keepIn X.K (.ref g) = true)
    (lk : X.K.lookup g = some ⟨oc, od, .func (PySem.W.fnOf x x pg bg sg dV kV doc pm an cdv ct), osl⟩) (hcg : PySem.W.codeIn X.K cdv x = true) (hbi : L2.Binds X.K (PySem.W.fnOf x x pg bg sg dV kV doc pm an cdv ct) [a] []) (Sg : FnScope Ng [a] sg) (hN : Ng[0]? = some a) (hv : Vis sg a)
    (hG : AsksOf X Ng x sg g cdv bg a (X.env.qual ++ "<lambda>") TT) (TB : TabB X.base X.mg c P) (hcode : X.env.code = .ref c) (hT : (P, X.env.qual ++ "<lambda>") ∈ T) (hu : ∀ p ∈ T, p.1 = P → p.2 = X.env.qual ++ "<lambda>") (hr : Room (k + 2) X.A) (L : LamS X.env.scope sc) (hdef : defaultsOf ps X.env = ([], []))
    (hb : ∀ (q : Str) (cl : List (Str × Addr)) (pm cv ctv : Value), bindArgs (PySem.W.kla_fn "<lambda>" q ps b sc cl pm cv ctv) ⟨[], []⟩ = pure [])
    (hbody : ∀ (A : Around) (o : List Env) (s : Shared) (H : Hp) (E : XK) (f c' : Addr), Room k (A.deeper (lamEnv X sc s.heap.objs.size f c')) → PE (lamCx X A o s H E sc f c') b (t E))
    (d0 : (x == ("__debug__" : Str)) = false := by decide) (d1 : (a == ("__debug__" : Str)) = false := by decide) (d2 : (a == ("__classdict__" : Str)) = false := by decide) :
    PE X (.Call (.Name x p) [.Lambda ps b sc lp] [] pos) (tLam T TT t) := by
  refine ⟨fun pins s σ H Q I ⟨hTt, h⟩ => wpAny_Call_Name_kw (ld_glob I hg hm (PySem.W.callWith_K (h₀ := X.base) I.ok.mod.kin hk ?_ (by rfl) (by rfl)) d0)⟩
  show wpAny _ _ (spliced ((false, eval (.Lambda ps b sc lp) X.env) :: backTo pos (starEach [] X.env))) _ _ s
  refine Calls.spliced_cons (lam_make2 I TB hcode hT hu hTt hdef (L.has I.ok) fun f c' pm' ctv H1 s' J eN T1 hf hfn hfr hco => Calls.spliced_nil ⟨J.kIn, ?_⟩)
  refine wpAny_call (codeAny_mono (R := CR C8.CX0 X.stack X.prog X.w H1 s' Q C8.E0) (run_ofS (N := Ng) (ps := [a]) (us := [.ref f]) (vs := [.ref f]) lk hcg Sg hr J.env0 (hbi s' [.ref f] J.kIn rfl) (.cons rfl .nil) rfl fun hr' => ?_) fun r s2 hq => ?_)
  · obtain ⟨t', ht, hq⟩ := hG f c' s' H1 Q (fun E H' Q' => t E σ H' Q') (fun σ0 W pn xe E p1 p2 tk hW => act_at (i := 0) J L hf hfn hfr (hb _ _ _ _ _) tk hW hr' (fun A o s H hr2 => hbody A o s H E f c' hr2) hN hv d1 d2) hco (h H1 eN T1)
    exact ⟨t', ht.nox, hq⟩
  · cases r with
    | error e => exact (show False from hq).elim
    | ok fl =>
      cases fl with
      | ret u => exact J.after hq
      | next => cases hq
      | brk => cases hq
      | cont => cases hq
end HL

/-! own exceptions over any built-in base, their __init__ walked as a def; made with any count of arguments -/
namespace HL
open PySem PySem.Spec PyProof.Rows L2
open PySem.Builtin PySem.Builtin.ObjectAttr PySem.HandSPX
section
variable {prog : Program} {w : World} {A : Around} {R : Result → Shared → Prop} {hp : Heap} {g : Array GenState} {d : Drawn} {t : Nat} {os : OsState} {K : PySem.W.Frag} {f : Str} {tk : Tok} {v : Value} {x C : Addr} {fv : Array Value} {cd : ClassData}
/-- what a store on an instance looks up, told of its class alone -/
structure Mro (cd : ClassData) : Prop where
  pass : ∀ self, refuseLoop self "__setattr__" cd.mro = pure ()
  obj : cd.mro.contains (.type "object") = true
  ne : cd.mro.isEmpty = false
  hd : cd.hasDict = true
theorem osaG {o : Obj} {od : Option Obj} (X : K.In hp) (I : PySem.W.InstAt hp x o C od) (hcd : PySem.W.clsIn K C = some cd) (M : Mro cd) (ha : PySem.W.findIn K (.ref C) f = some none)
    (hq : wpAny (model prog w) A.in1 (storeInOwnDict (.ref x) (.ref C) (.str f tk) f v false) (fun r s' => match r with | .done fl => R (.ok fl) s' | .again c' => c'.quiet = true ∧ codeAny (model prog w) A c' R s') (fun e s' => R (.error e) s') ⟨hp, g, d, t, os⟩) :
    codeAny (model prog w) A (.call (.builtin "object.__setattr__") ⟨[.ref x, .str f tk, v], []⟩) R ⟨hp, g, d, t, os⟩ := by
  have SF := F.store_object
  have sub : PySem.W.Looks (model prog w) hp (isInstance (.ref x) (.type "object")) true := I.type.andThen (PySem.W.looks_mroIn X (by unfold PySem.W.mroIn; rw [hcd, Option.bind_some, if_neg (by rw [M.ne]; decide), M.obj]))
  refine codeAny_call_builtin SF.slot.plain SF.entry (@PySem.W.check_slot (model prog w) _ _ ⟨hp, g, d, t, os⟩ "object.__setattr__" "object" "__setattr__" (.ref x) [.str f tk, v] [] _ SF.kind SF.split sub (SF.args (.ref x) (.str f tk) v) ?_)
  have hmr : PySem.W.Looks (model prog w) hp (mroOf (.ref C)) cd.mro := (PySem.W.looks_clsIn X hcd).andThen .now
  have L3 : PySem.W.Looks (model prog w) hp (storeTaker? none) none := .now
  rw [PySem.W.osa_eq, refuse_eq]
  refine wpAny_bind (wpAny_bind (I.type.at (wpAny_bind (hmr.at ?_))))
  rw [M.pass]
  refine wpAny_pure (wpAny_bind (I.type.at (wpAny_bind ((PySem.W.looks_findIn X ha).at (wpAny_bind (L3.at ?_))))))
  exact hq
/-- the first field of an instance -/
theorem store1 (X : K.In hp) (hx : hp.get? x = some { cls := .ref C, data := .fields fv }) (hcd : PySem.W.clsIn K C = some cd) (M : Mro cd) (ha : PySem.W.findIn K (.ref C) f = some none)
    (hq : ∀ h' tk' dx, (∀ b o, b ≠ x → hp.get? b = some o → h'.get? b = some o) → hp.objs.size ≤ dx → dx ≠ x → h'.get? x = some { cls := .ref C, dict := some dx, data := .fields fv } → h'.Ns1 dx (fun y => if y = f then some v else none) → R (.ok (.ret .none)) ⟨h', g, d, tk', os⟩) :
    codeAny (model prog w) A (.call (.builtin "object.__setattr__") ⟨[.ref x, .str f tk, v], []⟩) R ⟨hp, g, d, t, os⟩ := by
  have hxs : x ≠ hp.objs.size := Nat.ne_of_lt (Heap.lt_size hx)
  refine osaG (od := none) X ⟨hx, rfl, rfl, trivial⟩ hcd M ha ?_
  have hc : PySem.W.Looks (model prog w) hp (classData C) cd := PySem.W.looks_clsIn X hcd
  obtain ⟨_, _, _, hdt⟩ := M
  obtain ⟨nm, bs, mro, ns, qn, hd, sn, sb, ab, col, del⟩ := cd
  cases hdt
  unfold storeInOwnDict ownDictForStores
  repeat (first | with_reducible refine store_in_new ?_ ?_ | with_reducible refine wpAny_loadPart_at hx ?_ | with_reducible refine hc.at ?_ | wp_step)
  · have nothing : ∀ e ∈ (#[] : Array DictEntry).toList, False := fun e he => by simp at he
    exact ⟨_, #[], _, (Heap.get?_update_ne _ _ _ _ hxs.symm).trans (Heap.get?_push_at rfl rfl),
      rfl, fun e he => absurd he (by simp), fun _ => rfl⟩
  · intro h' tk' hn' hs
    refine hq h' tk' hp.objs.size ?_ (Nat.le_refl _) hxs.symm ?_ hn'
    · intro b o hb ho
      rw [hs.2 b (Nat.ne_of_lt (Heap.lt_size ho)), Heap.get?_update_ne _ _ _ _ hb]
      exact Heap.get?_push_of_some _ ho
    · rw [hs.2 x hxs]
      exact Heap.get?_update_self _ (Heap.get?_push_of_some _ hx) rfl
/-- a further field -/
theorem store2 {dx : Addr} {m0 : Str → Option Value} {nl : List Str} (X : K.In hp) (hx : hp.get? x = some { cls := .ref C, dict := some dx, data := .fields fv }) (hns : hp.Ns1 dx m0) (hw : Within m0 nl) (hz : nl.length ≤ 1000) (hcd : PySem.W.clsIn K C = some cd) (M : Mro cd) (ha : PySem.W.findIn K (.ref C) f = some none)
    (hq : ∀ h' tk', (∀ b o, b ≠ dx → hp.get? b = some o → h'.get? b = some o) → h'.Ns1 dx (fun y => if y = f then some v else m0 y) → R (.ok (.ret .none)) ⟨h', g, d, tk', os⟩) :
    codeAny (model prog w) A (.call (.builtin "object.__setattr__") ⟨[.ref x, .str f tk, v], []⟩) R ⟨hp, g, d, t, os⟩ := by
  obtain ⟨oD, _, _, hoD, _, _⟩ := hns.count hw
  refine osaG (od := some oD) X ⟨hx, rfl, rfl, hoD⟩ hcd M ha ?_
  have hc : PySem.W.Looks (model prog w) hp (classData C) cd := PySem.W.looks_clsIn X hcd
  obtain ⟨_, _, _, hdt⟩ := M
  obtain ⟨nm, bs, mro, ns, qn, hd, sn, sb, ab, col, del⟩ := cd
  cases hdt
  unfold storeInOwnDict ownDictForStores
  repeat (first | with_reducible refine PySem.OEX.store_in_old hns hw hz ?_ | with_reducible refine wpAny_loadPart_at hx ?_ | with_reducible refine hc.at ?_ | wp_step)
  exact fun h' tk' hn' hs => hq h' tk' (fun b o hb ho => by rw [hs.2 b hb]; exact ho) hn'
end
/-- what the written part says of an own class over a built-in base -/
structure OexB (K : PySem.W.Frag) (C : Addr) (nid : String) (bmB : List Value) : Prop where
  cls : ∃ nm q N bs bm sn sub ab col dd k0 k1 k2 k3 k5, K.lookup C = some (excClassObj nm q C N bs bm true sn sub ab col dd k0 k1 k2 k3 k5 nid) ∧ (∀ X : String, bm.contains (.type X) = bmB.contains (.type X)) ∧ ∀ self, refuseLoop self "__setattr__" (.ref C :: bm) = pure ()
  ob : bmB.contains (.type "object") = true
  sa : PySem.W.findIn K (.ref C) "__setattr__" = some (some (.builtin "object.__setattr__"))
  exC : PySem.W.subIn K (.ref C) (.type "BaseException") = some true
  tyC : PySem.W.typeIn K (.ref C) = some (.type "type")
  kC : PySem.W.keepIn K (.ref C) = true
theorem OexB.mro {K : PySem.W.Frag} {C : Addr} {nid : String} {bmB : List Value} (T : OexB K C nid bmB) : ∃ cd, PySem.W.clsIn K C = some cd ∧ Mro cd := by
  obtain ⟨nm, q, N, bs, bm, sn, sub, ab, col, dd, k0, k1, k2, k3, k5, hC, h1, h2⟩ := T.cls
  refine ⟨{ name := nm, bases := bs, mro := .ref C :: bm, ns := N, qualname := q, hasDict := true, slotNames := sn, subclasses := sub, abstract := ab, collection := col, hasDel := false }, by unfold PySem.W.clsIn; rw [hC] <;> rfl, h2, ?_, rfl, rfl⟩
  show (Value.ref C :: bm).contains (.type "object") = true
  rw [List.contains_cons, h1, T.ob, Bool.or_true]
section
variable {X : Cx} {nid : String} {bmB : List Value} {pins : List (Addr × Obj)} {σ : L2.St} {H : Hp} {s : Shared} {a C dx : Addr} {f : Str} {y : V} {u : Value} {fs : List (Str × V)} {Q : Unit → Shared → Prop} {E : Value → Shared → Prop} {A : Around}
theorem ostN (T : OexB X.K C nid bmB) (I : Inv X pins σ H s) (e : H a = some (exo a C none)) (hno : PySem.W.findIn X.K (.ref C) f = some none) (ry : RelV y u)
    (h : ∀ dx s', H dx = none → dx ≠ a → Inv X pins σ (upd (upd H dx (exd dx [(f, y)])) a (exo a C (some dx))) s' → Q () s') : wpAny (model X.prog X.w) A (setAttr (.ref a) f u) Q E s := by
  obtain ⟨cd, hcl, M⟩ := T.mro
  obtain ⟨t1, ho⟩ := exo_at I.hok e
  obtain ⟨hp, g, d, t, os⟩ := s
  refine PySem.W.set_plain (od := none) I.kIn ⟨ho, rfl, rfl, trivial⟩ T.sa (store1 I.kIn ho hcl M hno fun h' tk' dx k dn dne hx hn => ?_)
  have nH : H dx = none := I.hok.fresh dn
  have old : ∀ {b : Addr} {o : Obj}, hp.get? b = some o → b ≠ dx := fun {b o} q => Nat.ne_of_lt (Nat.lt_of_lt_of_le (Heap.lt_size q) dn)
  have off : ∀ {b : Addr}, H b = none → b ≠ a := fun {b} n z => by rw [z, e] at n; cases n
  have two : ∀ {b : Addr} {o : HO}, H b = some o → exo a C none ≠ o → upd (upd H dx (exd dx [(f, y)])) a (exo a C (some dx)) b = some o := fun {b o} q ne => by
    rw [upd_ne (at_ne e q ne), upd_ne (ne_of_none q nH)]
    exact q
  refine h dx _ nH dne (I.un (t' := tk') { keep := fun b o q n _ _ => k b o (off n) q, slot := fun b o q n _ _ => ⟨o.slots, k b o (off n) q⟩, free := ?fr, there := ?th, tups := fun b xs q => two q exo_tup, frzs := fun b o v q => two q exo_frz, tbls := fun b ps q => ⟨#[], by rw [two q exo_tbl]; simp⟩ } fun b o q => ?ok)
  case fr =>
    intro b o q n _
    rw [upd_ne (off n), upd_ne (old q)]
    exact n
  case th =>
    intro b o q _
    by_cases hb : b = a
    · rw [hb]
      exact ⟨_, hx⟩
    · exact ⟨o, k b o hb q⟩
  case ok =>
    by_cases hb : b = a
    · subst hb
      rw [upd_same] at q
      cases q
      exact exo_ok hx
    rw [upd_ne hb] at q
    by_cases hd : b = dx
    · subst hd
      rw [upd_same] at q
      cases q
      exact exd_ok hn (relO_put (fs := []) ry fun g => True.intro)
    rw [upd_ne hd] at q
    refine (I.hok b o q).stay (fun c v hc z => k c v ?_ z) (fun c hc => two hc exo_own) (fun c xs hc => two hc exo_tup)
    rcases hc with hc | hc
    · rw [hc]; exact hb
    · exact at_ne e hc exo_own
theorem ostO (T : OexB X.K C nid bmB) (I : Inv X pins σ H s) (e : H a = some (exo a C (some dx))) (ed : H dx = some (exd dx fs)) (hl : fs.length ≤ 900) (hno : PySem.W.findIn X.K (.ref C) f = some none) (ry : RelV y u)
    (h : ∀ s', Inv X pins σ (upd H dx (exd dx ((f, y) :: fs))) s' → Q () s') : wpAny (model X.prog X.w) A (setAttr (.ref a) f u) Q E s := by
  obtain ⟨cd, hcl, M⟩ := T.mro
  obtain ⟨t1, ho⟩ := exo_at I.hok e
  obtain ⟨mA, hns, rel⟩ := exd_at I.hok ed
  have hw := within_of rel
  obtain ⟨hp, g, d, t, os⟩ := s
  obtain ⟨oD, _, _, hoD, _, _⟩ := hns.count hw
  refine PySem.W.set_plain (od := some oD) I.kIn ⟨ho, rfl, rfl, hoD⟩ T.sa (store2 I.kIn ho hns hw (by rw [List.length_map]; omega) hcl M hno fun h' tk' k hn => ?_)
  have hd : ∃ o, h'.get? dx = some o := let ⟨o, _, _, e', _⟩ := hn; ⟨o, e'⟩
  exact h _ (I.write (t' := tk') (x := dx) (e := dx) (o := exd dx ((f, y) :: fs)) (by rw [ed]; exact True.intro) (.inl rfl) k hd (exd_ok hn (relO_put ry rel)))
end
/-! ### readings and rules -/
/-- self.f = e -/
def tOstB (K : PySem.W.Frag) (nid : String) (bmB : List Value) (f : Str) (to te : TE) : TS := fun D σ H => te σ H fun y H1 => to σ H1 fun x H2 => ∃ a C : Addr, x = .ref a ∧ OexB K C nid bmB ∧ PySem.W.findIn K (.ref C) f = some none ∧
  ((H2 a = some (exo a C none) ∧ ∀ dx, H2 dx = none → dx ≠ a → D.nx σ (upd (upd H2 dx (exd dx [(f, y)])) a (exo a C (some dx)))) ∨
    ∃ (dx : Addr) (fs : List (Str × V)), H2 a = some (exo a C (some dx)) ∧ H2 dx = some (exd dx fs) ∧ fs.length ≤ 900 ∧ D.nx σ (upd H2 dx (exd dx ((f, y) :: fs))))
section
variable {X : Cx} {nid : String} {bmB : List Value} {o e : Expr} {es : List Expr} {to te : TE} {ta : TA} {f : Str} {p p' pos : Pos}
theorem ps_ostB (ho : PE X o to) (he : PE X e te) (hs : swapsWith e (some (.Attribute o f p')) pos.line X.env = pure false := by rfl) : PS X (.Assign [.Attribute o f p'] e pos) (tOstB X.K nid bmB f to te) := by
  refine ⟨fun pins s σ H D I h => plainObj_wpAny_Assign_Attribute (thn (he.run pins s σ H _ I h) fun v s1 ⟨y, H1, I1, r1, q1⟩ => thn (ho.run pins s1 σ H1 _ I1 q1) ?_) hs⟩
  rintro u s2 ⟨x, H2, I2, r2, a, C, ex, T, hno, q⟩
  subst ex
  obtain rfl : u = Value.ref a := r2
  rcases q with ⟨ea, q⟩ | ⟨dx, fs, ea, ed, hl, q⟩
  · exact ostN T I2 ea hno r1 fun dx s' n ne J => ⟨σ, _, J, q dx n ne⟩
  · exact ostO T I2 ea ed hl hno r1 fun s' J => ⟨σ, _, J, q⟩
/-- the making, the arguments at hand -/
theorem make_at {CX : CXT} {B initId : String} {C fI : Addr} {k : Nat} {fd : FuncData} {ps : List Str} {sp : Sp} (EF : ExcBaseFacts B nid initId bmB) (T : OexB X.K C nid bmB) (iC : PySem.W.findIn X.K (.ref C) "__init__" = some (some (.ref fI))) (tI : PySem.W.typeIn X.K (.ref fI) = some (.type "function"))
    (F1 : FnOk X.prog X.w X.K X.mg X.base CX k fI fd ps sp) (hr : Room (k + 1) X.A) (hb : Binds X.K fd ps []) (hx : Passes CX X (fun _ _ _ => False)) {pins : List (Addr × Obj)} {σ : L2.St} {H1 : Hp} {s1 : Shared} {vs : List V} {us : List Value} {Q : XK} (I1 : Inv X pins σ H1 s1) (r1 : Vals vs us) (hz : vs.length ≤ 1000)
    (q1 : ∀ a, H1 a = none → sp (.ref a :: vs) (upd H1 a (exo a C none)) (fun v H2 => v = .non ∧ ∃ (d : Addr) (fs : List (Str × V)), H2 a = some (exo a C (some d)) ∧ H2 d = some (exd d fs) ∧ H1 d = none ∧ Q (.ref C) (some d) (upd (del H2 a) d (.xd fs))) (fun _ _ _ => False)) :
    wpAny (model X.prog X.w) X.A (call (.ref C) us) (MkP X pins σ Q) X.xe s1 := by
  obtain ⟨nm, q, N, bs, bm, sn, sub, ab, col, dd, k0, k1, k2, k3, k5, hC, h1, h2⟩ := T.cls
  obtain ⟨hp, g, dr, tk, os⟩ := s1
  have le : hp.objs.size ≤ hp.objs.size + 1 := Nat.le_succ _
  have hq := q1 (hp.objs.size + 1) (I1.hok.fresh le)
  have up : ∀ b o, hp.get? b = some o → ((hp.push (PySem.W.kdv_tup us)).push (excO C hp.objs.size)).get? b = some o := fun b o z => Heap.get?_push_of_some _ (Heap.get?_push_of_some _ z)
  have at1 : ((hp.push (PySem.W.kdv_tup us)).push (excO C hp.objs.size)).get? (hp.objs.size + 1) = some (excO C hp.objs.size) := by heap_get
  have I2 : Inv X pins σ (upd H1 (hp.objs.size + 1) (exo (hp.objs.size + 1) C none)) ⟨(hp.push (PySem.W.kdv_tup us)).push (excO C hp.objs.size), g, dr, tk, os⟩ := I1.laid (t' := tk) up le (exo_ok at1)
  have r2 : Vals (V.ref (hp.objs.size + 1) :: vs) (Value.ref (hp.objs.size + 1) :: us) := .cons rfl r1
  have len : (Value.ref (hp.objs.size + 1) :: us ++ []).length = ps.length := by
    rw [List.append_nil, ← r2.length]
    exact F1.len _ _ _ _ hq
  have bi := hb _ (Value.ref (hp.objs.size + 1) :: us) I2.kIn len
  rw [List.append_nil] at bi
  have small : us.length ≤ sizeLine := by
    rw [← Paired.length r1, sizeLine_eq]
    omega
  have run := F1.run _ X.stack _ _ ⟨Value.ref (hp.objs.size + 1) :: us, []⟩ (Value.ref (hp.objs.size + 1) :: us) _ _ (fun _ _ _ => False) (hr.make C us []) (I2.env0.make C us []) bi r2 hq
  refine wpAny_call (call_own EF h1 (I1.kIn _ _ hC) (PySem.W.looks_findIn I1.kIn iC) (fun self => PySem.W.bind_fn I1.kIn self tI) small (codeAny_mono run ?_))
  rintro (er | fl) s' hq'
  · exact hx pins σ _ _ er s' I2 hq'
  · cases fl with
    | ret u =>
      obtain ⟨v, H2, os2, bare2, un2, hok2, rv, ev, d, fs, ea, ed, hd1, q2⟩ := hq'
      subst ev
      exact ⟨rv, mk_end (raises_own T.exC T.tyC) I1 le up un2 hok2 os2 bare2 ea ed hd1 q2⟩
    | next => cases hq'
    | brk => cases hq'
    | cont => cases hq'
def tMkB (C : Addr) (sp : Sp) (ta : TA) : L2.St → Hp → XK → Prop := fun σ H Q => ta σ H fun vs H1 => vs.length ≤ 1000 ∧ ∀ a, H1 a = none → sp (.ref a :: vs) (upd H1 a (exo a C none))
  (fun v H2 => v = .non ∧ ∃ (d : Addr) (fs : List (Str × V)), H2 a = some (exo a C (some d)) ∧ H2 d = some (exd d fs) ∧ H1 d = none ∧ Q (.ref C) (some d) (upd (del H2 a) d (.xd fs))) (fun _ _ _ => False)
theorem pmk_oexB {CX : CXT} {B initId : String} {x : Str} {C fI : Addr} {k : Nat} {fd : FuncData} {ps : List Str} {sp : Sp} (EF : ExcBaseFacts B nid initId bmB) (T : OexB X.K C nid bmB) (iC : PySem.W.findIn X.K (.ref C) "__init__" = some (some (.ref fI))) (tI : PySem.W.typeIn X.K (.ref fI) = some (.type "function"))
    (F1 : FnOk X.prog X.w X.K X.mg X.base CX k fI fd ps sp) (hr : Room (k + 1) X.A) (hb : Binds X.K fd ps []) (hx : Passes CX X (fun _ _ _ => False)) (hg : Gl X x) (hm : X.mg x = some (.ref C)) (ha : PA X (e :: es) ta)
    (hdb : (x == ("__debug__" : Str)) = false := by decide) (he : starEach (e :: es) X.env = (false, eval e X.env) :: starEach es X.env := by rfl) (hpl : (backTo pos (starEach es X.env)).any (·.1) = false := by rfl) :
    PMk X (.Call (.Name x p) (e :: es) [] pos) (tMkB C sp ta) := fun pins s σ H Q I h =>
  wpAny_Call_Name_kw (ld_glob I hg hm (PySem.W.callWith_K (h₀ := X.base) I.ok.mod.kin T.kC (thn (ha.run pos pins s σ H _ I h) fun us s1 ⟨vs, H1, I1, r1, hz, q1⟩ => ⟨I1.kIn, make_at EF T iC tI F1 hr hb hx I1 r1 hz q1⟩) he hpl) hdb)
theorem pmk_oexB0 {CX : CXT} {B initId : String} {x : Str} {C fI : Addr} {k : Nat} {fd : FuncData} {ps : List Str} {sp : Sp} (EF : ExcBaseFacts B nid initId bmB) (T : OexB X.K C nid bmB) (iC : PySem.W.findIn X.K (.ref C) "__init__" = some (some (.ref fI))) (tI : PySem.W.typeIn X.K (.ref fI) = some (.type "function"))
    (F1 : FnOk X.prog X.w X.K X.mg X.base CX k fI fd ps sp) (hr : Room (k + 1) X.A) (hb : Binds X.K fd ps []) (hx : Passes CX X (fun _ _ _ => False)) (hg : Gl X x) (hm : X.mg x = some (.ref C)) (hdb : (x == ("__debug__" : Str)) = false := by decide) :
    PMk X (.Call (.Name x p) [] [] pos) (tMkB C sp tNil) := fun pins s σ H Q I h =>
  wpAny_Call_Name_kw (ld_glob I hg hm (PySem.W.callWith_K0 I.kIn T.kC (make_at EF T iC tI F1 hr hb hx I .nil (Nat.zero_le _) h.2)) hdb)
end
end HL

namespace HL
open PySem PySem.Spec PyProof.Rows L2
/-! sorted(t), t a tuple of ints -/
def rSortedTup (K : PySem.W.Frag) : List V → Hp → VK → Prop := fun vs H Q => ∃ (a : Addr) (ns : List Int), vs = [V.ref a] ∧ SqT K H a (ns.map V.int) ∧ ∀ (ns' : List Int) (p : Addr), ns'.Perm ns → ns'.Pairwise (· ≤ ·) → H p = none → Q (.ref p) (upd H p (.lst (ns'.map V.int)))
theorem cr_sortedTup {X : Cx} : CallR X (.builtin "sorted") (rSortedTup X.K) := by
  intro pins s σ H vs us Q I r h
  obtain ⟨a, ns, rfl, hs, q⟩ := h
  obtain ⟨its, rv, ⟨o, ho, hc, n, hd⟩, hz⟩ := I.tuple hs
  rw [Vals.ref1 r]
  have hi := rv.ints
  have hz' : its.length ≤ sizeLine := by rw [← rv.length]; exact hz
  refine Calls.call_function_entry kind_sorted plain_sorted entry_sorted (args_sorted1 _) ?_
  unfold Builtin.«sorted»
  refine wpAny_bind (m := checkCount "sorted" 1 1 _) (wpAny_pure (wpAny_bind (wpAny_collect_seq (T := "tuple") a (.inr rfl) ho hc hd (fun h1 k1 => ?_) (by rw [List.size_toArray]; exact hz'))))
  rw [List.toList_toArray]
  refine wpAny_bind (wpAny_newList ?_ hz')
  have at1 : (h1.push (seqObj "list" its.toArray 0)).get? h1.objs.size = some (seqObj "list" its.toArray 0) := Heap.get?_push_size _ rfl
  have I1 := I.kept (t' := s.toks) k1
  refine wpAny_bind (wpAny_holding (wpAny_call_entry slot_list_sort ⟨_, at1, rfl⟩ entry_list_sort (SrtO.list_sort_ord SrtO.swo_int at1 hz' (fun h2 => SrtO.ints_sortable hi h2) fun out p1 p2 => ⟨_, rfl, ?_⟩) (args_list_sort _)))
  refine wpAny_pure ⟨_, rfl, ?_⟩
  obtain ⟨j1, j2, j3⟩ := SrtO.ints_out hi p1 p2
  obtain ⟨ep, he⟩ := sortedHeap_at (vs := its) (out := out.toArray) at1
  have hl : ((out.map SrtO.iv).map V.int).length ≤ sizeLine := by
    rw [List.length_map, j2.length_eq]
    rw [List.length_map] at hz
    exact hz
  refine ⟨.ref _, upd H h1.objs.size (.lst ((out.map SrtO.iv).map V.int)), I1.laid (t' := s.toks) (fun b o e => ?_) (Nat.le_refl _) ⟨hl, out, ep, vals_of_ints j1, he⟩, rfl, q _ _ j2 j3 (I1.hok.fresh (Nat.le_refl _))⟩
  have lb : b < h1.objs.size := Heap.lt_size e
  rw [sortedHeap_old (Nat.ne_of_lt lb) (by rw [Heap.size_push]; exact Nat.lt_succ_of_lt lb)]
  exact Heap.get?_push_of_some _ e
end HL

namespace HL
open PySem PySem.Spec PyProof.Rows L2
open AutoSeq1 (wpAny_loadPart')
/-! t * k, k from 0 on: no times is a new tuple of nothing -/
theorem tuple_mul0 (l : Addr) (items : Array Value) (n : Nat) (dd : Option Addr) (sl : Array (Option Value)) (u : Tok) (he : items.isEmpty = false) :
    Meets (Builtin.«tuple.__mul__» ⟨[.ref l, .int 0 u], []⟩)
      (fun _ R s => s.heap.get? l = some { cls := .type "tuple", dict := dd, data := .seq items n, slots := sl } ∧ R (.ok (.ret (.ref s.heap.objs.size))) { s with heap := s.heap.push { cls := .type "tuple", data := .seq #[] }, toks := s.toks }) :=
  .of_wp fun prog w A R s h => by
    obtain ⟨hp, g, d, tk, os⟩ := s
    obtain ⟨hl, h⟩ := h
    have f1 := AutoSeq1.idx_int
    have e1 : ¬ ((items.isEmpty || ((0 : Int) == 1)) = true) := by rw [he]; decide
    have e2 : (decide ((0 : Int) ≤ 0) || items.isEmpty) = true := by rw [he]; decide
    have e3 : ¬ ((#[] : Array Value).size > sizeLine) := by show ¬ (0 > sizeLine); decide
    wp_walk using wpAny_loadPart' hl
    repeat (first
      | (refine wpAny_ite_false (by decide) ?_; wp_walk using wpAny_loadPart' hl)
      | (refine wpAny_ite_false (decide_eq_false e1) ?_; wp_walk using wpAny_loadPart' hl)
      | (refine wpAny_ite_true (decide_eq_true e2) ?_; wp_walk using wpAny_loadPart' hl)
      | (refine wpAny_ite_true (by decide) ?_; wp_walk using wpAny_loadPart' hl)
      | (refine wpAny_ite_false (decide_eq_false e3) ?_; wp_walk using wpAny_loadPart' hl))
    exact ⟨_, rfl, h⟩
/-- no times, or as often as rRepA lets -/
def rRepN (K : PySem.W.Frag) : R2 := fun x y H Q => (∃ l xs, x = .ref l ∧ y = .int 0 ∧ SqT K H l xs ∧ xs ≠ [] ∧ ∀ p, H p = none → Q (.ref p) (upd H p (.tup []))) ∨ rRepA K x y H Q
theorem op_repN {X : Cx} : OpR X (binaryOp .Mult) (rRepN X.K) := by
  intro pins s σ H x y v u Q I rx ry h
  rcases h with ⟨l, xs, rfl, rfl, hT, hne, q⟩ | h
  · cases rx
    obtain ⟨t, rfl⟩ := ry
    obtain ⟨its, r, ⟨⟨cl, dd, dat, sl⟩, ho, hc, n, hd⟩, _⟩ := I.tuple hT
    simp only at hc hd
    subst hc hd
    have he : its.toArray.isEmpty = false := by
      cases its with
      | nil => exact absurd (List.eq_nil_of_length_eq_zero r.length) hne
      | cons a b => rfl
    refine wpAny_binaryOp_repeat_ref (T := "tuple") (U := "int") (by decide) ⟨_, ho, rfl⟩ (fun s' => typeIs_int s' 0 t) noFill_tuple_mul F.fills_int_mul F.slot_int_rmul repeat_tuple F.slot_int_index.lookup
      (call_meets F.slot_int_rmul (typeIs_int s 0 t) F.entry_int_rmul (F.args_int_rmul_2 _ _) (int_rmul_tuple 0 t l its.toArray n dd sl)
        ⟨ho, rfl, ⟨_, ho, rfl⟩, call_meets F.slot_tuple_mul ⟨_, ho, rfl⟩ F.entry_tuple_mul (F.args_tuple_mul_2 _ _) (tuple_mul0 l its.toArray n dd sl t he) ⟨ho, ?_⟩⟩)
    exact ⟨.ref s.heap.objs.size, _, I.laid (t' := s.toks) (o := .tup []) (fun b ob e => Heap.get?_push_of_some _ e) (Nat.le_refl _) ⟨Nat.zero_le _, [], .nil, IsTup.new _ _⟩, rfl, q _ (I.hok.fresh (Nat.le_refl _))⟩
  · exact op_repA pins s σ H x y v u Q I rx ry h
end HL

namespace HL
open PySem PySem.Spec PyProof.Rows L2
/-! {t: v}, t a tuple of ints and texts -/
def tDisp1T (tk tv : TE) : TE := fun σ H Q => ∀ p, H p = none → tk σ (upd H p (.dT [])) fun x H1 => tv σ H1 fun y H2 => ∃ (k : List Key) (b : Addr), x = .ref b ∧ H2 b = some (.tup (k.map kV)) ∧ H2 p = some (.dT []) ∧ Q (.ref p) (upd H2 p (.dT [(k, y)]))
theorem pe_disp1T {X : Cx} {ke ve : Expr} {pos : Pos} {tk tv : TE} (hu : X.A.units + 1 < cLine) (hk : PE X ke tk) (hv : PE X ve tv) : PE X (.Dict [some ke] [ve] pos) (tDisp1T tk tv) := by
  refine ⟨fun pins s σ H Q I q => ?_⟩
  have hn := I.hok.fresh (Nat.le_refl s.heap.objs.size)
  have I1 := I.laid (a := s.heap.objs.size) (o := .dT []) (h' := s.heap.push { cls := .type "dict", data := .dict #[] }) (t' := s.toks) (fun _ _ e => Heap.get?_push_of_some _ e) (Nat.le_refl _) (dt_empty s.heap I.big)
  rw [arm_eval_Dict, zip_pairTrees [some ke] [ve] X.env pos rfl rfl, dictDisplay_pairs (pairTrees [some ke] [ve] X.env pos) (fun z => by cases z) (by show 1 < 17; decide)]
  refine wpAny_bind (wpAny_standAt (wpAny_bind ?_))
  unfold subDict
  refine wpAny_bind (wpAny_alloc (wpAny_bind (wpAny_holding ?_)))
  rw [if_pos (show (pairTrees [some ke] [ve] X.env pos).length ≤ 15 by show 1 ≤ 15; decide)]
  refine wpAny_bind (pairTrees_cons_walk (thn (hk.run pins _ σ _ _ I1 (q _ hn)) fun u s1 ⟨x, H1, I2, rx, q1⟩ => thn (hv.run pins s1 σ H1 _ I2 q1) fun w2 s2 ⟨y, H2, I3, ry, q2⟩ => pairTrees_nil_walk (wpAny_holding ?_)))
  obtain ⟨k, b, rfl, hb, hp, q3⟩ := q2
  cases (show u = Value.ref b from rx)
  obtain ⟨z, hd, xs, rel, dd⟩ := dt_of I3.hok hp
  rw [List.forIn_cons]
  refine wpAny_bind (wpAny_bind ?_)
  show wpAny (model X.prog X.w) X.A (dictSet s.heap.objs.size (.ref b) w2 >>= fun _ => pure (ForInStep.yield PUnit.unit)) _ _ _
  refine wpAny_bind (wpAny_dictSet_heap (hsz := by rw [← Paired.length rel]; exact z) (show (tupleKind (mixKind X.prog X.w)).room X.A from Nat.lt_of_le_of_lt (Nat.le_succ _) hu) (key_of I3.hok hb) dd fun h' dd' hs => wpAny_pure ?_)
  show wpAny (model X.prog X.w) X.A (forIn [] PUnit.unit _) _ _ _
  rw [List.forIn_nil]
  refine wpAny_pure (wpAny_pure (wpAny_pure (wpAny_pure ⟨.ref s.heap.objs.size, _, ?_, rfl, q3⟩)))
  obtain ⟨o, es, ep, hq, h2, h3, h4, _, h5⟩ := dd'
  cases rel
  refine d_write I3 (by rw [hp]; exact True.intro) hs ⟨o, hq⟩ ⟨by show 1 ≤ sizeLine; decide, hd, _, ((KT.put (H := H2) .nil k hb ry)).keeps fun c ys ec => ?_, o, es, ep, hq, h2, h3, h4, h5⟩
  rw [upd_ne (ne_of ec hp (fun z => nomatch z))]
  exact ec
end HL

namespace HL
open PySem PySem.Spec PyProof.Rows L2 HT
/-! t += u, both tuples -/
theorem noI_tup : typeLookup (.type "tuple") (dunderI "add") = pure none := by rw [typeLookup_type, builtinLookup_eq_fast]; kernel_rfl
section
variable {X : Cx}
theorem ip_catA : PIp X .Add (rCatA X.K) := by
  intro pins s σ H x y v u Q I rx ry h
  obtain ⟨a, b, xs, ys, rfl, rfl, ha, hb, hz, q0, q1, q2⟩ := h
  cases rx
  cases ry
  obtain ⟨is1, r1, p1, _⟩ := I.tuple ha
  obtain ⟨is2, r2, p2, _⟩ := I.tuple hb
  obtain ⟨⟨c1, d1, da1, sl1⟩, o1, k1, n1, e1⟩ := id p1
  obtain ⟨⟨c2, d2, da2, sl2⟩, o2, k2, n2, e2⟩ := id p2
  simp only at k1 e1 k2 e2
  subst k1 e1 k2 e2
  have go : ∀ {S : PySem.Spec} (_ : Meets ((fun B : Builtin => B ⟨[.ref a, .ref b], []⟩) _) S) (_ : S X.A (wants (EP X pins σ Q) X.xe) s), wpAny (model X.prog X.w) X.A (inplaceOp .Add (.ref a) (.ref b)) (EP X pins σ Q) X.xe s :=
    fun g h => PyProof.Rows.inplaceOp_concat ⟨_, o1, rfl⟩ ⟨_, o2, rfl⟩ noI_tup noFill_tuple_add seq_tuple_add (call_meets PySem.F.slot_tuple_add ⟨_, o1, rfl⟩ PySem.F.entry_tuple_add (PySem.F.args_tuple_add_2 _ _) g h)
  by_cases hx : xs = []
  · subst hx
    cases r1
    exact go (tuple_addW0 a b ([] : List Value).toArray is2.toArray n1 n2 d1 d2 sl1 sl2 (by simp)) ⟨o1, o2, ⟨.ref b, H, I, rfl, q0 rfl⟩⟩
  · have hv : is1 ≠ [] := fun z => hx (r1.nil_iff.mp z)
    by_cases hy : is2 = []
    · exact go (tuple_addW1 a b is1.toArray is2.toArray n1 n2 d1 d2 sl1 sl2 (by simpa using hv) (by simp [hy])) ⟨o1, o2, ⟨.ref a, H, I, rfl, q1 hx (r2.nil_iff.mp hy)⟩⟩
    · refine go (tuple_addW2 a b is1.toArray is2.toArray n1 n2 d1 d2 sl1 sl2 (by simpa using hv) (by simpa using hy) (by rw [List.size_toArray, List.size_toArray, ← r1.length, ← r2.length]; exact hz)) ⟨o1, o2, ?_⟩
      rw [show is1.toArray ++ is2.toArray = (is1 ++ is2).toArray by simp]
      refine ⟨.ref s.heap.objs.size, _, I.laid (t' := s.toks) (o := .tup (xs ++ ys)) (fun c oc q => Heap.get?_push_of_some _ q) (Nat.le_refl _) ?_, rfl, q2 hx (fun w => hy (r2.nil_iff.mpr w)) _ (I.hok.fresh (Nat.le_refl _))⟩
      exact ⟨by rw [List.length_append]; exact hz, is1 ++ is2, r1.append r2, IsTup.new _ _⟩
end
end HL

namespace HL
open PySem PySem.Spec PyProof.Rows L2
/-! sorted of a list of rows (tuples of as many whole numbers each, from 0 to below B) that rise already -/
def codeV (h : Heap) (B : Int) (v u : Value) : Bool := decide (TS.code B (TS.intsOf h v) < TS.code B (TS.intsOf h u))
theorem codeV_swo (h : Heap) (B : Int) : SrtO.Swo (codeV h B) := by
  refine ⟨fun x y e => ?_, fun x y z e1 e2 => ?_⟩
  · have := of_decide_eq_true e
    exact decide_eq_false (by omega)
  · have a1 := of_decide_eq_false e1
    have a2 := of_decide_eq_false e2
    exact decide_eq_false (by omega)
theorem vals_refs : ∀ {us : List Value} {as : List Addr}, (∀ u ∈ us, ∃ a, u = Value.ref a) → as.map V.ref = us.map backV → us = as.map Value.ref
  | [], [], _, _ => rfl
  | [], _ :: _, _, e => by simp at e
  | _ :: _, [], _, e => by simp at e
  | u :: us, a :: as, h, e => by
    obtain ⟨b, rfl⟩ := h u List.mem_cons_self
    rw [List.map_cons, List.map_cons] at e
    obtain ⟨e1, e2⟩ := List.cons.inj e
    have e3 : V.ref a = V.ref b := e1
    rw [List.map_cons, V.ref.inj e3, vals_refs (fun u hu => h u (List.mem_cons_of_mem _ hu)) e2]
theorem sortable_rows {prog : Program} {w : World} {A : Around} {s : Shared} {a : Addr} {vs : List Value} {d : Nat} {B : Int} {f : Value → Value → Bool} (h0 : 0 < vs.length) (hd : 1 ≤ d) (x : TS.TupsOk s.heap d B vs) (hf : ∀ v u ns ms, v ∈ vs → u ∈ vs → TS.TupInts s.heap v ns → TS.TupInts s.heap u ms → f v u = decide (TS.code B ns < TS.code B ms))
    (ha : ∀ o, s.heap.get? a = some o → o.cls ≠ .type "tuple") : SrtO.SortableO prog w A s a vs f := by
  intro h' keep
  have kk : ∀ b o, s.heap.get? b = some o → o.cls = .type "tuple" → h'.get? b = some o := fun b o e c => keep b o (fun z => by subst z; exact ha o e c) e
  have x' := x.keeps kk
  obtain ⟨fs, h1, h2, h3⟩ := TS.firsts_of hd vs x'
  refine ⟨tuples' true, fun Q E hq => ?_, ?_⟩
  · refine PySem.W.kat_kind (T := .type "int") h1 (by omega) (fun g hm => ?_) (by rfl) ?_
    · obtain ⟨n, t, rfl⟩ := h3 g hm
      exact PySem.W.Looks.now
    · rw [show (Value.type "int" != Value.type "tuple") = true by first | decide +kernel | rfl | decide]
      exact hq
  · intro p q hp hq
    obtain ⟨ns, t1, l1, b1⟩ := x _ hp
    obtain ⟨ms, t2, l2, b2⟩ := x _ hq
    show wpAny (model prog w) A (keyLt' (tuples' true) p.1 q.1) (fun r s' => s' = { s with heap := h' } ∧ r = f p.1 q.1) (fun _ _ => False) { s with heap := h' }
    rw [hf _ _ _ _ hp hq t1 t2]
    obtain ⟨a1, xs, e1, ⟨o1, ho1, hc1, n1, hd1⟩, i1⟩ := t1.keeps kk
    obtain ⟨a2, ys, e2, ⟨o2, ho2, hc2, n2, hd2⟩, i2⟩ := t2.keeps kk
    rw [e1, e2]
    refine PySem.W.kat_lt ho1 hd1 ho2 hd2 ?_
    have z1 := i1.length
    have z2 := i2.length
    rw [Array.length_toList] at z1 z2
    rw [show decide (xs.size < ys.size) = false from decide_eq_false (by omega)]
    exact TS.lex_ints 0 i1 i2 (by omega) b1 b2 ⟨rfl, rfl⟩
def rSortedR (K : PySem.W.Frag) : List V → Hp → VK → Prop := fun vs H Q => ∃ (a : Addr) (as : List Addr) (rows : List (List Int)) (d : Nat) (B : Int), vs = [V.ref a] ∧ SqL K H a (as.map V.ref) ∧ as.length = rows.length ∧
  (∀ (i : Nat) (b : Addr) (r : List Int), as[i]? = some b → rows[i]? = some r → H b = some (.tup (r.map V.int))) ∧ 1 ≤ d ∧ (∀ r ∈ rows, r.length = d ∧ TS.Bd B r) ∧ rows.Pairwise (fun r s => TS.code B r < TS.code B s) ∧ ∀ p, H p = none → Q (.ref p) (upd H p (.lst (as.map V.ref)))
theorem cr_sortedR {X : Cx} : CallR X (.builtin "sorted") (rSortedR X.K) := by
  intro pins s σ H vs us Q I r h
  obtain ⟨a, as, rows, d, B, rfl, hs, hlen, hat, hd, hok, hrise, q⟩ := h
  obtain ⟨its, rv, hl, hz⟩ := I.list hs
  obtain ⟨u, rfl, ru⟩ := vals1 r
  obtain rfl : u = Value.ref a := ru
  obtain ⟨e1, e2⟩ := refs_back rv fun x m => by
    obtain ⟨b, _, rfl⟩ := List.mem_map.mp m
    exact ⟨b, rfl⟩
  obtain rfl := vals_refs e2 e1
  have tup : ∀ (i : Nat) (b : Addr) (r : List Int), as[i]? = some b → rows[i]? = some r → TS.TupInts s.heap (.ref b) r := fun i b r h1 h2 => by
    obtain ⟨_, its2, r2, o, ho, hc, n, hdt⟩ := I.hok _ _ (hat i b r h1 h2)
    exact ⟨b, its2.toArray, rfl, ⟨o, ho, hc, n, hdt⟩, by rw [List.toList_toArray]; exact r2.ints⟩
  have row : ∀ (i : Nat) (b : Addr), as[i]? = some b → ∃ r, rows[i]? = some r := fun i b hb => by
    have := (List.getElem?_eq_some_iff.mp hb).1
    exact ⟨_, List.getElem?_eq_getElem (by omega)⟩
  have tok : TS.TupsOk s.heap d B (as.map Value.ref) := fun v hv => by
    obtain ⟨b, hb, rfl⟩ := List.mem_map.mp hv
    obtain ⟨i, hi, e⟩ := List.mem_iff_getElem.mp hb
    have hb' : as[i]? = some b := by rw [List.getElem?_eq_getElem hi, e]
    obtain ⟨r, hr⟩ := row i b hb'
    obtain ⟨k1, k2⟩ := hok r (List.mem_of_getElem? hr)
    exact ⟨r, tup i b r hb' hr, k1, k2⟩
  have srt : SrtO.Srtd (codeV s.heap B) (as.map Value.ref) := by
    refine List.pairwise_iff_getElem.mpr fun i j hi hj hij => ?_
    rw [List.length_map] at hi hj
    have hi' : as[i]? = some as[i] := List.getElem?_eq_getElem hi
    have hj' : as[j]? = some as[j] := List.getElem?_eq_getElem hj
    have ri : rows[i]? = some (rows[i]'(by omega)) := List.getElem?_eq_getElem _
    have rj : rows[j]? = some (rows[j]'(by omega)) := List.getElem?_eq_getElem _
    have := List.pairwise_iff_getElem.mp hrise i j (by omega) (by omega) hij
    rw [List.getElem_map, List.getElem_map]
    unfold codeV
    rw [(tup j _ _ hj' rj).ints, (tup i _ _ hi' ri).ints]
    exact decide_eq_false (by omega)
  have hz' : (as.map Value.ref).length ≤ sizeLine := by rw [List.length_map]; rw [List.length_map] at hz; exact hz
  refine SrtO.sorted_ord (codeV_swo s.heap B) hl.isList hz' (fun h2 h₁ a' ha kk => ?_) fun out hso hb => ?_
  · refine sortable_rows (s := { s with heap := h₁ }) (d := d) (B := B) (by omega) hd (tok.keeps fun b o e _ => (kk b o e).2) (fun v u ns ms mv mu tv tu => ?_) fun o e => ?_
    · obtain ⟨ns', tv', _⟩ := tok v mv
      obtain ⟨ms', tu', _⟩ := tok u mu
      have kv := (tv'.keeps fun b o e _ => (kk b o e).2).ints
      have ku := (tu'.keeps fun b o e _ => (kk b o e).2).ints
      have ev : ns = ns' := tv.ints.symm.trans kv
      have eu : ms = ms' := tu.ints.symm.trans ku
      unfold codeV
      rw [tv'.ints, tu'.ints, ev, eu]
    · have e' : some o = some (seqObj "list" (as.map Value.ref).toArray 0) := e.symm.trans ha
      cases e'
      intro c
      exact absurd (Value.type.inj c) (by decide)
  · have eo := SrtO.stb_uniq (codeV_swo s.heap B) hso srt hb
    subst eo
    obtain ⟨n, hn⟩ := sortedAll_at s.heap (as.map Value.ref) (as.map Value.ref).toArray
    refine ⟨.ref _, upd H (s.heap.objs.size + 1) (.lst (as.map V.ref)), I.laid (t' := s.toks) (fun b o e => sortedAll_old e) (Nat.le_succ _) ⟨hz, as.map Value.ref, n, rv, hn⟩, rfl, q _ (I.hok.fresh (Nat.le_succ _))⟩
end HL

namespace HL
open PySem PySem.Spec PyProof.Rows L2
/-! xs[i] of a list, read for xs[i] += e -/
def rGetL (K : PySem.W.Frag) : V → V → Hp → VK → Prop := fun x y H Q => ∃ p xs i z, x = .ref p ∧ y = .int i ∧ SqL K H p xs ∧ 0 ≤ i ∧ atI xs i = some z ∧ Q z H
theorem get_list {X : Cx} : PGet X (rGetL X.K) := by
  intro pins s σ H x y v u Q I rx ry h
  obtain ⟨p, xs, i, z, rfl, rfl, hq, h0, he, q⟩ := h
  cases rx
  obtain ⟨t, rfl⟩ := ry
  obtain ⟨its, r, pl, hz⟩ := I.list hq
  obtain ⟨j, h1, h2, h3, h4, h5⟩ := atI_get he
  obtain ⟨w, ew, rw'⟩ := r.get h2
  have hl := r.length
  have hn := line63
  have fin : EP X pins σ Q w s := ⟨z, H, I, rw', q⟩
  have hj : i.toNat = j := by
    rw [seqIndex_of h0 h5] at h1
    exact Option.some.inj h1
  exact wpAny_getItem_list pl.isList h0 (by omega) (by rw [hj]; simpa using ew) fin
end HL

namespace HL
/-! ### rows, and how many ways there are to make one of rows -/
/-- b less h, taken k times -/
def subR (b h : List Int) (k : Int) : List Int := (b.zip h).map fun q => q.1 - k * q.2
def zeroB (b : List Int) : Bool := b.all fun z => decide (z = 0)
def nnB (b : List Int) : Bool := b.all fun z => decide (0 ≤ z)
def cnt : List (List Int) → List Int → Nat
  | [], b => if zeroB b = true then 1 else 0
  | h :: t, b => ((List.range (b.sum.toNat + 1)).map fun (k : Nat) => cnt t (subR b h (k : Int))).sum
/-- a kind: as wide as told, nothing below 0, something above it -/
def Kd (g : Nat) (h : List Int) : Prop := h.length = g ∧ (∀ n ∈ h, 0 ≤ n) ∧ ∃ n ∈ h, 0 < n
theorem sum_zeroN : ∀ {l : List Nat}, (∀ x ∈ l, x = 0) → l.sum = 0
  | [], _ => rfl
  | x :: l, h => by rw [List.sum_cons, h x List.mem_cons_self, sum_zeroN fun y hy => h y (List.mem_cons_of_mem _ hy)]
theorem nnB_iff {b : List Int} : nnB b = true ↔ ∀ n ∈ b, 0 ≤ n := by
  unfold nnB
  rw [List.all_eq_true]
  exact ⟨fun h n hn => of_decide_eq_true (h n hn), fun h n hn => decide_eq_true (h n hn)⟩
theorem zeroB_iff {b : List Int} : zeroB b = true ↔ ∀ n ∈ b, n = 0 := by
  unfold zeroB
  rw [List.all_eq_true]
  exact ⟨fun h n hn => of_decide_eq_true (h n hn), fun h n hn => decide_eq_true (h n hn)⟩
theorem subR_len {b h : List Int} {k : Int} (e : b.length = h.length) : (subR b h k).length = b.length := by
  unfold subR
  rw [List.length_map, List.length_zip]
  omega
theorem subR_cons {x y : Int} {b h : List Int} {k : Int} : subR (x :: b) (y :: h) k = (x - k * y) :: subR b h k := rfl
theorem subR_zero : ∀ {b h : List Int}, b.length = h.length → subR b h 0 = b
  | [], [], _ => rfl
  | x :: b, y :: h, e => by
    rw [subR_cons, subR_zero (by simpa using e), Int.zero_mul, Int.sub_zero]
  | [], _ :: _, e => by simp at e
  | _ :: _, [], e => by simp at e
theorem subR_add : ∀ {b h : List Int} {j k : Int}, subR (subR b h j) h k = subR b h (j + k)
  | [], _, _, _ => rfl
  | _ :: _, [], _, _ => rfl
  | x :: b, y :: h, j, k => by
    rw [subR_cons, subR_cons, subR_cons, subR_add, Int.add_mul]
    congr 1
    omega
theorem subR_comm : ∀ {b h g : List Int} {j k : Int}, subR (subR b h j) g k = subR (subR b g k) h j
  | [], _, _, _, _ => by simp [subR]
  | _ :: _, [], g, _, _ => by cases g <;> simp [subR]
  | _ :: _, _ :: _, [], _, _ => by simp [subR]
  | x :: b, y :: h, z :: g, j, k => by
    rw [subR_cons, subR_cons, subR_cons, subR_cons, subR_comm]
    congr 1
    omega
theorem subR_sum : ∀ {b h : List Int} {k : Int}, b.length = h.length → (subR b h k).sum = b.sum - k * h.sum
  | [], [], k, _ => by simp [subR]
  | x :: b, y :: h, k, e => by
    rw [subR_cons, List.sum_cons, List.sum_cons, List.sum_cons, subR_sum (by simpa using e), Int.mul_add]
    omega
  | [], _ :: _, _, e => by simp at e
  | _ :: _, [], _, e => by simp at e
theorem sum_nn : ∀ {b : List Int}, (∀ n ∈ b, 0 ≤ n) → 0 ≤ b.sum
  | [], _ => Int.le_refl _
  | x :: b, h => by
    rw [List.sum_cons]
    have := h x List.mem_cons_self
    have := sum_nn fun n hn => h n (List.mem_cons_of_mem _ hn)
    omega
theorem sum_kd {g : Nat} {h : List Int} (k : Kd g h) : 1 ≤ h.sum := by
  have k2 := k.2.1
  obtain ⟨n, hn, hp⟩ := k.2.2
  clear k
  induction h with
  | nil => cases hn
  | cons x h ih =>
    rw [List.sum_cons]
    have x0 := k2 x List.mem_cons_self
    have r0 := sum_nn fun n hn => k2 n (List.mem_cons_of_mem _ hn)
    rcases List.mem_cons.mp hn with e | e
    · omega
    · have := ih (fun n hn => k2 n (List.mem_cons_of_mem _ hn)) e
      omega
/-- what is below 0 somewhere stays so -/
theorem sub_neg : ∀ {b h : List Int} {k : Int}, b.length = h.length → (∀ n ∈ h, 0 ≤ n) → 0 ≤ k → nnB b = false → nnB (subR b h k) = false
  | [], [], _, _, _, _, e => by cases e
  | x :: b, y :: h, k, el, hn, hk, e => by
    unfold nnB at e ⊢
    rw [subR_cons, List.all_cons]
    rw [List.all_cons] at e
    have y0 := hn y List.mem_cons_self
    by_cases c : 0 ≤ x
    · rw [decide_eq_true c, Bool.true_and] at e
      have := sub_neg (b := b) (h := h) (k := k) (by simpa using el) (fun n hn' => hn n (List.mem_cons_of_mem _ hn')) hk e
      unfold nnB at this
      rw [this, Bool.and_false]
    · have : ¬ 0 ≤ x - k * y := by
        have := Int.mul_nonneg hk y0
        omega
      rw [decide_eq_false this, Bool.false_and]
  | [], _ :: _, _, e, _, _, _ => by simp at e
  | _ :: _, [], _, e, _, _, _ => by simp at e
theorem cnt_neg {g : Nat} : ∀ {l : List (List Int)} {b : List Int}, (∀ h ∈ l, Kd g h) → b.length = g → nnB b = false → cnt l b = 0
  | [], b, _, _, e => by
    unfold cnt
    rw [if_neg fun z => ?_]
    have : nnB b = true := nnB_iff.mpr fun n hn => by rw [zeroB_iff.mp z n hn]; exact Int.le_refl _
    rw [this] at e
    cases e
  | h :: t, b, hl, hb, e => by
    unfold cnt
    have kh := hl h List.mem_cons_self
    refine sum_zeroN fun x hx => ?_
    obtain ⟨k, _, rfl⟩ := List.mem_map.mp hx
    have eb : b.length = h.length := by rw [hb, kh.1]
    exact cnt_neg (fun h' hh => hl h' (List.mem_cons_of_mem _ hh)) (by rw [subR_len eb, hb]) (sub_neg eb kh.2.1 (by omega) e)
theorem sum_range_zero (f : Nat → Nat) {m : Nat} : ∀ {n : Nat}, (∀ k, m ≤ k → f k = 0) → m ≤ n → ((List.range n).map f).sum = ((List.range m).map f).sum
  | 0, _, h => by rw [Nat.le_zero.mp h]
  | n + 1, hf, h => by
    by_cases c : m = n + 1
    · rw [c]
    · rw [List.range_succ, List.map_append, List.sum_append, sum_range_zero f hf (by omega)]
      simp [hf n (by omega)]
theorem sub_far {g : Nat} {b h : List Int} {k : Nat} (kh : Kd g h) (hb : b.length = g) (hk : b.sum.toNat < k) : nnB (subR b h (k : Int)) = false := by
  have eb : b.length = h.length := by rw [hb, kh.1]
  cases e : nnB (subR b h (k : Int)) with
  | false => rfl
  | true =>
    have h0 := sum_nn (nnB_iff.mp e)
    rw [subR_sum eb] at h0
    have h1 := sum_kd kh
    have : (k : Int) * 1 ≤ (k : Int) * h.sum := Int.mul_le_mul_of_nonneg_left h1 (by omega)
    omega
/-- any number of turns that is great enough -/
theorem cnt_to {g : Nat} {h : List Int} {t : List (List Int)} {b : List Int} {m : Nat} (hl : ∀ x ∈ h :: t, Kd g x) (hb : b.length = g) (hm : b.sum.toNat + 1 ≤ m) : cnt (h :: t) b = ((List.range m).map fun (k : Nat) => cnt t (subR b h (k : Int))).sum := by
  have kh := hl h List.mem_cons_self
  have eb : b.length = h.length := by rw [hb, kh.1]
  rw [show cnt (h :: t) b = ((List.range (b.sum.toNat + 1)).map fun (k : Nat) => cnt t (subR b h (k : Int))).sum from rfl]
  exact (sum_range_zero _ (fun k hk => cnt_neg (fun x hx => hl x (List.mem_cons_of_mem _ hx)) (by rw [subR_len eb, hb]) (sub_far kh hb (by omega))) hm).symm
theorem sum_range_shift (f : Nat → Nat) (n : Nat) : ((List.range (n + 1)).map f).sum = f 0 + ((List.range n).map fun k => f (k + 1)).sum := by
  rw [List.range_succ_eq_map, List.map_cons, List.sum_cons, List.map_map]
  rfl
theorem sub_sum_le {g : Nat} {b h : List Int} (kh : Kd g h) (hb : b.length = g) : (subR b h 1).sum.toNat + 1 ≤ b.sum.toNat + 1 := by
  have eb : b.length = h.length := by rw [hb, kh.1]
  rw [subR_sum eb]
  have := sum_kd kh
  omega
/-- the table's own row: without the kind, and with one hamper of it taken out -/
theorem cnt_step {g : Nat} {h : List Int} {t : List (List Int)} {b : List Int} (hl : ∀ x ∈ h :: t, Kd g x) (hb : b.length = g) : cnt (h :: t) b = cnt t b + cnt (h :: t) (subR b h 1) := by
  have kh := hl h List.mem_cons_self
  have eb : b.length = h.length := by rw [hb, kh.1]
  rw [cnt_to hl hb (m := b.sum.toNat + 1 + 1) (by omega), sum_range_shift, show ((0 : Nat) : Int) = 0 from rfl, subR_zero eb, cnt_to hl (by rw [subR_len eb, hb]) (sub_sum_le kh hb)]
  congr 2
  refine List.map_congr_left fun k _ => ?_
  rw [subR_add]
  congr 2
  omega
theorem sum_map_add (f g : Nat → Nat) : ∀ l : List Nat, (l.map fun k => f k + g k).sum = (l.map f).sum + (l.map g).sum
  | [] => rfl
  | x :: l => by
    rw [List.map_cons, List.map_cons, List.map_cons, List.sum_cons, List.sum_cons, List.sum_cons, sum_map_add f g l]
    omega
/-- the same of any kind of the lot -/
theorem cnt_cut {g : Nat} : ∀ {l : List (List Int)} {b : List Int} {i : Nat} {h : List Int}, (∀ x ∈ l, Kd g x) → b.length = g → l[i]? = some h → cnt l b = cnt (l.take i ++ l.drop (i + 1)) b + cnt l (subR b h 1)
  | [], _, _, _, _, _, e => by simp at e
  | x :: l, b, 0, h, hl, hb, e => by
    cases Option.some.inj e
    exact cnt_step hl hb
  | x :: l, b, i + 1, h, hl, hb, e => by
    have e' : l[i]? = some h := e
    have kx := hl x List.mem_cons_self
    have kh : Kd g h := hl h (List.mem_cons_of_mem _ (List.mem_of_getElem? e'))
    have ebx : b.length = x.length := by rw [hb, kx.1]
    have ebh : b.length = h.length := by rw [hb, kh.1]
    have hl' : ∀ y ∈ l, Kd g y := fun y hy => hl y (List.mem_cons_of_mem _ hy)
    have hlc : ∀ y ∈ x :: (l.take i ++ l.drop (i + 1)), Kd g y := fun y hy => by
      rcases List.mem_cons.mp hy with h | h
      · rw [h]; exact kx
      · rcases List.mem_append.mp h with h | h
        · exact hl' y (List.mem_of_mem_take h)
        · exact hl' y (List.mem_of_mem_drop h)
    show cnt (x :: l) b = cnt (x :: (l.take i ++ l.drop (i + 1))) b + cnt (x :: l) (subR b h 1)
    rw [cnt_to hl hb (Nat.le_refl _), cnt_to hlc hb (Nat.le_refl _), cnt_to hl (by rw [subR_len ebh, hb]) (sub_sum_le kh hb), ← sum_map_add]
    congr 1
    refine List.map_congr_left fun k _ => ?_
    have := cnt_cut hl' (b := subR b x (k : Int)) (by rw [subR_len ebx, hb]) e'
    rw [this, subR_comm]
/-- nothing of no goods -/
theorem cnt_nought {g : Nat} : ∀ {l : List (List Int)} {b : List Int}, (∀ x ∈ l, Kd g x) → b.length = g → zeroB b = true → cnt l b = 1
  | [], b, _, _, e => by
    unfold cnt
    rw [if_pos e]
  | h :: t, b, hl, hb, e => by
    have kh := hl h List.mem_cons_self
    have eb : b.length = h.length := by rw [hb, kh.1]
    have es : b.sum = 0 := by
      clear hb eb hl
      induction b with
      | nil => rfl
      | cons x b ih =>
        rw [List.sum_cons, zeroB_iff.mp e x List.mem_cons_self, ih (zeroB_iff.mpr fun n hn => zeroB_iff.mp e n (List.mem_cons_of_mem _ hn))]
        rfl
    rw [cnt_step hl hb, cnt_nought (fun x hx => hl x (List.mem_cons_of_mem _ hx)) hb e, cnt_neg (l := h :: t) hl (by rw [subR_len eb, hb])]
    have := sub_far (k := 1) kh hb (by rw [es]; decide)
    exact this
/-- where something is made of something, some kind goes in -/
theorem cnt_some {g : Nat} {b : List Int} (hb : b.length = g) (hz : zeroB b = false) : ∀ {l : List (List Int)}, (∀ x ∈ l, Kd g x) → (∀ h ∈ l, nnB (subR b h 1) = false) → cnt l b = 0
  | [], _, _ => by
    unfold cnt
    rw [hz]
    rfl
  | h :: t, hl, hn => by
    have kh := hl h List.mem_cons_self
    have eb : b.length = h.length := by rw [hb, kh.1]
    rw [cnt_step hl hb, cnt_some hb hz (fun x hx => hl x (List.mem_cons_of_mem _ hx)) (fun x hx => hn x (List.mem_cons_of_mem _ hx)), cnt_neg (l := h :: t) hl (by rw [subR_len eb, hb]) (hn h List.mem_cons_self)]
/-- the last kind first -/
theorem cnt_last {g : Nat} {h : List Int} (kh : Kd g h) : ∀ {l : List (List Int)} {b : List Int} {m : Nat}, (∀ x ∈ l, Kd g x) → b.length = g → b.sum.toNat + 1 ≤ m → cnt (l ++ [h]) b = ((List.range m).map fun (k : Nat) => cnt l (subR b h (k : Int))).sum
  | [], b, m, _, hb, hm => cnt_to (fun x hx => by rw [List.mem_singleton.mp hx]; exact kh) hb hm
  | x :: l, b, m, hl, hb, hm => by
    have kx := hl x List.mem_cons_self
    have ebx : b.length = x.length := by rw [hb, kx.1]
    have ebh : b.length = h.length := by rw [hb, kh.1]
    have hl' : ∀ y ∈ l, Kd g y := fun y hy => hl y (List.mem_cons_of_mem _ hy)
    have hlh : ∀ y ∈ x :: (l ++ [h]), Kd g y := fun y hy => by
      rcases List.mem_cons.mp hy with e | e
      · rw [e]; exact kx
      · rcases List.mem_append.mp e with e | e
        · exact hl' y e
        · rw [List.mem_singleton.mp e]; exact kh
    have small : ∀ (z : List Int) (k : Nat), Kd g z → (subR b z (k : Int)).sum.toNat + 1 ≤ m := fun z k kz => by
      rw [subR_sum (by rw [hb, kz.1])]
      have := sum_kd kz
      have : 0 ≤ (k : Int) * z.sum := Int.mul_nonneg (by omega) (by omega)
      omega
    show cnt (x :: (l ++ [h])) b = _
    rw [cnt_to hlh hb hm]
    have e1 : ∀ j : Nat, cnt (l ++ [h]) (subR b x (j : Int)) = ((List.range m).map fun (k : Nat) => cnt l (subR (subR b x (j : Int)) h (k : Int))).sum := fun j =>
      cnt_last kh hl' (by rw [subR_len ebx, hb]) (small x j kx)
    have e2 : ∀ k : Nat, cnt (x :: l) (subR b h (k : Int)) = ((List.range m).map fun (j : Nat) => cnt l (subR (subR b x (j : Int)) h (k : Int))).sum := fun k => by
      rw [cnt_to hl (by rw [subR_len ebh, hb]) (small h k kh)]
      congr 1
      refine List.map_congr_left fun j _ => ?_
      rw [subR_comm]
    rw [show ((List.range m).map fun (k : Nat) => cnt (l ++ [h]) (subR b x (k : Int))) = ((List.range m).map fun (j : Nat) => ((List.range m).map fun (k : Nat) => cnt l (subR (subR b x (j : Int)) h (k : Int))).sum) from List.map_congr_left fun j _ => e1 j,
      show ((List.range m).map fun (k : Nat) => cnt (x :: l) (subR b h (k : Int))) = ((List.range m).map fun (k : Nat) => ((List.range m).map fun (j : Nat) => cnt l (subR (subR b x (j : Int)) h (k : Int))).sum) from List.map_congr_left fun k _ => e2 k]
    generalize List.range m = rs
    have swap : ∀ (xs ys : List Nat) (f : Nat → Nat → Nat), (xs.map fun j => (ys.map fun k => f j k).sum).sum = (ys.map fun k => (xs.map fun j => f j k).sum).sum := fun xs ys f => by
      induction xs with
      | nil =>
        rw [List.map_nil, List.sum_nil]
        refine (sum_zeroN fun z hz => ?_).symm
        obtain ⟨k, _, rfl⟩ := List.mem_map.mp hz
        rfl
      | cons x xs ih =>
        rw [List.map_cons, List.sum_cons, ih, ← sum_map_add]
        rfl
    exact swap rs rs fun j k => cnt l (subR (subR b x (j : Int)) h (k : Int))
/-! ### two lots beside one another -/
theorem subR_app {b1 b2 h1 h2 : List Int} {k : Int} (e : b1.length = h1.length) : subR (b1 ++ b2) (h1 ++ h2) k = subR b1 h1 k ++ subR b2 h2 k := by
  unfold subR
  rw [List.zip_append e, List.map_append]
theorem subR_nought : ∀ {b : List Int} {n : Nat} {k : Int}, b.length = n → subR b (List.replicate n 0) k = b
  | [], 0, _, _ => rfl
  | x :: b, n + 1, k, e => by
    rw [List.replicate_succ, subR_cons, subR_nought (by simpa using e), Int.mul_zero, Int.sub_zero]
  | [], n + 1, _, e => by simp at e
  | _ :: _, 0, _, e => by simp at e
theorem zero_app {b1 b2 : List Int} : zeroB (b1 ++ b2) = (zeroB b1 && zeroB b2) := by
  unfold zeroB
  rw [List.all_append]
theorem kd_left {g w : Nat} {h : List Int} (k : Kd g h) : Kd (g + w) (h ++ List.replicate w 0) :=
  ⟨by rw [List.length_append, List.length_replicate, k.1], fun n hn => by
    rcases List.mem_append.mp hn with e | e
    · exact k.2.1 n e
    · rw [List.eq_of_mem_replicate e]
      exact Int.le_refl _, let ⟨n, h1, h2⟩ := k.2.2; ⟨n, List.mem_append_left _ h1, h2⟩⟩
theorem kd_right {g w : Nat} {h : List Int} (k : Kd g h) : Kd (w + g) (List.replicate w 0 ++ h) :=
  ⟨by rw [List.length_append, List.length_replicate, k.1], fun n hn => by
    rcases List.mem_append.mp hn with e | e
    · rw [List.eq_of_mem_replicate e]
      exact Int.le_refl _
    · exact k.2.1 n e, let ⟨n, h1, h2⟩ := k.2.2; ⟨n, List.mem_append_right _ h1, h2⟩⟩
theorem sum_mul (f : Nat → Nat) (c : Nat) : ∀ l : List Nat, (l.map fun k => c * f k).sum = c * (l.map f).sum
  | [] => rfl
  | x :: l => by rw [List.map_cons, List.map_cons, List.sum_cons, List.sum_cons, sum_mul f c l, Nat.mul_add]
theorem sum_mul' (f : Nat → Nat) (c : Nat) : ∀ l : List Nat, (l.map fun k => f k * c).sum = (l.map f).sum * c
  | [] => by simp
  | x :: l => by rw [List.map_cons, List.map_cons, List.sum_cons, List.sum_cons, sum_mul' f c l, Nat.add_mul]
theorem cnt_right {g w : Nat} {b1 : List Int} (hb1 : b1.length = w) (n1 : ∀ n ∈ b1, 0 ≤ n) : ∀ {l : List (List Int)} {b2 : List Int}, (∀ x ∈ l, Kd g x) → b2.length = g → (∀ n ∈ b2, 0 ≤ n) → cnt (l.map fun r => List.replicate w 0 ++ r) (b1 ++ b2) = (if zeroB b1 = true then 1 else 0) * cnt l b2
  | [], b2, _, _, _ => by
    show cnt [] (b1 ++ b2) = _
    unfold cnt
    rw [zero_app]
    cases zeroB b1 <;> cases zeroB b2 <;> rfl
  | h :: t, b2, hl, hb2, n2 => by
    have kh := hl h List.mem_cons_self
    have hl' : ∀ x ∈ t, Kd g x := fun x hx => hl x (List.mem_cons_of_mem _ hx)
    have hlm : ∀ x ∈ (List.replicate w 0 ++ h) :: (t.map fun r => List.replicate w 0 ++ r), Kd (w + g) x := fun x hx => by
      rcases List.mem_cons.mp hx with e | e
      · rw [e]; exact kd_right kh
      · obtain ⟨r, h1, rfl⟩ := List.mem_map.mp e
        exact kd_right (hl' r h1)
    have es : b2.sum.toNat + 1 ≤ (b1 ++ b2).sum.toNat + 1 := by
      rw [List.sum_append]
      have := sum_nn n1
      omega
    rw [List.map_cons, cnt_to hlm (by rw [List.length_append, hb1, hb2]) (Nat.le_refl _), cnt_to hl hb2 es, ← sum_mul]
    congr 1
    refine List.map_congr_left fun k _ => ?_
    rw [subR_app (by rw [hb1, List.length_replicate]), subR_nought hb1]
    by_cases c : nnB (subR b2 h (k : Int)) = true
    · exact cnt_right hb1 n1 hl' (by rw [subR_len (by rw [hb2, kh.1]), hb2]) (nnB_iff.mp c)
    · have c' := Bool.eq_false_iff.mpr c
      rw [cnt_neg (g := w + g) (fun x hx => hlm x (List.mem_cons_of_mem _ hx)) (by rw [List.length_append, hb1, subR_len (by rw [hb2, kh.1]), hb2]) ?_, cnt_neg hl' (by rw [subR_len (by rw [hb2, kh.1]), hb2]) c', Nat.mul_zero]
      unfold nnB at c' ⊢
      rw [List.all_append, c', Bool.and_false]
theorem cnt_beside {g1 g2 : Nat} {l2 : List (List Int)} {b2 : List Int} (h2 : ∀ x ∈ l2, Kd g2 x) (hb2 : b2.length = g2) (n2 : ∀ n ∈ b2, 0 ≤ n) : ∀ {l1 : List (List Int)} {b1 : List Int}, (∀ x ∈ l1, Kd g1 x) → b1.length = g1 → (∀ n ∈ b1, 0 ≤ n) →
    cnt ((l1.map fun r => r ++ List.replicate g2 0) ++ l2.map fun r => List.replicate g1 0 ++ r) (b1 ++ b2) = cnt l1 b1 * cnt l2 b2
  | [], b1, _, hb1, n1 => by
    rw [List.map_nil, List.nil_append, cnt_right hb1 n1 h2 hb2 n2]
    rfl
  | h :: t, b1, hl, hb1, n1 => by
    have kh := hl h List.mem_cons_self
    have hl' : ∀ x ∈ t, Kd g1 x := fun x hx => hl x (List.mem_cons_of_mem _ hx)
    have hlm : ∀ x ∈ (h ++ List.replicate g2 0) :: ((t.map fun r => r ++ List.replicate g2 0) ++ l2.map fun r => List.replicate g1 0 ++ r), Kd (g1 + g2) x := fun x hx => by
      rcases List.mem_cons.mp hx with e | e
      · rw [e]; exact kd_left kh
      · rcases List.mem_append.mp e with e | e
        · obtain ⟨r, q1, rfl⟩ := List.mem_map.mp e
          exact kd_left (hl' r q1)
        · obtain ⟨r, q1, rfl⟩ := List.mem_map.mp e
          exact kd_right (h2 r q1)
    have es : b1.sum.toNat + 1 ≤ (b1 ++ b2).sum.toNat + 1 := by
      rw [List.sum_append]
      have := sum_nn n2
      omega
    have eb : b1.length = h.length := by rw [hb1, kh.1]
    rw [List.map_cons, List.cons_append, cnt_to hlm (by rw [List.length_append, hb1, hb2]) (Nat.le_refl _), cnt_to hl hb1 es, ← sum_mul']
    congr 1
    refine List.map_congr_left fun k _ => ?_
    rw [subR_app eb, subR_nought hb2]
    by_cases c : nnB (subR b1 h (k : Int)) = true
    · exact cnt_beside h2 hb2 n2 hl' (by rw [subR_len eb, hb1]) (nnB_iff.mp c)
    · have c' := Bool.eq_false_iff.mpr c
      rw [cnt_neg (g := g1 + g2) (fun x hx => hlm x (List.mem_cons_of_mem _ hx)) (by rw [List.length_append, hb2, subR_len eb, hb1]) ?_, cnt_neg hl' (by rw [subR_len eb, hb1]) c', Nat.zero_mul]
      unfold nnB at c' ⊢
      rw [List.all_append, c', Bool.false_and]
end HL

namespace HL
/-! ### the cells of a bill, in their order -/
/-- the cells by the first i amounts -/
def cellsI (b : List Int) : Nat → List (List Int)
  | 0 => [[]]
  | i + 1 => (cellsI b i).flatMap fun c => (List.range (b.getD i 0 + 1).toNat).map fun (p : Nat) => c ++ [(p : Int)]
def Bel : List Int → List Int → Prop
  | [], [] => True
  | x :: r, y :: b => (0 ≤ x ∧ x ≤ y) ∧ Bel r b
  | _, _ => False
def lx : List Int → List Int → Prop
  | x :: r, y :: s => x < y ∨ (x = y ∧ lx r s)
  | _, _ => False
theorem Bel.len : ∀ {r b : List Int}, Bel r b → r.length = b.length
  | [], [], _ => rfl
  | x :: r, y :: b, h => by rw [List.length_cons, List.length_cons, Bel.len h.2]
  | [], _ :: _, h => h.elim
  | _ :: _, [], h => h.elim
theorem Bel.nn : ∀ {r b : List Int}, Bel r b → ∀ n ∈ r, 0 ≤ n
  | [], [], _, n, hn => by cases hn
  | x :: r, y :: b, h, n, hn => by
    rcases List.mem_cons.mp hn with e | e
    · rw [e]; exact h.1.1
    · exact Bel.nn h.2 n e
  | [], _ :: _, h, _, _ => h.elim
  | _ :: _, [], h, _, _ => h.elim
theorem Bel.snoc {x a : Int} (h0 : 0 ≤ x) (h1 : x ≤ a) : ∀ {r b : List Int}, Bel r b → Bel (r ++ [x]) (b ++ [a])
  | [], [], _ => ⟨⟨h0, h1⟩, True.intro⟩
  | y :: r, z :: b, h => ⟨h.1, Bel.snoc h0 h1 h.2⟩
  | [], _ :: _, h => h.elim
  | _ :: _, [], h => h.elim
theorem Bel.unsnoc {a : Int} : ∀ {b r : List Int}, Bel r (b ++ [a]) → ∃ c x, r = c ++ [x] ∧ Bel c b ∧ 0 ≤ x ∧ x ≤ a
  | [], [x], h => ⟨[], x, rfl, True.intro, h.1.1, h.1.2⟩
  | [], x :: y :: r, h => h.2.elim
  | [], [], h => h.elim
  | z :: b, x :: r, h => by
    obtain ⟨c, y, e, h1, h2⟩ := Bel.unsnoc (b := b) h.2
    exact ⟨x :: c, y, by rw [e]; rfl, ⟨h.1, h1⟩, h2⟩
  | z :: b, [], h => h.elim
theorem Bel.self : ∀ {b : List Int}, (∀ n ∈ b, 0 ≤ n) → Bel b b
  | [], _ => True.intro
  | x :: b, h => ⟨⟨h x List.mem_cons_self, Int.le_refl _⟩, Bel.self fun n hn => h n (List.mem_cons_of_mem _ hn)⟩
theorem take_snoc {b : List Int} {i : Nat} (h : i < b.length) : b.take (i + 1) = b.take i ++ [b.getD i 0] := by
  rw [List.take_add_one, List.getElem?_eq_getElem h, List.getD_eq_getElem?_getD, List.getElem?_eq_getElem h]
  rfl
theorem cells_mem {b : List Int} (hb : ∀ n ∈ b, 0 ≤ n) : ∀ {i : Nat}, i ≤ b.length → ∀ r, r ∈ cellsI b i ↔ Bel r (b.take i)
  | 0, _, r => by
    rw [List.take_zero]
    show r ∈ [[]] ↔ _
    rw [List.mem_singleton]
    constructor
    · intro e
      rw [e]
      exact True.intro
    · intro h
      cases r with
      | nil => rfl
      | cons x r => exact h.elim
  | i + 1, hi, r => by
    have hg : 0 ≤ b.getD i 0 := by
      rw [List.getD_eq_getElem?_getD, List.getElem?_eq_getElem (show i < b.length by omega)]
      exact hb _ (List.getElem_mem _)
    rw [take_snoc (by omega)]
    show r ∈ (cellsI b i).flatMap _ ↔ _
    rw [List.mem_flatMap]
    constructor
    · rintro ⟨c, hc, hr⟩
      obtain ⟨p, hp, rfl⟩ := List.mem_map.mp hr
      have := List.mem_range.mp hp
      exact ((cells_mem hb (by omega) c).mp hc).snoc (by omega) (by omega)
    · intro h
      obtain ⟨c, x, rfl, h1, h2, h3⟩ := Bel.unsnoc h
      exact ⟨c, (cells_mem hb (by omega) c).mpr h1, List.mem_map.mpr ⟨x.toNat, List.mem_range.mpr (by omega), by rw [Int.toNat_of_nonneg h2]⟩⟩
theorem lx_app : ∀ {c c' d d' : List Int}, c.length = c'.length → lx c c' → lx (c ++ d) (c' ++ d')
  | x :: c, y :: c', d, d', e, h => by
    rcases h with h | ⟨h1, h2⟩
    · exact .inl h
    · exact .inr ⟨h1, lx_app (by simpa using e) h2⟩
  | [], [], _, _, _, h => h.elim
  | [], _ :: _, _, _, _, h => h.elim
  | _ :: _, [], _, _, _, h => h.elim
theorem lx_last {x y : Int} (h : x < y) : ∀ {c : List Int}, lx (c ++ [x]) (c ++ [y])
  | [] => .inl h
  | z :: c => .inr ⟨rfl, lx_last h⟩
theorem lx_asymm : ∀ {r s : List Int}, lx r s → lx s r → False
  | x :: r, y :: s, h, k => by
    rcases h with h | ⟨h1, h2⟩
    · rcases k with k | ⟨k1, _⟩
      · omega
      · omega
    · rcases k with k | ⟨_, k2⟩
      · omega
      · exact lx_asymm h2 k2
  | [], _, h, _ => h.elim
  | _ :: _, [], h, _ => h.elim
theorem lx_sub : ∀ {c h : List Int}, c.length = h.length → (∀ n ∈ h, 0 ≤ n) → (∃ n ∈ h, 0 < n) → lx (subR c h 1) c
  | [], [], _, _, ⟨n, hn, _⟩ => by cases hn
  | x :: c, y :: h, e, h0, ⟨n, hn, hp⟩ => by
    rw [subR_cons]
    have y0 := h0 y List.mem_cons_self
    by_cases z : 0 < y
    · exact .inl (by omega)
    · refine .inr ⟨by omega, lx_sub (by simpa using e) (fun m hm => h0 m (List.mem_cons_of_mem _ hm)) ⟨n, ?_, hp⟩⟩
      rcases List.mem_cons.mp hn with q | q
      · omega
      · exact q
  | [], _ :: _, e, _, _ => by simp at e
  | _ :: _, [], e, _, _ => by simp at e
theorem cells_len {b : List Int} : ∀ {i : Nat} {r : List Int}, r ∈ cellsI b i → r.length = i
  | 0, r, h => by rw [List.mem_singleton.mp h]; rfl
  | i + 1, r, h => by
    obtain ⟨c, hc, hr⟩ := List.mem_flatMap.mp h
    obtain ⟨p, _, rfl⟩ := List.mem_map.mp hr
    rw [List.length_append, cells_len hc]
    rfl
theorem cells_rise {b : List Int} : ∀ {i : Nat}, (cellsI b i).Pairwise lx
  | 0 => List.pairwise_singleton _ _
  | i + 1 => by
    show ((cellsI b i).flatMap _).Pairwise lx
    rw [List.pairwise_flatMap]
    refine ⟨fun c _ => ?_, (cells_rise (i := i)).imp_of_mem fun {c c'} hc hc' h x hx y hy => ?_⟩
    · rw [List.pairwise_map]
      exact (List.pairwise_lt_range).imp fun {p q} h => lx_last (by omega)
    · obtain ⟨p, _, rfl⟩ := List.mem_map.mp hx
      obtain ⟨q, _, rfl⟩ := List.mem_map.mp hy
      exact lx_app (by rw [cells_len hc, cells_len hc']) h
theorem flat_len {α β : Type} {f : α → List β} {n : Nat} : ∀ {l : List α}, (∀ x ∈ l, (f x).length = n) → (l.flatMap f).length = l.length * n
  | [], _ => by simp
  | x :: l, h => by
    rw [List.flatMap_cons, List.length_append, h x List.mem_cons_self, flat_len fun y hy => h y (List.mem_cons_of_mem _ hy), List.length_cons, Nat.add_mul]
    omega
theorem cells_many {b : List Int} {i : Nat} : (cellsI b (i + 1)).length = (cellsI b i).length * (b.getD i 0 + 1).toNat :=
  flat_len fun c _ => by rw [List.length_map, List.length_range]
theorem cells_head {b : List Int} (hb : ∀ n ∈ b, 0 ≤ n) : ∀ {i : Nat}, i ≤ b.length → (cellsI b i)[0]? = some (List.replicate i 0)
  | 0, _ => rfl
  | i + 1, hi => by
    have hg : 0 ≤ b.getD i 0 := by
      rw [List.getD_eq_getElem?_getD, List.getElem?_eq_getElem (show i < b.length by omega)]
      exact hb _ (List.getElem_mem _)
    have ih := cells_head hb (i := i) (by omega)
    show ((cellsI b i).flatMap _)[0]? = _
    cases e : cellsI b i with
    | nil => rw [e] at ih; cases ih
    | cons c cs =>
      rw [e] at ih
      cases Option.some.inj ih
      rw [List.flatMap_cons]
      obtain ⟨m, hm⟩ : ∃ m, (b.getD i 0 + 1).toNat = m + 1 := ⟨(b.getD i 0).toNat, by omega⟩
      rw [hm, List.range_succ_eq_map, List.map_cons, List.cons_append]
      show some (List.replicate i 0 ++ [((0 : Nat) : Int)]) = _
      rw [List.replicate_succ']
      rfl
/-- a cell less a kind stands ahead of it, where it is one -/
theorem cell_ahead {b : List Int} (hb : ∀ n ∈ b, 0 ≤ n) {i : Nat} {c h : List Int} (kh : Kd b.length h) (hc : (cellsI b b.length)[i]? = some c) (hn : nnB (subR c h 1) = true) : subR c h 1 ∈ (cellsI b b.length).take i := by
  have hcm := (cells_mem hb (Nat.le_refl _) c).mp (List.mem_of_getElem? hc)
  rw [List.take_length] at hcm
  have hl : c.length = h.length := by rw [hcm.len, kh.1]
  have below : ∀ {c b h : List Int}, Bel c b → c.length = h.length → (∀ n ∈ h, 0 ≤ n) → nnB (subR c h 1) = true → Bel (subR c h 1) b := by
    intro c
    induction c with
    | nil =>
      intro b h hb hl _ _
      cases b with
      | nil => exact True.intro
      | cons y b => exact hb.elim
    | cons x c ih =>
      intro b h hb hl h0 hn
      cases b with
      | nil => exact hb.elim
      | cons y b =>
        cases h with
        | nil => simp at hl
        | cons z h =>
          rw [subR_cons] at hn ⊢
          unfold nnB at hn
          rw [List.all_cons, Bool.and_eq_true] at hn
          have n1 := of_decide_eq_true hn.1
          have z0 := h0 z List.mem_cons_self
          exact ⟨⟨n1, by have := hb.1.2; omega⟩, ih hb.2 (by simpa using hl) (fun n hn' => h0 n (List.mem_cons_of_mem _ hn')) hn.2⟩
  have hm : subR c h 1 ∈ cellsI b b.length := (cells_mem hb (Nat.le_refl _) _).mpr (by rw [List.take_length]; exact below hcm hl kh.2.1 hn)
  have hlt := lx_sub hl kh.2.1 kh.2.2
  obtain ⟨j, hj, ej⟩ := List.mem_iff_getElem.mp hm
  obtain ⟨hi, ei⟩ := List.getElem?_eq_some_iff.mp hc
  have pw := List.pairwise_iff_getElem.mp (cells_rise (b := b) (i := b.length))
  by_cases c1 : j < i
  · exact List.mem_iff_getElem.mpr ⟨j, by rw [List.length_take]; omega, by rw [List.getElem_take]; exact ej⟩
  · exfalso
    by_cases c2 : j = i
    · subst c2
      have e : subR c h 1 = c := ej.symm.trans ei
      rw [e] at hlt
      exact lx_asymm hlt hlt
    · have := pw i j hi hj (by omega)
      rw [ei, ej] at this
      exact lx_asymm this hlt
end HL

namespace HL
/-! the fillings of a bill, in their order; their places -/
def fils : List (List Int) → List Int → List (List Int)
  | [], b => if zeroB b = true then [[]] else []
  | h :: t, b => (List.range (b.sum.toNat + 1)).flatMap fun (k : Nat) => (fils t (subR b h (k : Int))).map fun c => (k : Int) :: c
/-- counts that come to a bill, none below 0 -/
def Comes : List (List Int) → List Int → List Int → Prop
  | [], [], b => zeroB b = true
  | h :: t, k :: c, b => 0 ≤ k ∧ Comes t c (subR b h k)
  | _, _, _ => False
theorem len_flat {α : Type} (f : Nat → List α) : ∀ l : List Nat, (l.flatMap f).length = (l.map fun k => (f k).length).sum
  | [] => rfl
  | x :: l => by rw [List.flatMap_cons, List.length_append, List.map_cons, List.sum_cons, len_flat f l]
theorem fils_len : ∀ (l : List (List Int)) (b : List Int), (fils l b).length = cnt l b
  | [], b => by
    unfold fils cnt
    split <;> rfl
  | h :: t, b => by
    unfold fils cnt
    rw [len_flat]
    congr 1
    refine List.map_congr_left fun k _ => ?_
    rw [List.length_map, fils_len t _]
theorem comes_len : ∀ {l : List (List Int)} {c b : List Int}, Comes l c b → c.length = l.length
  | [], [], _, _ => rfl
  | [], _ :: _, _, h => h.elim
  | _ :: _, [], _, h => h.elim
  | h :: t, k :: c, b, q => by rw [List.length_cons, List.length_cons, comes_len q.2]
theorem comes_nn : ∀ {l : List (List Int)} {c b : List Int}, Comes l c b → ∀ n ∈ c, 0 ≤ n
  | [], [], _, _ => fun n hn => by cases hn
  | [], _ :: _, _, h => h.elim
  | _ :: _, [], _, h => h.elim
  | h :: t, k :: c, b, q => fun n hn => by
    rcases List.mem_cons.mp hn with e | e
    · rw [e]; exact q.1
    · exact comes_nn q.2 n e
/-- what comes to a bill is not below 0 -/
theorem comes_bill {g : Nat} : ∀ {l : List (List Int)} {c b : List Int}, (∀ h ∈ l, Kd g h) → b.length = g → Comes l c b → nnB b = true
  | [], [], b, _, _, q => nnB_iff.mpr fun n hn => by rw [zeroB_iff.mp q n hn]; exact Int.le_refl _
  | [], _ :: _, _, _, _, h => h.elim
  | _ :: _, [], _, _, _, h => h.elim
  | h :: t, k :: c, b, hl, hb, q => by
    have kh := hl h List.mem_cons_self
    have eb : b.length = h.length := by rw [hb, kh.1]
    have r := comes_bill (fun x hx => hl x (List.mem_cons_of_mem _ hx)) (by rw [subR_len eb, hb]) q.2
    cases e : nnB b with
    | true => rfl
    | false =>
      rw [sub_neg eb kh.2.1 q.1 e] at r
      cases r
theorem fils_mem {g : Nat} : ∀ {l : List (List Int)} {b c : List Int}, (∀ h ∈ l, Kd g h) → b.length = g → (c ∈ fils l b ↔ Comes l c b)
  | [], b, c, _, _ => by
    unfold fils
    cases e : zeroB b with
    | true =>
      rw [if_pos rfl, List.mem_singleton]
      cases c with
      | nil => exact ⟨fun _ => e, fun _ => rfl⟩
      | cons k c => exact ⟨fun h => (by cases h), fun h => h.elim⟩
    | false =>
      rw [if_neg (by decide)]
      cases c with
      | nil => exact ⟨fun h => (by cases h), fun h => (by rw [show Comes [] [] b = (zeroB b = true) from rfl, e] at h; cases h)⟩
      | cons k c => exact ⟨fun h => (by cases h), fun h => h.elim⟩
  | h :: t, b, c, hl, hb => by
    have kh := hl h List.mem_cons_self
    have eb : b.length = h.length := by rw [hb, kh.1]
    have ht : ∀ x ∈ t, Kd g x := fun x hx => hl x (List.mem_cons_of_mem _ hx)
    unfold fils
    rw [List.mem_flatMap]
    constructor
    · rintro ⟨k, _, hk⟩
      obtain ⟨c', hc, rfl⟩ := List.mem_map.mp hk
      exact ⟨Int.natCast_nonneg k, (fils_mem ht (by rw [subR_len eb, hb])).mp hc⟩
    · intro q
      cases c with
      | nil => exact q.elim
      | cons k c =>
        obtain ⟨n, rfl⟩ : ∃ n : Nat, k = (n : Int) := ⟨k.toNat, by have := q.1; omega⟩
        have r := comes_bill ht (by rw [subR_len eb, hb]) q.2
        refine ⟨n, List.mem_range.mpr ?_, List.mem_map.mpr ⟨c, (fils_mem ht (by rw [subR_len eb, hb])).mpr q.2, rfl⟩⟩
        by_cases w : n < b.sum.toNat + 1
        · exact w
        · rw [sub_far kh hb (by omega)] at r
          cases r
theorem fils_rise : ∀ (l : List (List Int)) (b : List Int), (fils l b).Pairwise lx
  | [], b => by
    unfold fils
    split
    · exact List.pairwise_singleton _ _
    · exact .nil
  | h :: t, b => by
    unfold fils
    rw [List.pairwise_flatMap]
    refine ⟨fun k _ => ?_, ?_⟩
    · rw [List.pairwise_map]
      exact (fils_rise t _).imp fun {p q} h => .inr ⟨rfl, h⟩
    · refine List.pairwise_lt_range.imp fun {p q} hpq => ?_
      intro x hx y hy
      obtain ⟨x', _, rfl⟩ := List.mem_map.mp hx
      obtain ⟨y', _, rfl⟩ := List.mem_map.mp hy
      exact .inl (by omega)
/-- the place of counts among the fillings -/
def plc : List (List Int) → List Int → List Int → Nat
  | h :: t, k :: c, b => ((List.range k.toNat).map fun (j : Nat) => cnt t (subR b h (j : Int))).sum + plc t c (subR b h k)
  | _, _, _ => 0
theorem flat_at {α : Type} (f : Nat → List α) {x : α} {i : Nat} : ∀ {n k : Nat}, k < n → (f k)[i]? = some x → ((List.range n).flatMap f)[((List.range k).map fun j => (f j).length).sum + i]? = some x
  | 0, _, h, _ => absurd h (Nat.not_lt_zero _)
  | n + 1, k, h, e => by
    rw [List.range_succ, List.flatMap_append]
    have hi : i < (f k).length := (List.getElem?_eq_some_iff.mp e).1
    by_cases c : k = n
    · subst c
      rw [List.getElem?_append_right (by rw [len_flat]; omega), len_flat, Nat.add_sub_cancel_left, List.flatMap_cons, List.flatMap_nil, List.append_nil]
      exact e
    · have hk : k < n := by omega
      have r := flat_at f hk e
      rw [List.getElem?_append_left (List.getElem?_eq_some_iff.mp r).1]
      exact r
theorem plc_at {g : Nat} : ∀ {l : List (List Int)} {c b : List Int}, (∀ h ∈ l, Kd g h) → b.length = g → Comes l c b → (fils l b)[plc l c b]? = some c
  | [], [], b, _, _, q => by
    have q' : zeroB b = true := q
    unfold fils plc
    rw [if_pos q']
    rfl
  | [], _ :: _, _, _, _, h => h.elim
  | _ :: _, [], _, _, _, h => h.elim
  | h :: t, k :: c, b, hl, hb, q => by
    have kh := hl h List.mem_cons_self
    have eb : b.length = h.length := by rw [hb, kh.1]
    have ht : ∀ x ∈ t, Kd g x := fun x hx => hl x (List.mem_cons_of_mem _ hx)
    obtain ⟨n, rfl⟩ : ∃ n : Nat, k = (n : Int) := ⟨k.toNat, by have := q.1; omega⟩
    have r := comes_bill ht (by rw [subR_len eb, hb]) q.2
    have hn : n < b.sum.toNat + 1 := by
      by_cases w : n < b.sum.toNat + 1
      · exact w
      · rw [sub_far kh hb (by omega)] at r
        cases r
    have ih := plc_at ht (by rw [subR_len eb, hb]) q.2
    unfold fils plc
    have e := flat_at (fun (k : Nat) => (fils t (subR b h (k : Int))).map fun c => (k : Int) :: c) (x := (n : Int) :: c) (i := plc t c (subR b h (n : Int))) hn (by rw [List.getElem?_map, ih]; rfl)
    have es : ((List.range n).map fun j => ((fun (k : Nat) => (fils t (subR b h (k : Int))).map fun c => (k : Int) :: c) j).length).sum = ((List.range n).map fun (j : Nat) => cnt t (subR b h (j : Int))).sum := by
      congr 1
      refine List.map_congr_left fun j _ => ?_
      show ((fils t (subR b h (j : Int))).map fun c => (j : Int) :: c).length = _
      rw [List.length_map, fils_len]
    rw [es] at e
    rw [Int.toNat_natCast]
    exact e
end HL

namespace HL
/-! the law's own list of loads, kind by kind, and the fillings among them -/
def takes (b h : List Int) : List Nat := (List.range (b.sum.toNat + 1)).filter fun (k : Nat) => nnB (subR b h (k : Int))
def lds : List (List Int) → List (List Int × List Int) → List (List Int × List Int)
  | [], rows => rows
  | h :: t, rows => lds t (rows.flatMap fun q => (takes q.2 h).map fun (k : Nat) => (q.1 ++ [(k : Int)], subR q.2 h (k : Int)))
theorem flat_filter {α : Type} {p : Nat → Bool} {f : Nat → List α} : ∀ {l : List Nat}, (∀ k ∈ l, p k = false → f k = []) → (l.filter p).flatMap f = l.flatMap f
  | [], _ => rfl
  | x :: l, h => by
    have ih := flat_filter (l := l) (p := p) (f := f) fun k hk => h k (List.mem_cons_of_mem _ hk)
    rw [List.filter_cons, List.flatMap_cons]
    cases e : p x with
    | true => rw [if_pos rfl, List.flatMap_cons, ih]
    | false => rw [if_neg (by decide), h x List.mem_cons_self e, ih]; rfl
theorem fils_neg {g : Nat} {l : List (List Int)} {b : List Int} (hl : ∀ h ∈ l, Kd g h) (hb : b.length = g) (e : nnB b = false) : fils l b = [] := by
  have := fils_len l b
  rw [cnt_neg hl hb e] at this
  exact List.eq_nil_of_length_eq_zero this
theorem flat_congr {α β : Type} {f g : α → List β} : ∀ {l : List α}, (∀ x ∈ l, f x = g x) → l.flatMap f = l.flatMap g
  | [], _ => rfl
  | x :: l, h => by rw [List.flatMap_cons, List.flatMap_cons, h x List.mem_cons_self, flat_congr fun y hy => h y (List.mem_cons_of_mem _ hy)]
theorem flat_flat {α β γ : Type} {f : α → List β} {g : β → List γ} : ∀ {l : List α}, (l.flatMap f).flatMap g = l.flatMap fun x => (f x).flatMap g
  | [] => rfl
  | x :: l => by rw [List.flatMap_cons, List.flatMap_append, List.flatMap_cons, flat_flat]
theorem flat_map {α β γ : Type} {f : α → β} {g : β → List γ} : ∀ {l : List α}, (l.map f).flatMap g = l.flatMap fun x => g (f x)
  | [] => rfl
  | x :: l => by rw [List.map_cons, List.flatMap_cons, List.flatMap_cons, flat_map]
theorem map_flat {α β γ : Type} {f : α → List β} {g : β → γ} : ∀ {l : List α}, (l.flatMap f).map g = l.flatMap fun x => (f x).map g
  | [] => rfl
  | x :: l => by rw [List.flatMap_cons, List.map_append, List.flatMap_cons, map_flat]
theorem base_fils : ∀ rows : List (List Int × List Int), (rows.filter fun q => zeroB q.2).map (·.1) = rows.flatMap fun q => (fils [] q.2).map fun c => q.1 ++ c
  | [] => rfl
  | q :: rows => by
    rw [List.flatMap_cons, ← base_fils rows, List.filter_cons]
    unfold fils
    cases e : zeroB q.2 with
    | true => rw [if_pos rfl, if_pos rfl, List.map_cons]; simp
    | false => rw [if_neg (by decide), if_neg (by decide)]; rfl
theorem lds_fils {g : Nat} : ∀ {l : List (List Int)} {rows : List (List Int × List Int)}, (∀ h ∈ l, Kd g h) → (∀ q ∈ rows, q.2.length = g) →
    ((lds l rows).filter fun q => zeroB q.2).map (·.1) = rows.flatMap fun q => (fils l q.2).map fun c => q.1 ++ c
  | [], rows, _, _ => base_fils rows
  | h :: t, rows, hl, hr => by
    have kh := hl h List.mem_cons_self
    have ht : ∀ x ∈ t, Kd g x := fun x hx => hl x (List.mem_cons_of_mem _ hx)
    show ((lds t (rows.flatMap fun q => (takes q.2 h).map fun (k : Nat) => (q.1 ++ [(k : Int)], subR q.2 h (k : Int)))).filter fun q => zeroB q.2).map (·.1) = _
    rw [lds_fils ht fun q hq => ?_, flat_flat]
    · refine flat_congr fun q hq => ?_
      have eb : q.2.length = h.length := by rw [hr q hq, kh.1]
      rw [flat_map]
      unfold takes
      rw [flat_filter fun k _ hk => ?_]
      · rw [show fils (h :: t) q.2 = (List.range (q.2.sum.toNat + 1)).flatMap fun (k : Nat) => (fils t (subR q.2 h (k : Int))).map fun c => (k : Int) :: c from rfl, map_flat]
        refine flat_congr fun k _ => ?_
        rw [List.map_map]
        refine List.map_congr_left fun c _ => ?_
        show q.1 ++ [(k : Int)] ++ c = q.1 ++ ((k : Int) :: c)
        rw [List.append_assoc]
        rfl
      · show (fils t (subR q.2 h (k : Int))).map _ = []
        rw [fils_neg ht (by rw [subR_len eb, hr q hq]) hk]
        rfl
    · obtain ⟨q0, hq0, hm⟩ := List.mem_flatMap.mp hq
      obtain ⟨k, _, rfl⟩ := List.mem_map.mp hm
      show (subR q0.2 h (k : Int)).length = g
      rw [subR_len (by rw [hr q0 hq0, kh.1]), hr q0 hq0]
/-- all fillings, as the law lists them -/
theorem all_fils {g : Nat} {l : List (List Int)} {b : List Int} (hl : ∀ h ∈ l, Kd g h) (hb : b.length = g) : ((lds l [([], b)]).filter fun q => zeroB q.2).map (·.1) = fils l b := by
  rw [lds_fils hl fun q hq => by rw [List.mem_singleton.mp hq]; exact hb]
  rw [List.flatMap_cons, List.flatMap_nil, List.append_nil]
  simp
end HL

namespace HL
/-! how often a kind goes in; the fillings step by step -/
theorem neg_on {g : Nat} {b h : List Int} {j k : Nat} (kh : Kd g h) (hb : b.length = g) (hjk : j ≤ k) (e : nnB (subR b h (j : Int)) = false) : nnB (subR b h (k : Int)) = false := by
  have eb : b.length = h.length := by rw [hb, kh.1]
  have := sub_neg (b := subR b h (j : Int)) (h := h) (k := ((k - j : Nat) : Int)) (by rw [subR_len eb, eb]) kh.2.1 (Int.natCast_nonneg _) e
  rw [subR_add, show (j : Int) + ((k - j : Nat) : Int) = (k : Int) by omega] at this
  exact this
/-- a loop that counts up until the kind goes in no more has told all takings -/
theorem takes_to {g : Nat} {b h : List Int} {k : Nat} (kh : Kd g h) (hb : b.length = g) (h1 : ∀ j, j < k → nnB (subR b h (j : Int)) = true) (h2 : nnB (subR b h (k : Int)) = false) : takes b h = List.range k := by
  have hk : k ≤ b.sum.toNat + 1 := by
    by_cases c : k ≤ b.sum.toNat + 1
    · exact c
    · have := h1 (b.sum.toNat + 1) (by omega)
      rw [sub_far kh hb (by omega)] at this
      cases this
  unfold takes
  rw [show b.sum.toNat + 1 = k + (b.sum.toNat + 1 - k) by omega, List.range_add, List.filter_append]
  have e1 : (List.range k).filter (fun (k : Nat) => nnB (subR b h (k : Int))) = List.range k := List.filter_eq_self.mpr fun j hj => h1 j (List.mem_range.mp hj)
  have e2 : ((List.range (b.sum.toNat + 1 - k)).map (k + ·)).filter (fun (k : Nat) => nnB (subR b h (k : Int))) = [] := List.filter_eq_nil_iff.mpr fun j hj => by
    obtain ⟨i, _, rfl⟩ := List.mem_map.mp hj
    rw [neg_on kh hb (Nat.le_add_right k i) h2]
    decide
  rw [e1, e2, List.append_nil]
/-- how far such a loop can come -/
theorem fits_lt {g : Nat} {b h : List Int} {k : Nat} (kh : Kd g h) (hb : b.length = g) (e : nnB (subR b h (k : Int)) = true) : k ≤ b.sum.toNat := by
  by_cases c : k ≤ b.sum.toNat
  · exact c
  · rw [sub_far kh hb (by omega)] at e
    cases e
theorem fils_to {g : Nat} {h : List Int} {t : List (List Int)} {b : List Int} {m : Nat} (hl : ∀ x ∈ h :: t, Kd g x) (hb : b.length = g) (hm : b.sum.toNat + 1 ≤ m) :
    fils (h :: t) b = (List.range m).flatMap fun (k : Nat) => (fils t (subR b h (k : Int))).map fun c => (k : Int) :: c := by
  have kh := hl h List.mem_cons_self
  have eb : b.length = h.length := by rw [hb, kh.1]
  have ht : ∀ x ∈ t, Kd g x := fun x hx => hl x (List.mem_cons_of_mem _ hx)
  rw [show m = (b.sum.toNat + 1) + (m - (b.sum.toNat + 1)) by omega, List.range_add, List.flatMap_append]
  have e2 : ((List.range (m - (b.sum.toNat + 1))).map ((b.sum.toNat + 1) + ·)).flatMap (fun (k : Nat) => (fils t (subR b h (k : Int))).map fun c => (k : Int) :: c) = [] := by
    rw [flat_map]
    refine List.flatMap_eq_nil_iff.mpr fun i _ => ?_
    rw [fils_neg ht (by rw [subR_len eb, hb]) (sub_far kh hb (by omega))]
    rfl
  rw [e2, List.append_nil]
  rfl
def bump : List Int → List Int
  | k :: c => (k + 1) :: c
  | [] => []
theorem fils_step {g : Nat} {h : List Int} {t : List (List Int)} {b : List Int} (hl : ∀ x ∈ h :: t, Kd g x) (hb : b.length = g) :
    fils (h :: t) b = (fils t b).map (fun c => (0 : Int) :: c) ++ (fils (h :: t) (subR b h 1)).map bump := by
  have kh := hl h List.mem_cons_self
  have eb : b.length = h.length := by rw [hb, kh.1]
  rw [fils_to hl hb (m := b.sum.toNat + 1 + 1) (by omega), List.range_succ_eq_map, List.flatMap_cons, fils_to hl (b := subR b h 1) (by rw [subR_len eb, hb]) (sub_sum_le kh hb), map_flat, flat_map, show ((0 : Nat) : Int) = 0 from rfl, subR_zero eb]
  congr 1
  refine flat_congr fun k _ => ?_
  rw [List.map_map, subR_add, show (1 : Int) + (k : Int) = ((k.succ : Nat) : Int) by omega]
  refine List.map_congr_left fun c _ => ?_
  show ((k.succ : Nat) : Int) :: c = ((k : Int) + 1) :: c
  congr 1
theorem at_lt {g : Nat} {h : List Int} {t : List (List Int)} {b : List Int} {p : Nat} (hl : ∀ x ∈ h :: t, Kd g x) (hb : b.length = g) (hp : p < cnt t b) : (fils (h :: t) b)[p]? = ((fils t b)[p]?).map fun c => (0 : Int) :: c := by
  rw [fils_step hl hb, List.getElem?_append_left (by rw [List.length_map, fils_len]; exact hp), List.getElem?_map]
theorem at_ge {g : Nat} {h : List Int} {t : List (List Int)} {b : List Int} {p : Nat} (hl : ∀ x ∈ h :: t, Kd g x) (hb : b.length = g) (hp : cnt t b ≤ p) : (fils (h :: t) b)[p]? = ((fils (h :: t) (subR b h 1))[p - cnt t b]?).map bump := by
  rw [fils_step hl hb, List.getElem?_append_right (by rw [List.length_map, fils_len]; exact hp), List.length_map, fils_len, List.getElem?_map]
end HL

namespace HL
open PySem PySem.Spec PyProof.Rows L2
open PySem.W (KeyPure EachIs)
open PySem.Spec PySem.W
open LamX (CodeO Tabs TabB ExtN lamEnv lam_make2)
/-! sorted(rows, key=lambda row: abs(row[place])): rows of whole numbers, the place a name of the def -/
/-- the names of such a lambda: its one parameter, the place of the def around it, abs -/
structure LamK (sd sc : Scope) (r pl : Str) : Prop where
  kind : sc.kind = .function
  co : sc.isCoroutine = false
  gen : sc.isGenerator = false
  nocell : ∀ y ∈ sc.names, y.2 ≠ .cell
  row : sc.names.lookup r = some .local
  place : sc.names.lookup pl = some .free
  ab : sc.names.lookup (Str.ofString "abs") = some .globalImplicit
  only : ∀ y ∈ sc.names, y.2 = .free → y.1 = pl
  out : sd.names.lookup pl = some .cell
def lamKB (sd sc : Scope) (r pl : Str) : Bool :=
  decide (sc.kind = .function) && !sc.isCoroutine && !sc.isGenerator && (sc.names.all fun y => !decide (y.2 = .cell)) && decide (sc.names.lookup r = some .local) && decide (sc.names.lookup pl = some .free) && decide (sc.names.lookup (Str.ofString "abs") = some .globalImplicit) &&
    (sc.names.all fun y => !decide (y.2 = .free) || decide (y.1 = pl)) && decide (sd.names.lookup pl = some .cell)
theorem lamK_by {sd sc : Scope} {r pl : Str} (h : lamKB sd sc r pl = true) : LamK sd sc r pl := by
  unfold lamKB at h
  simp only [Bool.and_eq_true, Bool.or_eq_true, Bool.not_eq_true', decide_eq_true_eq, decide_eq_false_iff_not, List.all_eq_true] at h
  obtain ⟨⟨⟨⟨⟨⟨⟨⟨h1, h2⟩, h3⟩, h4⟩, h5⟩, h6⟩, h7⟩, h8⟩, h9⟩ := h
  exact ⟨h1, h2, h3, h4, h5, h6, h7, fun y hy e => (h8 y hy).resolve_left fun z => z e, h9⟩
def absI (z : Int) : Int := if z < 0 then -z else z
section
variable {X : Cx} {pins : List (Addr × Obj)} {σ : L2.St} {H : Hp} {s : Shared}
theorem key_turn {sc : Scope} {ps : Arguments} {r pl : Str} {f c' : Addr} {pm ct : Value} {i : Nat} {n z : Int} {p1 p2 p3 p4 p5 : Pos} {a : Addr} {xs : List Int}
    (I : Inv X pins σ H s) (L : LamK X.env.scope sc r pl) (hf : s.heap.get? f = some (lamO X ps (.Call (.Name "abs" p1) [.Subscript (.Name r p2) (.Name pl p3) p4] [] p5) sc pm c' ct)) (hco : H c' = some (CodeO c' (X.env.qual ++ "<lambda>")))
    (hb : ∀ v, bindArgs (PySem.W.kla_fn "<lambda>" (X.env.qual ++ "<lambda>") ps (.Call (.Name "abs" p1) [.Subscript (.Name r p2) (.Name pl p3) p4] [] p5) sc (cloFrom X.env.cells sc.names []) pm (.ref c') ct) ⟨[v], []⟩ = pure [(r, v)])
    (hm : X.mg "abs" = none) (hN : X.N[i]? = some pl) (hσ : σ[i]? = some (some (.int n))) (hr : Room 3 X.A) (dr : (r == ("__debug__" : Str)) = false) (dp : (pl == ("__debug__" : Str)) = false) (dp2 : (pl == ("__classdict__" : Str)) = false)
    (ha : H a = some (.tup (xs.map V.int))) (hat : atI (xs.map V.int) n = some (.int z)) (g : Heap) (tk : Nat) (kp : ∀ b o, s.heap.get? b = some o → g.get? b = some o) :
    wpAny (model X.prog X.w) X.A.in1.in1 (call (.ref f) [.ref a]) (KeyPure (.int (absI z)) { s with heap := g, toks := tk }) (fun _ _ => False) { s with heap := g, toks := tk } := by
  obtain ⟨cp, hcp⟩ : ∃ c, X.env.cells.lookup pl = some c := I.ok.has _ (.inl L.out)
  have hclo : (cloFrom X.env.cells sc.names []).lookup pl = some cp := by
    have hy : (pl, NameKind.free) ∈ sc.names := PySem.mem_of_lookup L.place
    obtain ⟨c2, h2⟩ := mem_lookup (cloFrom_has (cells := X.env.cells) (acc := []) hy)
    rcases cloFrom_mem (PySem.mem_of_lookup h2) with hm | ⟨h1, h3⟩
    · cases hm
    · rw [h2, h3, hcp]
      rfl
  have hplv : ∃ t, s.heap.IsCell cp (some (.int n t)) := by
    obtain ⟨m, hn, hl⟩ := I.loc
    obtain ⟨u, ru, q⟩ := hl i pl _ hN hσ (.inr (.inl L.out))
    obtain ⟨t, rfl⟩ := ru
    rcases q with ⟨k, _⟩ | ⟨_, c, e, hc⟩
    · have k : X.env.scope.names.lookup pl = some .local := k
      rw [L.out] at k
      cases k
    · rw [hcp] at e
      cases e
      exact ⟨t, hc⟩
  obtain ⟨t, hcell⟩ := hplv
  obtain ⟨its, rv, htp, hz⟩ := I.tuple (a := a) (SqT.of ha)
  obtain ⟨j, h1, h2, h3, h4, h5⟩ := atI_get hat
  obtain ⟨w, ew, rw'⟩ := rv.get h2
  obtain ⟨tz, rfl⟩ := rw'
  have hl := rv.length
  have hn63 := line63
  have of1 : g.get? f = some (lamO X ps (.Call (.Name "abs" p1) [.Subscript (.Name r p2) (.Name pl p3) p4] [] p5) sc pm c' ct) := kp _ _ hf
  obtain ⟨⟨oc, vs, tc, hoc, hdc, hvc⟩, _, _⟩ := I.hok c' _ hco
  have dpth : X.A.in1.in1.depth < recursionLimit := by
    have := hr.dp
    show X.A.depth < _
    omega
  refine wpAny_call (PySem.W.kla_callFunE dpth of1 rfl L.co L.gen rfl ⟨c', oc, vs, tc, rfl, kp _ _ hoc, hdc, hvc⟩ ?_)
  rw [hb]
  refine wpAny_pure (wpAny_newFunctionEnv L.nocell (fun y hy => by rw [List.mem_singleton.mp hy]; exact L.row) (fun h₁ hns hsb => ⟨?_, ?_⟩) L.kind)
  · have lim : Heap.NoLimit g := I.nolimit.keeps kp
    exact lim.fresh _ hsb
  have kp1 : ∀ b o, g.get? b = some o → h₁.get? b = some o := fun b o e => hsb.extBut b o (Nat.ne_of_lt (Heap.lt_size e)) (Heap.get?_push_of_some _ e)
  have kp2 : ∀ b o, s.heap.get? b = some o → h₁.get? b = some o := fun b o e => kp1 _ _ (kp _ _ e)
  refine PySem.W.kla_codeExpr ?_
  obtain ⟨mb, b1, b2⟩ := I.mod.blt
  refine wpAny_Call_Name_kw (Calls.Name_function_global L.kind L.ab (Calls.loadGlobal_builtin (I.mod.glob.keeps fun b o e => kp2 _ _ (I.bk b o e)) hm (b1.keeps fun b o e => kp2 _ _ (I.bk b o e)) ((b2 "abs" (by decide)).trans (show bootBuiltins "abs" = some (.builtin "abs") by decide +kernel)) ?_) (by decide))
  refine PyProof.Rows.callWith_builtin1 ?_ rfl rfl
  refine Calls.spliced_cons (Subscript_ (wpAny_Name (wpAny_loadName_local (v := .ref a) L.kind L.row hns ?_ (wpAny_Name (wpAny_loadName_free (v := .int n t) L.kind L.place hclo ?_ ?_ dp2) dp)) dr))
  · show ([(r, Value.ref a)].reverse).lookup r = some (.ref a)
    simp
  · obtain ⟨o, ho, hd⟩ := hcell
    exact ⟨o, kp2 _ _ ho, hd⟩
  · refine subscriptTail_builtinR (x := .int z tz) (htp.keeps kp2).typeIs slot_tuple_getitem.lookup (getItem_tuple (j := j) (htp.keeps kp2) (by omega) (by omega) (by rw [List.size_toArray, ← hl]; exact h1) (by simpa using ew) ⟨rfl, Calls.spliced_nil ?_⟩) rfl
    refine call_abs_int fun u tk2 => ?_
    exact ⟨h₁, _, rfl, kp1, .int _ _⟩
end
/-- the row at an address, as it is told -/
def rowF (H : Hp) (a : Addr) : List Int := match H a with
  | some (.tup xs) => xs.map fun v => match v with
    | .int n => n
    | _ => 0
  | _ => []
theorem rowF_at {H : Hp} {a : Addr} {r : List Int} (h : H a = some (.tup (r.map V.int))) : rowF H a = r := by
  unfold rowF
  rw [h]
  simp [List.map_map, Function.comp_def]
def tSortKey (K : PySem.W.Frag) (T : List (Addr × Str)) (i : Nat) (te : TE) : TE := fun σ H Q => te σ H fun v H0 => ∃ (l : Addr) (as : List Addr) (row : Addr → List Int) (n : Nat), v = .ref l ∧ H0 l = some (.lst (as.map V.ref)) ∧ Tabs T H0 ∧ σ[i]? = some (some (.int (n : Int))) ∧
  (∀ a ∈ as, H0 a = some (.tup ((row a).map V.int)) ∧ n < (row a).length) ∧
  ∀ (H1 : Hp) (bs : List Addr) (p : Addr), ExtN H0 H1 → Tabs T H1 → bs.Perm as → bs.Pairwise (fun a b => absI ((row a).getD n 0) ≤ absI ((row b).getD n 0)) → H1 p = none → Q (.ref p) (upd H1 p (.lst (bs.map V.ref)))
theorem each_refs : ∀ as : List Addr, EachIs (fun (v : Value) (a : Addr) => v = .ref a) (as.map Value.ref) as
  | [] => .nil
  | a :: as => .cons rfl (each_refs as)
theorem refs_each : ∀ {vs : List Value} {as : List Addr}, EachIs (fun (v : Value) (a : Addr) => v = .ref a) vs as → vs = as.map Value.ref
  | _, _, .nil => rfl
  | _, _, .cons h t => by rw [List.map_cons, h, refs_each t]
theorem vals_of_refs : ∀ as : List Addr, Vals (as.map V.ref) (as.map Value.ref)
  | [] => .nil
  | a :: as => .cons rfl (vals_of_refs as)
theorem pe_sortKey {X : Cx} {T : List (Addr × Str)} {c P : Addr} {i : Nat} {r pl : Str} {ps : Arguments} {sc : Scope} {e : Expr} {te : TE} {p lp kp pos p1 p2 p3 p4 p5 : Pos}
    (hg : Gl X "sorted") (hs : X.mg "sorted" = none) (hm : X.mg "abs" = none) (he : PE X e te) (TB : TabB X.base X.mg c P) (hcode : X.env.code = .ref c) (hT : (P, X.env.qual ++ "<lambda>") ∈ T) (hu : ∀ p ∈ T, p.1 = P → p.2 = X.env.qual ++ "<lambda>")
    (L : LamK X.env.scope sc r pl) (hdef : defaultsOf ps X.env = ([], [])) (hN : X.N[i]? = some pl) (hr : Room 3 X.A)
    (hb : ∀ (q : Str) (cl : List (Str × Addr)) (pm cv ctv v : Value), bindArgs (PySem.W.kla_fn "<lambda>" q ps (.Call (.Name "abs" p1) [.Subscript (.Name r p2) (.Name pl p3) p4] [] p5) sc cl pm cv ctv) ⟨[v], []⟩ = pure [(r, v)])
    (hst : starEach [e] X.env = [(false, eval e X.env)] := by rfl)
    (dr : (r == ("__debug__" : Str)) = false := by decide) (dp : (pl == ("__debug__" : Str)) = false := by decide) (dp2 : (pl == ("__classdict__" : Str)) = false := by decide) :
    PE X (.Call (.Name "sorted" p) [e] [⟨some "key", .Lambda ps (.Call (.Name "abs" p1) [.Subscript (.Name r p2) (.Name pl p3) p4] [] p5) sc lp, kp⟩] pos) (tSortKey X.K T i te) := by
  refine ⟨fun pins s σ H Q I h => ?_⟩
  refine wpAny_Call_Name_kw (ld_blt I hg hs (show bootBuiltins "sorted" = some (.builtin "sorted") by decide +kernel) ?_ (by decide) (by decide))
  refine PyProof.Rows.callWith_kw ?_ (by rw [hst]; rfl) (by rw [hst]; rfl) rfl rfl
  rw [hst]
  show wpAny _ _ (spliced [(false, eval e X.env)]) _ _ s
  refine Calls.spliced_cons (thn (he.run pins s σ H _ I (show te σ H _ from h)) fun u s1 ⟨v, H0, I0, r0, q0⟩ => Calls.spliced_nil ?_)
  obtain ⟨l, as, row, n, rfl, hL, hTt, hσ, hrow, q⟩ := q0
  obtain rfl : u = Value.ref l := r0
  show wpAny _ _ (evalAll ((do let v ← eval (.Lambda ps (.Call (.Name "abs" p1) [.Subscript (.Name r p2) (.Name pl p3) p4] [] p5) sc lp) X.env; standAt pos; pure v) :: [])) _ _ s1
  have hfree : ∀ y ∈ sc.names, y.2 = .free → ∃ c, X.env.cells.lookup y.1 = some c := fun y hy e => by
    rw [L.only y hy e]
    exact I.ok.has _ (.inl L.out)
  refine wpAny_evalAll_cons (wpAny_bind (lam_make2 I0 TB hcode hT hu hTt hdef hfree fun f c' pm' ctv H1 s2 J eN T1 hf hfn hfr hco => wpAny_bind (wpAny_standAt (wpAny_pure (wpAny_evalAll_nil ?_)))))
  have hL1 : SqL X.K H1 l (as.map V.ref) := by
    exact SqL.of (eN _ _ hL (fun ps w => by cases w))
  have hrow1 : ∀ a ∈ as, H1 a = some (.tup ((row a).map V.int)) ∧ n < (row a).length := fun a ha => ⟨eN _ _ (hrow a ha).1 (fun ps w => by cases w), (hrow a ha).2⟩
  obtain ⟨its, rv, hl, hz⟩ := J.list hL1
  obtain ⟨e1, e2⟩ := refs_back rv fun x m => by
    obtain ⟨b, _, rfl⟩ := List.mem_map.mp m
    exact ⟨b, rfl⟩
  obtain rfl := vals_refs e2 e1
  have hz' : as.length ≤ sizeLine := by rw [List.length_map] at hz; exact hz
  have hun := hr.un
  show wpAny _ _ (call (.builtin "sorted") [.ref l] [(Str.ofString "key", .ref f)]) _ _ s2
  refine PySem.W.sorted_key_data (b := false) (R := fun (v : Value) (a : Addr) => v = .ref a) (bs := as) (fun a => .int (absI ((row a).getD n 0))) hl.isList (each_refs as) (PySem.W.AllAlike.of fun _ _ => by simp [PySem.W.alike]) (.inr fun d hd => ?_) hz' (fun a _ => ?_) (ksk_s1 _ _) (fun _ => ksk_l1 _ _) (fun _ => ksk_t1 _ _)
    (fun v a hv ha g tk kp => ?_) fun out cc h' tk kp fresh hD hlen eo => ?_
  · obtain ⟨a, _, rfl⟩ := List.mem_map.mp hd
    exact ⟨(fun z => by cases z), (fun xs z => by cases z)⟩
  · have hd : (PyData.int (absI ((row a).getD n 0))).depth = 0 := by simp [PyData.depth]
    rw [hd]
    omega
  · subst hv
    have hat : atI ((row a).map V.int) (n : Int) = some (.int ((row a).getD n 0)) := atI_nat (by
      rw [List.getElem?_map, List.getD_eq_getElem?_getD, List.getElem?_eq_getElem (hrow1 a ha).2]
      rfl)
    exact key_turn J L hf hco (fun v => hb _ _ _ _ _ v) hm hN hσ hr dr dp dp2 (hrow1 a ha).1 hat g tk kp
  · have eout := refs_each eo
    have hle : PySem.W.dataLe (β := Addr) false (fun a => .int (absI ((row a).getD n 0))) = fun a b => decide (absI ((row a).getD n 0) ≤ absI ((row b).getD n 0)) := PySem.W.dataLe_int (fun a => absI ((row a).getD n 0))
    rw [hle] at eout
    have tot : PySem.W.TotalLe (fun a b : Addr => decide (absI ((row a).getD n 0) ≤ absI ((row b).getD n 0))) := ⟨fun a b c h1 h2 => by
      have h1 := of_decide_eq_true h1
      have h2 := of_decide_eq_true h2
      exact decide_eq_true (Int.le_trans h1 h2), fun a b => by
      rcases Int.le_total (absI ((row a).getD n 0)) (absI ((row b).getD n 0)) with h | h
      · exact .inl (decide_eq_true h)
      · exact .inr (decide_eq_true h)⟩
    have srt := (PySem.W.sort_pairwise tot as).imp fun {a b} h => of_decide_eq_true h
    have prm := List.mergeSort_perm as fun a b : Addr => decide (absI ((row a).getD n 0) ≤ absI ((row b).getD n 0))
    generalize as.mergeSort (fun a b : Addr => decide (absI ((row a).getD n 0) ≤ absI ((row b).getD n 0))) = bs at eout srt prm
    refine ⟨.ref _, upd H1 (s2.heap.objs.size + 1) (.lst (bs.map V.ref)), J.laid (t' := tk) kp (Nat.le_succ _) ⟨?_, bs.map Value.ref, cc, vals_of_refs bs, ?_⟩, rfl, q H1 bs _ eN T1 prm srt (J.hok.fresh (Nat.le_succ _))⟩
    · rw [List.length_map, prm.length_eq]
      exact hz'
    · rw [eout] at hD
      exact hD
end HL

namespace HL
open PySem PySem.Spec PyProof.Rows L2
/-! zip of a tuple and a list, by the library's zip over iterators of any kind -/
def ItzM (K : PySem.W.Frag) (a b : Addr) : It :=
  ⟨fun n H => ∃ us ws u w, (SqT K H a us ∧ us[n]? = some u) ∧ SqL K H b ws ∧ ws[n]? = some w,
    fun n H v H' => ∃ T u w, v = .ref T ∧ H T = none ∧ H' = upd H T (.tup [u, w]) ∧ (∀ us, SqT K H a us → us[n]? = some u) ∧ ∀ ws, SqL K H b ws → ws[n]? = some w,
    fun n H => ∃ us ws : List V, SqT K H a us ∧ SqL K H b ws ∧ us.length = ws.length ∧ n = us.length⟩
abbrev stM (z TI TO j k a b : Addr) (n : Nat) (h : Heap) : Prop := IsZip h z TI TO .none ∧ IsPair h TI (.ref j) (.ref k) ∧ (∃ u w, IsPair h TO u w) ∧ h.IsTupleIter j a n ∧ h.IsListIter k b n
theorem sep_of {z TI TO j k a b : Addr} (D : ZipApart z TI TO j k a b) : ZipSep2 z TI TO j k [j, a] [k, b] := by
  have no : ∀ {x y w : Addr}, x ≠ y → x ≠ w → x ∉ [y, w] := fun h1 h2 m => by
    rcases List.mem_cons.mp m with e | e
    · exact h1 e
    · exact h2 (List.mem_singleton.mp e)
  exact ⟨D.TIz, D.TOz, D.TITO, D.TIi1, List.mem_cons_self, no D.i1z.symm D.l1z.symm, no D.TOi1 D.l1TO.symm, D.TIi2, List.mem_cons_self, no D.i2z.symm D.l2z.symm, no D.TOi2 D.l2TO.symm, no D.i12 D.l2i1.symm, no D.i12.symm D.l1i2.symm⟩
theorem turn_zipM {P : Program} {w : World} {K : PySem.W.Frag} {elts : List Expr} {kk : Nat} {tp : Pos} {a b z TI TO j k : Addr} (D : ZipApart z TI TO j k a b) : Turn P w K (.Tuple elts kk tp) (ItzM K a b) [z, TI, TO, j, k] z (stM z TI TO j k a b) where
  mem := List.mem_cons_self
  obj := by
    rintro n h ⟨s1, s2, ⟨u, w', s3⟩, ⟨o4, e4, _, d4⟩, ⟨o5, e5, _, d5⟩⟩ c hc
    simp only [List.mem_cons, List.mem_nil_iff, or_false] at hc
    rcases hc with rfl | rfl | rfl | rfl | rfl
    · exact ⟨_, s1, fun v q => nomatch q⟩
    · exact ⟨_, s2, fun v q => nomatch q⟩
    · exact ⟨_, s3, fun v q => nomatch q⟩
    · exact ⟨o4, e4, fun v q => by rw [d4] at q; cases q⟩
    · exact ⟨o5, e5, fun v q => by rw [d5] at q; cases q⟩
  keep := by
    rintro n h h' ⟨s1, s2, ⟨u, w', s3⟩, s4, s5⟩ kp
    exact ⟨kp _ (by simp) _ s1, kp _ (by simp) _ s2, ⟨u, w', kp _ (by simp) _ s3⟩, s4.at fun o q => kp _ (by simp) o q, s5.at fun o q => kp _ (by simp) o q⟩
  item := by
    intro X hP hw hK hc n pins s σ H E I hf st hg
    subst hP hw hK
    obtain ⟨s1, s2, ⟨u0, w0, s3⟩, s4, s5⟩ := st
    obtain ⟨us, ws, u, w', ⟨qa, hu⟩, qb, hw'⟩ := hg
    obtain ⟨la, va, ta, _⟩ := I.tuple qa
    obtain ⟨lb, vb, tb, _⟩ := I.list qb
    obtain ⟨x1, gx1, r1⟩ := va.get hu
    obtain ⟨x2, gx2, r2⟩ := vb.get hw'
    have lt1 : n < la.toArray.size := by rw [List.size_toArray]; exact (List.getElem?_eq_some_iff.mp gx1).1
    have lt2 : n < lb.toArray.size := by rw [List.size_toArray]; exact (List.getElem?_eq_some_iff.mp gx2).1
    have hh : X.A.in1.handled = none := I.ok.hd hc
    have zl : z < s.heap.objs.size := Heap.lt_size s1
    refine wpAny_pyNext_zipD2_item (sep_of D) (Draws.tuple hh j a D.l1i1 la.toArray) (Draws.list hh k b D.l2i2 lb.toArray) s1 s2 s3 ⟨s4, ta⟩ ⟨s5, tb.isList⟩ lt1 lt2 fun y1 y2 h' tk g1 g2 z1 z3 t1 t2 hT hsz hk => ?_
    have ey1 : y1 = x1 := by
      have g1' : la[n]? = some y1 := by simpa using g1
      exact Option.some.inj (g1'.symm.trans gx1)
    have ey2 : y2 = x2 := by
      have g2' : lb[n]? = some y2 := by simpa using g2
      exact Option.some.inj (g2'.symm.trans gx2)
    subst ey1 ey2
    refine ⟨_, rfl, wpAny_letOwnedTupleGo_zip (s := { s with heap := h', toks := tk }) z1 fun h2 zz sb => ?_⟩
    have T2 : h2.get? s.heap.objs.size = some { cls := .type "tuple", data := .seq #[y1, y2] } := (sb.2 _ (Nat.ne_of_gt zl)).trans hT
    have I1 := I.turnedNew (ob := .tup [u, w']) (t' := tk) (ch := [z, TI, TO, j, k]) (h' := h2) (fun c o hb q => by
      simp only [List.mem_cons, List.mem_nil_iff, or_false, not_or] at hb
      exact (sb.2 c hb.1).trans (hk c o hb.1 hb.2.2.1 hb.2.2.2.1 hb.2.2.2.2 q)) hf (Nat.le_refl _) ⟨by show 2 ≤ sizeLine; decide, [y1, y2], .cons r1 (.cons r2 .nil), ⟨_, T2, rfl, _, rfl⟩⟩
    have up : ∀ {c : Addr} {o : Obj}, c ≠ z → h'.get? c = some o → h2.get? c = some o := fun n q => (sb.2 _ n).trans q
    refine ⟨.ref s.heap.objs.size, _, I1, rfl, ⟨_, u, w', rfl, I.hok.fresh (Nat.le_refl _), rfl, fun l q => by rw [I.tuple_inj q qa]; exact hu, fun l q => by rw [I.list_inj q qb]; exact hw'⟩,
      ⟨zz, up D.TIz (hk _ _ D.TIz D.TITO D.TIi1 D.TIi2 s2), ⟨y1, y2, up D.TOz z3⟩, t1.1.at fun o q => up D.i1z q, t2.1.at fun o q => up D.i2z q⟩, fun c hcm => ?_⟩
    have clt : c < s.heap.objs.size := by
      have hcm' := hcm
      simp only [List.mem_cons, List.mem_nil_iff, or_false] at hcm'
      rcases hcm' with rfl | rfl | rfl | rfl | rfl
      · exact zl
      · exact Heap.lt_size s2
      · exact Heap.lt_size s3
      · obtain ⟨_, e, _⟩ := s4; exact Heap.lt_size e
      · obtain ⟨_, e, _⟩ := s5; exact Heap.lt_size e
    rw [upd_ne (Nat.ne_of_lt clt)]
    exact (hf c hcm).1
  done := by
    intro X hP hw hK hc n pins s σ H E I hf st hg
    subst hP hw hK
    obtain ⟨s1, s2, ⟨u0, w0, s3⟩, s4, s5⟩ := st
    obtain ⟨us, ws, qa, qb, el, en⟩ := hg
    obtain ⟨la, va, ta, _⟩ := I.tuple qa
    obtain ⟨lb, vb, tb, _⟩ := I.list qb
    have l1 := va.length
    have l2 := vb.length
    have hh : X.A.in1.handled = none := I.ok.hd hc
    refine wpAny_pyNext_zipD2_end (sep_of D) (Draws.tuple hh j a D.l1i1 la.toArray) (Draws.list hh k b D.l2i2 lb.toArray) s1 s2 s3 ⟨s4, ta⟩ ⟨s5, tb.isList⟩ (by rw [List.size_toArray]; omega) (by rw [List.size_toArray]; omega) (.inl (by rw [List.size_toArray]; omega)) fun h' tk hk => ?_
    exact ⟨rfl, I.turnedL (t' := tk) (ch := [z, TI, TO, j, k]) (fun c o hb q => by
      simp only [List.mem_cons, List.mem_nil_iff, or_false, not_or] at hb
      exact hk c o hb.1 hb.2.2.1 hb.2.2.2.1 hb.2.2.2.2 q) hf⟩
  self := fun A n s Q E st h => wpAny_pyIter_zip st.1 h
def iZipM (K : PySem.W.Frag) (ta : TA) : TI := fun σ H R => ta σ H fun vs H1 => ∃ a b xs ys, vs = [.ref a, .ref b] ∧ ((SqT K H1 a xs ∧ SqL K H1 b ys ∧ R (ItzM K a b) H1) ∨ (SqT K H1 a xs ∧ SqT K H1 b ys ∧ R (RZ.ItzT K a b) H1))
theorem pi_zipM {X : Cx} {e e2 : Expr} {ta : TA} {p pos tp : Pos} {elts : List Expr} {kk : Nat} (hg : Gl X "zip") (hm : X.mg "zip" = none) (ha : PA X [e, e2] ta)
    (hs : starEach [e, e2] X.env = (false, eval e X.env) :: starEach [e2] X.env := by rfl) (hpl : (backTo pos (starEach [e2] X.env)).any (·.1) = false := by rfl) : PI X (.Tuple elts kk tp) (.Call (.Name "zip" p) [e, e2] [] pos) (iZipM X.K ta) := by
  refine ⟨fun pins s σ H R I h => Call_ (ld_blt I hg hm PyProof.Rows.boot_zip (PyProof.Rows.callWith_type1 (thn (ha.run pos pins s σ H _ I h) ?_) hs hpl))⟩
  rintro us s1 ⟨vs, H1, I1, r1, a, b, xs, ys, rfl, q1⟩
  obtain ⟨v1, v2, rfl, e1, e2⟩ := vals2 r1
  obtain rfl : v1 = Value.ref a := e1
  obtain rfl : v2 = Value.ref b := e2
  have fr : ∀ c, c ∈ [s1.heap.objs.size + 4, s1.heap.objs.size + 2, s1.heap.objs.size + 3, s1.heap.objs.size, s1.heap.objs.size + 1] → FpOk X pins H1 c := fun c m => by
    have le : s1.heap.objs.size ≤ c := by
      simp only [List.mem_cons, List.mem_nil_iff, or_false] at m
      omega
    exact I1.fpOk le (I1.hok.fresh le)
  rcases q1 with ⟨qa, qb, q⟩ | ⟨qa, qb, q⟩
  · obtain ⟨la, va, ta', _⟩ := I1.tuple qa
    obtain ⟨lb, vb, tb, _⟩ := I1.list qb
    obtain ⟨oa, hoa, _⟩ := id ta'
    refine zip_begins2 (begins_tuple a la.toArray) (begins_list b lb.toArray) ta' tb.isList fun h' z1 z2 z3 z4 z5 hsz hk => wpAny_pyIter_zip z1 ?_
    exact ⟨s1.heap.objs.size + 4, _, _, _, H1, rfl, I1.kept (t' := s1.toks) hk, turn_zipM (PySem.W.ktu_apart s1.heap.objs.size a b (Heap.lt_size hoa) tb.lt), ⟨z1, z2, ⟨_, _, z3⟩, ⟨_, z4, rfl, rfl⟩, ⟨_, z5, rfl, rfl⟩⟩, fr, q⟩
  · obtain ⟨la, va, ta', _⟩ := I1.tuple qa
    obtain ⟨lb, vb, tb, _⟩ := I1.tuple qb
    obtain ⟨oa, hoa, _⟩ := id ta'
    obtain ⟨ob, hob, _⟩ := id tb
    refine RZ.call_zipT (show s1.heap.IsTuple a la.toArray from ta') (show s1.heap.IsTuple b lb.toArray from tb) fun h' z1 z2 z3 z4 z5 hsz hk => wpAny_pyIter_zip z1 ?_
    exact ⟨s1.heap.objs.size + 4, _, _, _, H1, rfl, I1.kept (t' := s1.toks) hk, RZ.turn_zipT (PySem.W.ktu_apart s1.heap.objs.size a b (Heap.lt_size hoa) (Heap.lt_size hob)), ⟨z1, z2, ⟨_, _, z3⟩, z4, z5⟩, fr, q⟩
end HL

namespace HL
open PySem PySem.Spec PyProof.Rows L2
open PySem.W (EachIs)
/-! sorted of a list of objects that read as data (rows, lists of rows, pairs, texts), in any order; xs.remove(row) -/
theorem dq_ints {K : PySem.W.Frag} {H : Hp} : ∀ (r : List Int), DpAll K H (r.map V.int) (r.map .int)
  | [] => .nil
  | n :: r => .cons (.int n) (dq_ints r)
theorem dq_row {K : PySem.W.Frag} {H : Hp} {a : Addr} {r : List Int} (h : H a = some (.tup (r.map V.int))) : Dp K H (.ref a) (.tuple (r.map .int)) := .tup (SqT.of h) (dq_ints r)
theorem dq_each {K : PySem.W.Frag} {H : Hp} {β : Type} {f : β → V} {g : β → PyData} : ∀ {bs : List β}, (∀ b ∈ bs, Dp K H (f b) (g b)) → DpAll K H (bs.map f) (bs.map g)
  | [], _ => .nil
  | b :: bs, h => .cons (h b List.mem_cons_self) (dq_each fun c hc => h c (List.mem_cons_of_mem _ hc))
theorem vals_reads {X : Cx} {pins : List (Addr × Obj)} {σ : L2.St} {H : Hp} {s : Shared} (I : Inv X pins σ H s) {β : Type} {f : β → Addr} {g : β → PyData} : ∀ (bs : List β), (∀ b ∈ bs, Dp X.K H (.ref (f b)) (g b)) → EachIs (fun v b => ∃ as, Reads s.heap v (g b) as) (bs.map fun b => Value.ref (f b)) bs
  | [], _ => .nil
  | b :: bs, h => .cons (Dp.reads I _ _ _ (h b List.mem_cons_self) rfl) (vals_reads I bs fun c hc => h c (List.mem_cons_of_mem _ hc))
theorem each_refsF {β : Type} {f : β → Addr} : ∀ bs : List β, EachIs (fun (v : Value) (b : β) => v = .ref (f b)) (bs.map fun b => Value.ref (f b)) bs
  | [] => .nil
  | b :: bs => .cons rfl (each_refsF bs)
theorem refs_eachF {β : Type} {f : β → Addr} : ∀ {vs : List Value} {bs : List β}, EachIs (fun (v : Value) (b : β) => v = .ref (f b)) vs bs → vs = bs.map fun b => Value.ref (f b)
  | _, _, .nil => rfl
  | _, _, .cons h t => by rw [List.map_cons, h, refs_eachF t]
theorem vals_of_refsF {β : Type} {f : β → Addr} : ∀ bs : List β, Vals (bs.map fun b => V.ref (f b)) (bs.map fun b => Value.ref (f b))
  | [] => .nil
  | b :: bs => .cons rfl (vals_of_refsF bs)
def rSortedD (K : PySem.W.Frag) : List V → Hp → VK → Prop := fun vs H Q => ∃ (a : Addr) (as : List Addr) (dt : Addr → PyData), vs = [V.ref a] ∧ SqL K H a (as.map V.ref) ∧ (∀ b ∈ as, Dp K H (.ref b) (dt b)) ∧ PySem.W.AllAlike (as.map dt) ∧ PySem.W.Sortable (as.map dt) ∧ (∀ b ∈ as, (dt b).depth ≤ 4) ∧
  ∀ (cs : List Addr) (p : Addr), cs = as.mergeSort (PySem.W.dataLe false dt) → cs.Perm as → H p = none → Q (.ref p) (upd H p (.lst (cs.map V.ref)))
theorem cr_sortedD {X : Cx} {k : Nat} (hr : Room k X.A) : CallR X (.builtin "sorted") (rSortedD X.K) := by
  intro pins s σ H vs us Q I r h
  obtain ⟨a, as, dt, rfl, hs, hdt, hal, hso, hdp, q⟩ := h
  obtain ⟨its, rv, hl, hz⟩ := I.list hs
  obtain ⟨u, rfl, ru⟩ := vals1 r
  obtain rfl : u = Value.ref a := ru
  obtain ⟨e1, e2⟩ := refs_back rv fun x m => by
    obtain ⟨b, _, rfl⟩ := List.mem_map.mp m
    exact ⟨b, rfl⟩
  obtain rfl := vals_refs e2 e1
  have hun := hr.un
  refine PySem.W.sorted_data (R := fun (v : Value) (b : Addr) => v = .ref b) (bs := as) (enc := dt) hl.isList (each_refs as) (vals_reads I (f := id) as hdt) hal hso (by rw [List.length_map] at hz; exact hz) (fun b hb => ?_) fun out hlen eo => ?_
  · have := hdp b hb
    omega
  · have eout := refs_each eo
    subst eout
    have prm := List.mergeSort_perm as (PySem.W.dataLe false dt)
    obtain ⟨n, hn⟩ := sortedAll_at s.heap (as.map Value.ref) (List.toArray ((as.mergeSort (PySem.W.dataLe false dt)).map Value.ref))
    refine ⟨.ref _, upd H (s.heap.objs.size + 1) (.lst ((as.mergeSort (PySem.W.dataLe false dt)).map V.ref)), I.laid (t' := s.toks) (fun b o e => sortedAll_old e) (Nat.le_succ _) ⟨?_, _, n, vals_of_refs _, hn⟩, rfl, q _ _ rfl prm (I.hok.fresh (Nat.le_succ _))⟩
    rw [List.length_map, prm.length_eq]
    rw [List.length_map] at hz
    exact hz
/-! ### the order of data that are rows of whole numbers -/
theorem dataLt_row (xs ys : List Int) : PySem.W.dataLt (.tuple (xs.map .int)) (.tuple (ys.map .int)) = decide (xs < ys) := by
  rw [PySem.W.dataLt_tuple]
  exact PySem.W.dataLt_ints xs ys
theorem dq_eqvs : ∀ xs ys : List Int, PyData.eqvAll (xs.map .int) (ys.map .int) = decide (xs = ys)
  | [], [] => by simp [PyData.eqvAll]
  | [], _ :: _ => by simp [PyData.eqvAll]
  | _ :: _, [] => by simp [PyData.eqvAll]
  | x :: xs, y :: ys => by
    show PyData.eqvAll (.int x :: xs.map .int) (.int y :: ys.map .int) = _
    rw [PyData.eqvAll, dq_eqvs xs ys]
    by_cases h : x = y <;> by_cases g : xs = ys <;> simp [PyData.eqv, h, g]
theorem dq_eqv (xs ys : List Int) : PyData.eqv (.tuple (xs.map .int)) (.tuple (ys.map .int)) = decide (xs = ys) := by
  rw [PyData.eqv]
  exact dq_eqvs xs ys
theorem row_alike (xs ys : List Int) : PySem.W.alike (.tuple (xs.map .int)) (.tuple (ys.map .int)) = true := by
  rw [PySem.W.alike]
  exact PySem.W.alike_ints xs ys
theorem row_depth (xs : List Int) : (PyData.tuple (xs.map .int)).depth = 1 := by
  rw [PyData.depth, PySem.W.depth_ints]
/-- rows, the less or alike first -/
theorem dataLe_row {β : Type} (x : β → List Int) : PySem.W.dataLe false (fun b => .tuple ((x b).map .int)) = fun p q => decide (¬ x q < x p) := by
  funext p q
  show (!PySem.W.dataLt (.tuple ((x q).map .int)) (.tuple ((x p).map .int))) = _
  rw [dataLt_row]
  by_cases h : x q < x p <;> simp [h]
theorem lt_irr (x : List Int) : ¬ x < x := List.lt_irrefl x
theorem lt_tr {x y z : List Int} (h : x < y) (g : y < z) : x < z := List.lt_trans h g
theorem lt_tot (x y : List Int) : x < y ∨ x = y ∨ y < x := by
  by_cases h : x < y
  · exact .inl h
  · by_cases g : y < x
    · exact .inr (.inr g)
    · exact .inr (.inl (List.le_antisymm g h))
/-- lists of rows, none empty: by their first rows where these differ -/
theorem dataLt_heads {x y : List Int} (h : x ≠ y) (xs ys : List (List Int)) : PySem.W.dataLt (.list ((x :: xs).map fun r => .tuple (r.map .int))) (.list ((y :: ys).map fun r => .tuple (r.map .int))) = decide (x < y) := by
  rw [PySem.W.dataLt_list]
  show PyProof.Rows.lexLt itemOrd (PySem.W.keyToksAll (.tuple (x.map .int) :: xs.map fun r => .tuple (r.map .int))) (PySem.W.keyToksAll (.tuple (y.map .int) :: ys.map fun r => .tuple (r.map .int))) = _
  rw [PySem.W.dataLt_cons (row_alike x y), dq_eqv, decide_eq_false h, if_neg Bool.false_ne_true, dataLt_row]
/-! ### xs.remove(row) -/
def rRemD (K : PySem.W.Frag) : V → List V → Hp → VK → Prop := fun x xs H Q => ∃ (l b : Addr) (as : List Addr) (rw : Addr → List Int) (j : Nat), x = .ref l ∧ xs = [.ref b] ∧ H l = some (.lst (as.map V.ref)) ∧ (∀ a ∈ as, H a = some (.tup ((rw a).map V.int))) ∧ H b = some (.tup ((rw b).map V.int)) ∧
  (as.map rw).findIdx? (fun r => decide (r = rw b)) = some j ∧ Q .non (upd H l (.lst ((as.eraseIdx j).map V.ref)))
theorem dq_plains : ∀ r : List Int, PyData.plainAll (r.map .int) = true
  | [] => by simp [PyData.plainAll]
  | n :: r => by
    show PyData.plainAll (.int n :: r.map .int) = true
    rw [PyData.plainAll, dq_plains r]
    simp [PyData.plain]
theorem dq_plain (r : List Int) : PyData.plain (.tuple (r.map .int)) = true := by rw [PyData.plain]; exact dq_plains r
theorem dq_plainr {β : Type} (f : β → List Int) : ∀ as : List β, PyData.plainAll (as.map fun a => .tuple ((f a).map .int)) = true
  | [] => by simp [PyData.plainAll]
  | a :: as => by
    show PyData.plainAll (.tuple ((f a).map .int) :: as.map fun a => .tuple ((f a).map .int)) = true
    rw [PyData.plainAll, dq_plainr f as, dq_plain]
    rfl
theorem dq_erase {α β : Type} (f : α → β) : ∀ (l : List α) (j : Nat), (l.map f).eraseIdx j = (l.eraseIdx j).map f
  | [], _ => rfl
  | _ :: _, 0 => rfl
  | x :: l, j + 1 => by
    show f x :: (l.map f).eraseIdx j = f x :: (l.eraseIdx j).map f
    rw [dq_erase f l j]
theorem mt_removeD {X : Cx} {k : Nat} (hr : Room k X.A) : MtM X "list.remove" (rRemD X.K) := by
  intro pins s σ H x xs v us Q I rx rxs h
  obtain ⟨l, b, as, rw', j, rfl, rfl, hH, hat, hb, hj, q⟩ := h
  cases rx
  obtain ⟨u, rfl, ru⟩ := rxs.one
  obtain rfl : u = Value.ref b := ru
  obtain ⟨z, its, n, r, hl, e⟩ := I.lstM hH
  have hun := hr.un
  obtain ⟨bs, rs⟩ := Dp.readsAll I (as.map fun a => .tuple ((rw' a).map .int)) _ its (dq_each fun a ha => dq_row (hat a ha)) r
  obtain ⟨ds, rb⟩ := Dp.reads I (.tuple ((rw' b).map .int)) _ (.ref b) (dq_row hb) rfl
  have hp : PySem.SeqAt.dataPlace (as.map fun a => .tuple ((rw' a).map .int)) (.tuple ((rw' b).map .int)) = some j := by
    unfold PySem.SeqAt.dataPlace
    rw [List.findIdx?_map] at hj ⊢
    rw [← hj]
    congr 1
    funext a
    exact dq_eqv _ _
  have hd := row_depth (rw' b)
  refine PySem.SeqAt.remove_list_data (j := j) (vs := its.toArray) (xs := as.map fun a => .tuple ((rw' a).map .int)) ⟨_, e, rfl, n, rfl⟩ (by rw [List.toList_toArray]; exact rs) rb (dq_plainr rw' as) (dq_plain _) (by omega) hp (by rw [List.size_toArray, ← r.length]; exact z) ?_
  have rr := r.eraseIdx j
  have em : (as.map V.ref).eraseIdx j = (as.eraseIdx j).map V.ref := dq_erase _ _ _
  rw [em] at rr
  refine ⟨.non, _, I.lset (its' := its.eraseIdx j) (t' := s.toks) hH e ?_ rr ?_, rfl, q⟩
  · show its.toArray.eraseIdxIfInBounds j = (its.eraseIdx j).toArray
    rw [List.eraseIdxIfInBounds_toArray]
  · rw [List.length_map, List.length_eraseIdx]
    rw [List.length_map] at z
    split <;> omega
end HL

namespace HL
open PySem PySem.Spec PyProof.Rows L2
/-! list(d.values()), the keys of d tuples -/
def tListValsT (te : TE) : TE := fun σ H Q => te σ H fun x H1 => ∃ (d : Addr) (kvs : List (List Key × V)), x = .ref d ∧ H1 d = some (.dT kvs) ∧ ∀ p, H1 p = none → Q (.ref p) (upd H1 p (.lst (kvs.map (·.2))))
theorem kt_vals {H : Hp} {kvs : List (List Key × V)} {xs : List (List Key × Addr × Value)} (r : KT H kvs xs) : Vals (kvs.map (·.2)) (xs.map fun x => x.2.2) := by
  induction r with
  | nil => exact .nil
  | cons h t ih => exact .cons h.2.2 ih
section
variable {X : Cx} {e : Expr} {te : TE} {p apos cpos pos : Pos}
theorem pe_listValsT (hc : X.calm = true) (he : PE X e te) (hg : Gl X "list") (hm : X.mg "list" = none) (hv : bootBuiltins "list" = some (.type "list")) (hbase : attributeBase e "values" X.env (eval e X.env) = eval e X.env := by rfl) (hline : (apos.endLine == cpos.line) = true := by rfl)
    (hs : starEach [.Call (.Attribute e "values" apos) [] [] cpos] X.env = (false, eval (.Call (.Attribute e "values" apos) [] [] cpos) X.env) :: starEach [] X.env := by rfl) :
    PE X (.Call (.Name "list" p) [.Call (.Attribute e "values" apos) [] [] cpos] [] pos) (tListValsT te) := by
  refine ⟨fun pins s σ H Q I hq => ?_⟩
  refine wpAny_Call_Name_kw (ld_blt I hg hm hv ?_)
  refine PyProof.Rows.callWith_type1 ?_ hs rfl
  rw [hs]
  show wpAny _ _ (spliced ((false, eval (.Call (.Attribute e "values" apos) [] [] cpos) X.env) :: backTo pos (starEach [] X.env))) _ _ s
  refine Calls.spliced_cons ?_
  refine wpAny_Call_method (T := "dict") (id := "dict.values") hbase rfl hline F.plainAttrs_dict F.slot_dict_values F.type_dict_values (thn (he.run pins s σ H _ I hq) fun u s1 ⟨x, H1, I1, rx, d, kvs, ex, hd, q⟩ => ?_)
  subst ex
  obtain rfl : u = Value.ref d := rx
  obtain ⟨z, hs0, ks, pr, o, es, ep, ho, hx, hdt, hes, hn⟩ := (show ObjOk X.prog X.w H1 s1.heap d (.dT kvs) from I1.hok d _ hd)
  have l1 : es.size = ks.length := size_of_entries hes
  have l2 : kvs.length = ks.length := Paired.length pr
  have hraw : s1.heap.DictRaw d es ep := ⟨o, ho, hx, hdt⟩
  have hty : s1.TypeIs (.ref d) "dict" := ⟨o, ho, hx.1⟩
  have I2 : Inv X pins σ H1 { s1 with heap := s1.heap.push { cls := .type "dict_values", data := .fields #[.ref d] } } := I1.kept (t' := s1.toks) fun b ob q => Heap.get?_push_of_some _ q
  refine ⟨hty, (fun b q => by cases q; exact ⟨o, ho, hx.2.1⟩), ?_⟩
  show wpAny _ _ (callWith cpos (.builtin "dict.values") [.ref d] [] []) _ X.xe s1
  refine method_meetsIn F.slot_dict_values F.entry_dict_values rfl (PySem.evalArgs_none ⟨rfl, hty, F.args_dict_values_1 _, _, PySem.meets_dict_values_raw d hs0, ⟨es, ep, hraw⟩, ?_⟩)
  refine Calls.spliced_nil ?_
  refine PySem.W.kdl_call (PySem.KdlSrc.rawValues (r := s1.heap.objs.size) (d := d) (es := es) (ep := ep)) (I1.ok.hd hc) ⟨⟨_, Heap.get?_push_size _ rfl, rfl, rfl⟩, hraw.push _⟩ (by omega) fun h' tk acc' c' kp hS it => ?_
  have ea : acc'.toList = ks.map fun x => x.2.2 := by
    have hl : acc'.toList.length = ks.length := by rw [Array.length_toList, it.1]; exact l1
    apply List.ext_getElem?
    intro j
    rw [List.getElem?_map]
    cases hj : acc'.toList[j]? with
    | none =>
      have h1 := List.getElem?_eq_none_iff.mp hj
      rw [List.getElem?_eq_none (by omega)]
      all_goals rfl
    | some v =>
      obtain ⟨hi, hv⟩ := it.2 j v (by rw [← Array.getElem?_toList]; exact hj)
      have qe := entry_at hes j
      rw [Array.getElem?_eq_getElem hi] at qe
      cases hb : ks[j]? with
      | none =>
        rw [hb] at qe
        exact nomatch (show some es[j] = none from qe)
      | some b =>
        rw [hb] at qe
        have e2 : es[j] = entryOfKey (tupleKind (mixKind X.prog X.w)) b := Option.some.inj qe
        rw [hv, e2]
        all_goals rfl
  have hz : (kvs.map (·.2)).length ≤ sizeLine := by rw [List.length_map]; omega
  refine ⟨.ref _, _, I2.laid (t' := tk) (o := .lst (kvs.map (·.2))) kp (Nat.le_refl _) ?_, rfl, q _ (I2.hok.fresh (Nat.le_refl _))⟩
  exact ⟨hz, acc'.toList, c', by rw [ea]; exact kt_vals pr, by rw [Array.toArray_toList]; exact hS⟩
end
end HL

namespace HL
open PySem PySem.Spec PyProof.Rows L2
/-! x = {k: v for ..}, x local -/
section
variable {X : Cx}
theorem sw_trueD {kx vx : Expr} {gs : List Comprehension} {scope : Scope} {pos py : Pos} {y : Str} {l : Nat} {env : Env} (hk : env.scope.kind = .function) (hy : env.scope.names.lookup y = some .local) (hl : (py.line == pos.line) = true)
    (ha : (scope.names.any fun (n, k) => n == y && (k == .local || k == .cell)) = false) : swapsWith (.DictComp kx vx gs scope pos) (some (.Name y py)) l env = pure true := by
  have ky : env.kindOf y = some .local := hy
  have hb : env.blockKind = .function := by unfold Env.blockKind; rw [hk]; rfl
  unfold swapsWith
  simp only [hb, ky, ha, Expr.pos, hl]
  rfl
theorem ps_setDc {i : Nat} {y : Str} {py : Pos} {kx vx tg iter : Expr} {ifs : List Expr} {scope : Scope} {own : List (Str × Nat)} {pos spos : Pos} {wi : TI} {g : TG} {tt : TT} {tk tv : TE} (hc : X.calm = true) (hN : X.N.Nodup) (hy : X.N[i]? = some y) (hyl : X.env.scope.names.lookup y = some .local)
    (hsw : swapsWith (.DictComp kx vx [⟨tg, iter, ifs, 0⟩] scope pos) (some (.Name y py)) spos.line X.env = pure true) (hi : PI X tg iter wi) (ok : BlkOk X.N X.env.scope scope own)
    (hg : ∀ (s : Shared) (H : Hp) (C : Addr) (cl : List (Str × Addr)) (fp : List Addr), PG (X.blk s H scope (compEnvC scope cl C X.env) fp) tg g) (ht : ∀ (s : Shared) (H : Hp) (C : Addr) (cl : List (Str × Addr)) (fp : List Addr), PTs (X.blk s H scope (compEnvC scope cl C X.env) fp) ifs tt)
    (hk : ∀ (s : Shared) (H : Hp) (C : Addr) (cl : List (Str × Addr)) (fp : List Addr), PE (X.blk s H scope (compEnvC scope cl C X.env) fp) kx tk)
    (he : ∀ (s : Shared) (H : Hp) (C : Addr) (cl : List (Str × Addr)) (fp : List Addr), PE (X.blk s H scope (compEnvC scope cl C X.env) fp) vx tv) (hs : ∀ x, foldedSetIterable iter X.env x = pure x := by intro _; rfl) :
    PS X (.Assign [.Name y py] (.DictComp kx vx [⟨tg, iter, ifs, 0⟩] scope pos) spos) (tAsg (tDc wi g tt tk tv (own.map (·.2))) (gName i)) := by
  refine ⟨fun pins s σ H D I h => ?_⟩
  rw [exec_Assign_Name_used _ _ _ _ hsw]
  refine wpAny_bind (wpAny_standAt (wpAny_bind ?_))
  show wpAny _ X.A (do let _ ← comprehension (.DictComp kx vx [⟨tg, iter, ifs, 0⟩] scope pos) scope X.env (firstIterPos [⟨tg, iter, ifs, 0⟩] pos) newDict false (eval iter X.env) (some (assign (.Name y py) X.env))) _ _ s
  have h : tDc wi g tt tk tv (own.map (·.2)) σ H (fun x H1 => gName i x σ H1 D.nx) := h
  refine wpAny_bind (thn (dc_core (Qf := fun _ s' => SP X pins D .next s') hc hN I hi ok hg ht hk he hs h fun L C s' m H' I' q hn f => ?_) fun _ s' hq => wpAny_pure (wpAny_pure hq))
  show wpAny _ _ (assign (.Name y py) X.env (.ref L)) _ _ _
  refine wpAny_assign_Name (store_ok2 (v := V.ref L) I' hN hy (.inl hyl) rfl (fun s2 I2 ⟨a, sb, ha⟩ => ?_) (.inr hyl))
  obtain ⟨f0, f1, f2, f3, f4, f5⟩ := f
  have haC : C ≠ a := by
    rcases ha with z | z
    · rw [z]; exact f1
    · exact fun e => f4 y a z e.symm
  refine ⟨m, hn.sameBut sb haC, fun h3 sb3 => ?_⟩
  exact ⟨_, H', I2.turned (t' := s2.toks) (fun b o hb e => (sb3.2 b hb).trans e) f0 f1 f3 f4 f5, q⟩
end
/-- over a list that stays -/
theorem dc_list {K : PySem.W.Frag} {a : Addr} {xs : List V} {g : TG} {tt : TT} {tk tv : TE} {vs : List Nat} {σ : L2.St} {H1 : Hp} {D : Addr} {Qd : Hp → Prop} (Pv : Nat → Hp → Prop) (h0 : Pv 0 (upd H1 D (.dK []))) (hl : ∀ i H, i ≤ xs.length → Pv i H → SqL K H a xs)
    (hs : ∀ i x H, xs[i]? = some x → Pv i H → g x (wipe σ vs) H fun σ2 H2 => wipe σ2 vs = wipe σ vs ∧ tt σ2 H2 fun b H3 =>
      if b = true then tk σ2 H3 fun y H4 => tv σ2 H4 fun z H5 => ∃ kvs k, y = kV k ∧ H5 D = some (.dK kvs) ∧ kvs.length < sizeLine ∧ Pv (i + 1) (upd H5 D (.dK (putK kvs k z))) else Pv (i + 1) H3) (hd : ∀ H, Pv xs.length H → Qd H) :
    ∃ W : Nat → Nat → Hp → Prop, (∃ m, W 0 m (upd H1 D (.dK []))) ∧ ∀ i m H, W i m H →
      ((Itl K a).stop i H ∧ Qd H) ∨ ((Itl K a).go i H ∧ ∃ Nx : Hp → Prop, (∀ H', Nx H' → ∃ m', m' < m ∧ W (i + 1) m' H') ∧ ∀ x H', (Itl K a).yld i H x H' → g x (wipe σ vs) H' fun σ2 H2 => wipe σ2 vs = wipe σ vs ∧ tt σ2 H2 fun b H3 =>
        if b = true then tk σ2 H3 fun y H4 => tv σ2 H4 fun z H5 => ∃ kvs k, y = kV k ∧ H5 D = some (.dK kvs) ∧ kvs.length < sizeLine ∧ Nx (upd H5 D (.dK (putK kvs k z))) else Nx H3) := by
  refine ⟨fun i m H => m = xs.length - i ∧ i ≤ xs.length ∧ Pv i H, ⟨xs.length, by simp, Nat.zero_le _, h0⟩, ?_⟩
  rintro i m H ⟨rfl, hi, p⟩
  have q := hl i H hi p
  by_cases hlt : i < xs.length
  · refine .inr ⟨⟨xs, xs[i], q, by simp [hlt]⟩, Pv (i + 1), fun H' p' => ⟨xs.length - (i + 1), by omega, rfl, hlt, p'⟩, fun x H' y => ?_⟩
    obtain ⟨rfl, f⟩ := y
    have ex : xs[i]? = some x := f xs q
    exact hs i x H' ex p
  · exact .inl ⟨⟨xs, q, by omega⟩, by
      have : i = xs.length := by omega
      subst this
      exact hd H p⟩
end HL

namespace HL
/-! rows that whole numbers of rows come to; rows brought to stairs; rests -/
def dotI (xs ys : List Int) : Int := ((xs.zip ys).map fun q => q.1 * q.2).sum
theorem dotI_nil {ys : List Int} : dotI [] ys = 0 := by
  unfold dotI
  rfl
theorem dotI_nil2 {xs : List Int} : dotI xs [] = 0 := by
  unfold dotI
  rw [List.zip_nil_right]
  rfl
theorem dotI_cons {x y : Int} {xs ys : List Int} : dotI (x :: xs) (y :: ys) = x * y + dotI xs ys := by
  unfold dotI
  rw [List.zip_cons_cons, List.map_cons, List.sum_cons]
theorem dotI_comm : ∀ {xs ys : List Int}, dotI xs ys = dotI ys xs
  | [], ys => by rw [dotI_nil, dotI_nil2]
  | _ :: _, [] => by rw [dotI_nil, dotI_nil2]
  | x :: xs, y :: ys => by rw [dotI_cons, dotI_cons, dotI_comm, Int.mul_comm]
theorem dot_sub : ∀ {b h p : List Int} {k : Int}, b.length = h.length → dotI (subR b h k) p = dotI b p - k * dotI h p
  | [], [], p, k, _ => by
    show dotI [] p = dotI [] p - k * dotI [] p
    rw [dotI_nil]
    omega
  | _ :: _, _ :: _, [], k, _ => by rw [dotI_nil2, dotI_nil2, dotI_nil2]; omega
  | x :: b, y :: h, z :: p, k, e => by
    have e' : b.length = h.length := by simpa using e
    rw [subR_cons, dotI_cons, dotI_cons, dotI_cons, dot_sub e']
    grind
  | [], _ :: _, _, _, e => by simp at e
  | _ :: _, [], _, _, e => by simp at e
theorem dot_rep {n : Nat} : ∀ {p : List Int}, dotI (List.replicate n 0) p = 0 := by
  induction n with
  | zero => exact dotI_nil
  | succ n ih =>
    intro p
    cases p with
    | nil => exact dotI_nil2
    | cons z p =>
      rw [List.replicate_succ, dotI_cons, ih]
      omega
theorem subR_get : ∀ {b h : List Int} {k : Int} {g : Nat}, b.length = h.length → (subR b h k).getD g 0 = b.getD g 0 - k * h.getD g 0
  | [], [], k, g, _ => by
    show ([] : List Int).getD g 0 = ([] : List Int).getD g 0 - k * ([] : List Int).getD g 0
    simp
  | x :: b, y :: h, k, 0, _ => rfl
  | x :: b, y :: h, k, g + 1, e => by
    have e' : b.length = h.length := by simpa using e
    rw [subR_cons, List.getD_cons_succ, List.getD_cons_succ, List.getD_cons_succ, subR_get e']
  | [], _ :: _, _, _, e => by simp at e
  | _ :: _, [], _, _, e => by simp at e
theorem sub_sub : ∀ {v u r : List Int} {k j : Int}, v.length = u.length → u.length = r.length → subR v (subR u r j) k = subR (subR v u k) r (-(k * j))
  | [], [], [], _, _, _, _ => rfl
  | x :: v, y :: u, z :: r, k, j, e1, e2 => by
    have e1' : v.length = u.length := by simpa using e1
    have e2' : u.length = r.length := by simpa using e2
    rw [subR_cons, subR_cons, subR_cons, subR_cons, sub_sub e1' e2']
    congr 1
    grind
  | [], _ :: _, _, _, _, e, _ => by simp at e
  | _ :: _, [], _, _, _, e, _ => by simp at e
  | [], [], _ :: _, _, _, _, e => by simp at e
  | _ :: _, _ :: _, [], _, _, _, e => by simp at e
theorem sub_unit : ∀ r : List Int, subR (List.replicate r.length 0) r (-1) = r
  | [] => rfl
  | x :: r => by
    rw [List.length_cons, List.replicate_succ, subR_cons, sub_unit r]
    congr 1
    omega
/-- all rows of a length -/
def Len (n : Nat) (rows : List (List Int)) : Prop := ∀ r ∈ rows, r.length = n
/-- what whole numbers of rows come to -/
inductive Lat (n : Nat) (rows : List (List Int)) : List Int → Prop
  | nil : Lat n rows (List.replicate n 0)
  | more {v r : List Int} (k : Int) : Lat n rows v → r ∈ rows → Lat n rows (subR v r k)
section
variable {n : Nat} {rows rows' : List (List Int)} {v u : List Int}
theorem Lat.len (hr : Len n rows) (h : Lat n rows v) : v.length = n := by
  induction h with
  | nil => exact List.length_replicate
  | more k h m ih => rw [subR_len (by rw [ih, hr _ m]), ih]
theorem Lat.sub (hr : Len n rows) (hv : Lat n rows v) (hu : Lat n rows u) (k : Int) : Lat n rows (subR v u k) := by
  induction hu with
  | nil =>
    rw [subR_nought (hv.len hr)]
    exact hv
  | more j h m ih =>
    rw [sub_sub (by rw [hv.len hr, h.len hr]) (by rw [h.len hr, hr _ m])]
    exact .more _ ih m
theorem Lat.one (hr : Len n rows) {r : List Int} (m : r ∈ rows) : Lat n rows r := by
  have e := sub_unit r
  rw [hr r m] at e
  rw [← e]
  exact .more _ .nil m
theorem Lat.mono (hr : Len n rows') (h : ∀ r ∈ rows, Lat n rows' r) (hv : Lat n rows v) : Lat n rows' v := by
  induction hv with
  | nil => exact .nil
  | more k _ m ih => exact ih.sub hr (h _ m) k
theorem Lat.dvd {x : List Int} {d : Int} (hr : Len n rows) (h : ∀ r ∈ rows, d ∣ dotI r x) (hv : Lat n rows v) : d ∣ dotI v x := by
  induction hv with
  | nil => rw [dot_rep]; exact Int.dvd_zero d
  | more k hv m ih =>
    rw [dot_sub (by rw [hv.len hr, hr _ m])]
    exact Int.dvd_sub ih (Int.dvd_mul_of_dvd_right (h _ m))
theorem Lat.at0 {g : Nat} (hr : Len n rows) (h : ∀ r ∈ rows, r.getD g 0 = 0) (hv : Lat n rows v) : v.getD g 0 = 0 := by
  induction hv with
  | nil => rw [List.getD_eq_getElem?_getD, List.getElem?_replicate]; split <;> rfl
  | more k hv m ih =>
    rw [subR_get (by rw [hv.len hr, hr _ m]), ih, h _ m]
    omega
end
/-- two lots of rows that come to the same -/
def SameLat (n : Nat) (A B : List (List Int)) : Prop := (∀ r ∈ A, Lat n B r) ∧ ∀ r ∈ B, Lat n A r
theorem SameLat.refl {n : Nat} {A : List (List Int)} (h : Len n A) : SameLat n A A := ⟨fun r m => .one h m, fun r m => .one h m⟩
theorem SameLat.trans {n : Nat} {A B C : List (List Int)} (hA : Len n A) (hC : Len n C) (h1 : SameLat n A B) (h2 : SameLat n B C) : SameLat n A C :=
  ⟨fun r m => Lat.mono hC h2.1 (h1.1 r m), fun r m => Lat.mono hA h1.2 (h2.2 r m)⟩
theorem SameLat.of_mem {n : Nat} {A B : List (List Int)} (hA : Len n A) (hB : Len n B) (h : ∀ r, r ∈ A ↔ r ∈ B) : SameLat n A B := ⟨fun r m => .one hB ((h r).mp m), fun r m => .one hA ((h r).mpr m)⟩
theorem SameLat.lat {n : Nat} {A B : List (List Int)} (hA : Len n A) (hB : Len n B) (h : SameLat n A B) {v : List Int} : Lat n A v ↔ Lat n B v := ⟨Lat.mono hB h.1, Lat.mono hA h.2⟩
/-! ### one row less another -/
/-- what is left at b's side of a -/
theorem fdiv_pos {a b : Int} (hb : 0 < b) : 0 ≤ a - a.fdiv b * b ∧ a - a.fdiv b * b < b := by
  rw [Int.fdiv_eq_ediv_of_nonneg _ (by omega)]
  have h1 := Int.emod_nonneg a (show b ≠ 0 by omega)
  have h2 := Int.emod_lt_of_pos a hb
  have h3 := Int.emod_def a b
  rw [Int.mul_comm] at h3
  omega
theorem fdiv_flip {a b : Int} : a.fdiv b = (-a).fdiv (-b) := by
  rw [Int.neg_fdiv_neg]
theorem fdiv_neg {a b : Int} (hb : b < 0) : b < a - a.fdiv b * b ∧ a - a.fdiv b * b ≤ 0 := by
  have h := fdiv_pos (a := -a) (b := -b) (by omega)
  rw [← fdiv_flip, Int.mul_neg] at h
  omega
/-- with a sign s: what is left is from 0 to below b -/
theorem fdiv_s {s a b : Int} (hs : s = 1 ∨ s = -1) (hb : 0 < s * b) : 0 ≤ s * (a - a.fdiv b * b) ∧ s * (a - a.fdiv b * b) < s * b := by
  rcases hs with rfl | rfl
  · have := fdiv_pos (a := a) (b := b) (by omega)
    omega
  · have := fdiv_neg (a := a) (b := b) (by omega)
    omega
end HL

namespace HL
/-! ### rows brought to one at a place: one turn -/
abbrev pz (p : Nat) (r : List Int) : Int := r.getD p 0
def Ent (M : Int) (r : List Int) : Prop := ∀ x ∈ r, -M ≤ x ∧ x ≤ M
theorem Ent.mono {M M' : Int} {r : List Int} (h : Ent M r) (le : M ≤ M') : Ent M' r := fun x hx => by
  have := h x hx
  omega
theorem Ent.at {M : Int} {r : List Int} (h : Ent M r) (h0 : 0 ≤ M) (p : Nat) : -M ≤ pz p r ∧ pz p r ≤ M := by
  unfold pz
  rw [List.getD_eq_getElem?_getD]
  cases e : r[p]? with
  | none => exact ⟨by show -M ≤ 0; omega, h0⟩
  | some x => exact h x (List.mem_of_getElem? e)
theorem sub_ent : ∀ {r l : List Int} {q M B t : Int}, 0 ≤ t → -t ≤ q → q ≤ t → 0 ≤ B → Ent M r → Ent B l → Ent (M + t * B) (subR r l q)
  | [], _, q, M, B, t, _, _, _, _, _, _ => fun x hx => by cases hx
  | _ :: _, [], q, M, B, t, _, _, _, _, _, _ => fun x hx => by cases hx
  | x :: r, y :: l, q, M, B, t, t0, q1, q2, b0, h1, h2 => fun z hz => by
    rw [subR_cons] at hz
    rcases List.mem_cons.mp hz with e | e
    · have hx := h1 x List.mem_cons_self
      have hy := h2 y List.mem_cons_self
      have k1 : q * y ≤ t * B := by
        rcases Int.le_total 0 y with c | c
        · exact Int.le_trans (Int.mul_le_mul_of_nonneg_right q2 c) (Int.mul_le_mul_of_nonneg_left hy.2 t0)
        · have h3 : (-q) * (-y) ≤ t * (-y) := Int.mul_le_mul_of_nonneg_right (by omega) (by omega)
          have h4 : t * (-y) ≤ t * B := Int.mul_le_mul_of_nonneg_left (by omega) t0
          rw [Int.neg_mul_neg] at h3
          omega
      have k2 : -(t * B) ≤ q * y := by
        rcases Int.le_total 0 y with c | c
        · have h3 : (-q) * y ≤ t * y := Int.mul_le_mul_of_nonneg_right (by omega) c
          have h4 : t * y ≤ t * B := Int.mul_le_mul_of_nonneg_left hy.2 t0
          rw [Int.neg_mul] at h3
          omega
        · have h3 : q * (-y) ≤ t * (-y) := Int.mul_le_mul_of_nonneg_right q2 (by omega)
          have h4 : t * (-y) ≤ t * B := Int.mul_le_mul_of_nonneg_left (by omega) t0
          rw [Int.mul_neg] at h3
          omega
      rw [e]
      omega
    · exact sub_ent t0 q1 q2 b0 (fun w hw => h1 w (List.mem_cons_of_mem _ hw)) (fun w hw => h2 w (List.mem_cons_of_mem _ hw)) z e
/-- a row less the least one, as often as that goes into it at p -/
def red (p : Nat) (l r : List Int) : List Int := subR r l ((pz p r).fdiv (pz p l))
theorem red_len {n p : Nat} {l r : List Int} (hl : l.length = n) (hr : r.length = n) : (red p l r).length = n := by
  unfold red
  rw [subR_len (by rw [hl, hr]), hr]
theorem red_at {n p : Nat} {l r : List Int} (hl : l.length = n) (hr : r.length = n) : pz p (red p l r) = pz p r - (pz p r).fdiv (pz p l) * pz p l := by
  unfold red
  exact subR_get (by rw [hl, hr])
theorem absI_eq (z : Int) : absI z = z ∧ 0 ≤ z ∨ absI z = -z ∧ z < 0 := by
  unfold absI
  split
  · exact .inr ⟨rfl, by omega⟩
  · exact .inl ⟨rfl, by omega⟩
/-- the numbers at p, all of one sign s -/
theorem red_s {n p : Nat} {l r : List Int} {s : Int} (hl : l.length = n) (hr : r.length = n) (hs : s = 1 ∨ s = -1) (hb : 0 < s * pz p l) : 0 ≤ s * pz p (red p l r) ∧ s * pz p (red p l r) < s * pz p l := by
  rw [red_at hl hr]
  exact fdiv_s hs hb
/-- one of the same sign that is no less: how often, and what is left -/
theorem quot_s {s a b A : Int} (hs : s = 1 ∨ s = -1) (hb : 0 < s * b) (hab : s * b ≤ s * a) (hA : s * a ≤ A) : 0 ≤ a.fdiv b ∧ a.fdiv b ≤ A / (s * b) ∧ s * (a - a.fdiv b * b) ≤ A - s * b := by
  have h := fdiv_s (a := a) hs hb
  have e : s * (a - a.fdiv b * b) = s * a - a.fdiv b * (s * b) := by rw [Int.mul_sub, Int.mul_left_comm]
  rw [e] at h ⊢
  generalize a.fdiv b = q at h ⊢
  generalize s * b = c at *
  have q1 : 1 ≤ q := by
    rcases Int.lt_or_le q 1 with z | z
    · exfalso
      have : q * c ≤ 0 * c := Int.mul_le_mul_of_nonneg_right (by omega) (by omega)
      omega
    · exact z
  have q2 : 1 * c ≤ q * c := Int.mul_le_mul_of_nonneg_right q1 (by omega)
  refine ⟨by omega, Int.le_ediv_of_mul_le hb (by omega), by omega⟩
/-- one of any sign: how often -/
theorem quot_any {a b M : Int} (hb : b ≠ 0) (h1 : -M ≤ a) (h2 : a ≤ M) : -(M + 1) ≤ a.fdiv b ∧ a.fdiv b ≤ M + 1 := by
  have key : ∀ {a b : Int}, 0 < b → -M ≤ a → a ≤ M → -(M + 1) ≤ a.fdiv b ∧ a.fdiv b ≤ M + 1 := fun {a b} hb h1 h2 => by
    have h := fdiv_pos (a := a) hb
    generalize a.fdiv b = q at h
    constructor
    · rcases Int.lt_or_le q (-(M + 1)) with z | z
      · exfalso
        have : q * b ≤ (-(M + 1) - 1) * b := Int.mul_le_mul_of_nonneg_right (by omega) (by omega)
        have e : (-(M + 1) - 1) * b = -(M + 1) * b - b := by rw [Int.sub_mul, Int.one_mul]
        have e2 : (-(M + 1)) * b ≤ (-(M + 1)) * 1 := by
          have : (M + 1) * 1 ≤ (M + 1) * b := Int.mul_le_mul_of_nonneg_left (by omega) (by omega)
          rw [Int.neg_mul, Int.neg_mul]
          omega
        omega
      · exact z
    · rcases Int.lt_or_le (M + 1) q with z | z
      · exfalso
        have : (M + 1) * b ≤ q * b := Int.mul_le_mul_of_nonneg_right (by omega) (by omega)
        have : (M + 1) * 1 ≤ (M + 1) * b := Int.mul_le_mul_of_nonneg_left (by omega) (by omega)
        omega
      · exact z
  rcases Int.lt_or_gt_of_ne hb with c | c
  · rw [fdiv_flip]
    exact key (by omega) (by omega) (by omega)
  · exact key c h1 h2
/-! ### how great rows get -/
/-- the bound of what comes of rows to M -/
abbrev big (M : Int) : Int := 6 * (M * M * M * (M * M * M))
theorem pos_mul {a b : Int} (ha : 1 ≤ a) (hb : 1 ≤ b) : 1 ≤ a * b := by
  have : 1 * 1 ≤ a * b := Int.mul_le_mul ha hb (by decide) (by omega)
  omega
theorem le_mul_r {a b : Int} (ha : 0 ≤ a) (hb : 1 ≤ b) : a ≤ a * b := by
  have : a * 1 ≤ a * b := Int.mul_le_mul_of_nonneg_left hb ha
  omega
/-- where all are of one sign: the next turn's numbers -/
theorem next_pot {M A b c : Int} (hM : 1 ≤ M) (hb : 1 ≤ b) (hc : 1 ≤ c) (hbA : b ≤ A) (hcb : c ≤ b) (hcA : c ≤ A - b) :
    M * (1 + A / b) * (b * b) * (c * c) ≤ M * (A * A) * (b * b) := by
  have t0 : 0 ≤ A / b := Int.ediv_nonneg (by omega) (by omega)
  have t1 : b * (A / b) ≤ A := Int.mul_ediv_self_le (by omega)
  generalize A / b = t at t0 t1
  have k1 : (1 + t) * (c * c) ≤ (1 + t) * (b * c) := Int.mul_le_mul_of_nonneg_left (Int.mul_le_mul_of_nonneg_right hcb (by omega)) (by omega)
  have k2 : (1 + t) * (b * c) = (b + b * t) * c := by grind
  have k3 : (b + b * t) * c ≤ (A + A) * c := Int.mul_le_mul_of_nonneg_right (by omega) (by omega)
  have k4 : (A + A) * c = A * (c + c) := by grind
  have k5 : A * (c + c) ≤ A * A := Int.mul_le_mul_of_nonneg_left (by omega) (by omega)
  have k6 : (1 + t) * (c * c) ≤ A * A := by omega
  have k7 : M * (1 + t) * (b * b) * (c * c) = (M * (b * b)) * ((1 + t) * (c * c)) := by grind
  have k8 : M * (A * A) * (b * b) = (M * (b * b)) * (A * A) := by grind
  rw [k7, k8]
  have := pos_mul hM (pos_mul hb hb)
  exact Int.mul_le_mul_of_nonneg_left k6 (by omega)
theorem next_big {M A b E : Int} (hM : 1 ≤ M) (hb : 1 ≤ b) (hbA : b ≤ A) (h : M * (A * A) * (b * b) ≤ E) : M * (1 + A / b) ≤ 2 * E := by
  have t0 : 0 ≤ A / b := Int.ediv_nonneg (by omega) (by omega)
  have t1 : A / b ≤ A := Int.ediv_le_self b (by omega)
  have k1 : M * (1 + A / b) ≤ M * (A + A) := Int.mul_le_mul_of_nonneg_left (by omega) (by omega)
  have k2 : M * (A + A) = 2 * (M * A) := by grind
  have k3 : M * A ≤ M * A * A := le_mul_r (by have := pos_mul hM (show 1 ≤ A by omega); omega) (by omega)
  have k4 : M * (A * A) ≤ M * (A * A) * (b * b) := le_mul_r (by have := pos_mul hM (pos_mul (show 1 ≤ A by omega) (show 1 ≤ A by omega)); omega) (pos_mul hb hb)
  have k5 : M * A * A = M * (A * A) := Int.mul_assoc _ _ _
  omega
theorem first_pot {M b c : Int} (hM : 1 ≤ M) (hb : 1 ≤ b) (hc : 1 ≤ c) (hbM : b ≤ M) (hcM : c ≤ M) : 3 * (M * M) * (b * b) * (c * c) ≤ 3 * (M * M * M * (M * M * M)) := by
  have k1 : b * b ≤ M * M := Int.mul_le_mul hbM hbM (by omega) (by omega)
  have k2 : c * c ≤ M * M := Int.mul_le_mul hcM hcM (by omega) (by omega)
  have k3 : (b * b) * (c * c) ≤ (M * M) * (M * M) := Int.mul_le_mul k1 k2 (by have := pos_mul hc hc; omega) (by have := pos_mul hM hM; omega)
  have k4 : 3 * (M * M) * (b * b) * (c * c) = 3 * (M * M) * ((b * b) * (c * c)) := by grind
  have k5 : 3 * (M * M * M * (M * M * M)) = 3 * (M * M) * ((M * M) * (M * M)) := by grind
  rw [k4, k5]
  exact Int.mul_le_mul_of_nonneg_left k3 (by have := pos_mul hM hM; omega)
theorem first_big {M : Int} (hM : 1 ≤ M) : M + (M + 1) * M ≤ 3 * (M * M) ∧ 3 * (M * M) ≤ big M ∧ M ≤ big M := by
  have h1 := pos_mul hM hM
  have h2 : M ≤ M * M := le_mul_r (by omega) hM
  have h3 : M * M ≤ M * M * (M * M) := le_mul_r (by omega) h1
  have h4 : M * M * (M * M) ≤ M * M * (M * M) * (M * M) := le_mul_r (by omega) h1
  have e : M * M * (M * M) * (M * M) = M * M * M * (M * M * M) := by grind
  have e2 : (M + 1) * M = M * M + M := by grind
  show _ ∧ _ ≤ 6 * (M * M * M * (M * M * M)) ∧ _ ≤ 6 * (M * M * M * (M * M * M))
  omega
/-- rows on the way: nought at none of them; at first to M, later of one sign -/
structure Red (n p : Nat) (M0 : Int) (at_ : List (List Int)) : Prop where
  len : Len n at_
  nz : ∀ r ∈ at_, pz p r ≠ 0
  st : (∀ r ∈ at_, Ent M0 r) ∨ ∃ s M A : Int, (s = 1 ∨ s = -1) ∧ 1 ≤ M ∧ M ≤ big M0 ∧ (∀ r ∈ at_, Ent M r ∧ 0 < s * pz p r ∧ s * pz p r ≤ A) ∧ (2 ≤ at_.length → ∃ r ∈ at_, M * (A * A) * (s * pz p r * (s * pz p r)) ≤ 3 * (M0 * M0 * M0 * (M0 * M0 * M0)))
theorem Red.ent {n p : Nat} {M0 : Int} {at_ : List (List Int)} (h : Red n p M0 at_) (hM : 1 ≤ M0) : ∀ r ∈ at_, Ent (big M0) r := fun r hr => by
  rcases h.st with z | ⟨s, M, A, _, _, h2, h3, _⟩
  · exact (z r hr).mono (first_big hM).2.2
  · exact (h3 r hr).1.mono h2
def msr (p : Nat) (l : List (List Int)) : Nat := (l.map fun r => (pz p r).natAbs).sum
def isNz (p : Nat) (r : List Int) : Bool := decide (pz p r ≠ 0)
theorem step_red {n p : Nat} {M0 : Int} {at_ rest : List (List Int)} {l : List Int} (hM : 1 ≤ M0) (h : Red n p M0 at_) (h2 : 2 ≤ at_.length) (hp : (l :: rest).Perm at_) (hl : ∀ r ∈ rest, absI (pz p l) ≤ absI (pz p r)) :
    Red n p M0 (l :: (rest.map (red p l)).filter (isNz p)) ∧ ∀ r ∈ rest.map (red p l), r.length = n ∧ Ent (big M0) r := by
  have ml : l ∈ at_ := hp.mem_iff.mp List.mem_cons_self
  have mr : ∀ r ∈ rest, r ∈ at_ := fun r hr => hp.mem_iff.mp (List.mem_cons_of_mem _ hr)
  have ll := h.len l ml
  have lr : ∀ r ∈ rest, r.length = n := fun r hr => h.len r (mr r hr)
  have nl := h.nz l ml
  -- a sign, a bound, what is left
  have key : ∃ s M : Int, (s = 1 ∨ s = -1) ∧ 0 < s * pz p l ∧ 1 ≤ M ∧ M ≤ big M0 ∧ Ent M l ∧ (∀ r ∈ rest, Ent M (red p l r)) ∧
      ∀ r ∈ rest, pz p (red p l r) ≠ 0 → M * (s * pz p l * (s * pz p l)) * (s * pz p (red p l r) * (s * pz p (red p l r))) ≤ 3 * (M0 * M0 * M0 * (M0 * M0 * M0)) := by
    rcases h.st with z | ⟨s, M, A, hs, hM1, hMb, hr, hpot⟩
    · obtain ⟨f1, f2, f3⟩ := first_big hM
      have hla := (z l ml).at (by omega) p
      obtain ⟨s, hs, hsl⟩ : ∃ s : Int, (s = 1 ∨ s = -1) ∧ 0 < s * pz p l := by
        rcases Int.lt_or_gt_of_ne nl with c | c
        · exact ⟨-1, .inr rfl, by omega⟩
        · exact ⟨1, .inl rfl, by omega⟩
      refine ⟨s, 3 * (M0 * M0), hs, hsl, by have := pos_mul hM hM; omega, f2, (z l ml).mono ?_, fun r hr => ?_, fun r hr hn => ?_⟩
      · have : M0 ≤ M0 * M0 := le_mul_r (by omega) hM
        omega
      · have hra := (z r (mr r hr)).at (by omega) p
        obtain ⟨q1, q2⟩ := quot_any nl hra.1 hra.2
        exact (sub_ent (t := M0 + 1) (by omega) q1 q2 (by omega) (z r (mr r hr)) (z l ml)).mono f1
      · obtain ⟨r1, r2⟩ := red_s ll (lr r hr) hs hsl
        have r3 : s * pz p (red p l r) ≠ 0 := by
          rcases hs with rfl | rfl <;> omega
        have hlM : s * pz p l ≤ M0 := by
          rcases hs with rfl | rfl <;> omega
        exact first_pot hM (by omega) (by omega) hlM (by omega)
    · obtain ⟨el, sl, lA⟩ := hr l ml
      obtain ⟨r0, hr0, pot0⟩ := hpot h2
      have lmin : s * pz p l ≤ s * pz p r0 := by
        rcases List.mem_cons.mp (hp.mem_iff.mpr hr0) with e | e
        · rw [e]
          exact Int.le_refl _
        · have h3 := hl r0 e
          have h4 := (hr r0 hr0).2.1
          rcases absI_eq (pz p l) with ⟨a1, a2⟩ | ⟨a1, a2⟩ <;> rcases absI_eq (pz p r0) with ⟨a3, a4⟩ | ⟨a3, a4⟩ <;> rcases hs with rfl | rfl <;> omega
      have pot : M * (A * A) * (s * pz p l * (s * pz p l)) ≤ 3 * (M0 * M0 * M0 * (M0 * M0 * M0)) := by
        refine Int.le_trans (Int.mul_le_mul_of_nonneg_left (Int.mul_le_mul lmin lmin (by omega) (by omega)) ?_) pot0
        have := pos_mul hM1 (pos_mul (show 1 ≤ A by omega) (show 1 ≤ A by omega))
        omega
      have t0 : 0 ≤ A / (s * pz p l) := Int.ediv_nonneg (by omega) (by omega)
      refine ⟨s, M * (1 + A / (s * pz p l)), hs, sl, pos_mul hM1 (by omega), ?_, el.mono (le_mul_r (by omega) (by omega)), fun r hr' => ?_, fun r hr' hn => ?_⟩
      · have := next_big hM1 (show 1 ≤ s * pz p l by omega) lA pot
        show _ ≤ 6 * _
        omega
      · obtain ⟨er, sr, rA⟩ := hr r (mr r hr')
        have rmin : s * pz p l ≤ s * pz p r := by
          have h3 := hl r hr'
          rcases absI_eq (pz p l) with ⟨a1, a2⟩ | ⟨a1, a2⟩ <;> rcases absI_eq (pz p r) with ⟨a3, a4⟩ | ⟨a3, a4⟩ <;> rcases hs with rfl | rfl <;> omega
        obtain ⟨q1, q2, _⟩ := quot_s hs sl rmin rA
        refine (sub_ent (t := A / (s * pz p l)) t0 (by omega) q2 (by omega) er el).mono ?_
        rw [Int.mul_add, Int.mul_one, Int.mul_comm M]
        exact Int.le_refl _
      · obtain ⟨er, sr, rA⟩ := hr r (mr r hr')
        have rmin : s * pz p l ≤ s * pz p r := by
          have h3 := hl r hr'
          rcases absI_eq (pz p l) with ⟨a1, a2⟩ | ⟨a1, a2⟩ <;> rcases absI_eq (pz p r) with ⟨a3, a4⟩ | ⟨a3, a4⟩ <;> rcases hs with rfl | rfl <;> omega
        obtain ⟨_, _, q3⟩ := quot_s hs sl rmin rA
        rw [← red_at ll (lr r hr')] at q3
        obtain ⟨r1, r2⟩ := red_s ll (lr r hr') hs sl
        have r3 : s * pz p (red p l r) ≠ 0 := by
          rcases hs with rfl | rfl <;> omega
        exact Int.le_trans (next_pot hM1 (by omega) (by omega) lA (by omega) q3) pot
  obtain ⟨s, M, hs, hsl, hM1, hMb, el, er, pot⟩ := key
  refine ⟨⟨fun r hr => ?_, fun r hr => ?_, .inr ⟨s, M, s * pz p l, hs, hM1, hMb, fun r hr => ?_, fun h3 => ?_⟩⟩, fun r hr => ?_⟩
  · rcases List.mem_cons.mp hr with e | e
    · rw [e]; exact ll
    · obtain ⟨r', hr', rfl⟩ := List.mem_map.mp (List.mem_filter.mp e).1
      exact red_len ll (lr r' hr')
  · rcases List.mem_cons.mp hr with e | e
    · rw [e]; exact nl
    · exact of_decide_eq_true (List.mem_filter.mp e).2
  · rcases List.mem_cons.mp hr with e | e
    · rw [e]; exact ⟨el, hsl, Int.le_refl _⟩
    · obtain ⟨r', hr', rfl⟩ := List.mem_map.mp (List.mem_filter.mp e).1
      obtain ⟨r1, r2⟩ := red_s ll (lr r' hr') hs hsl
      have hn : pz p (red p l r') ≠ 0 := of_decide_eq_true (List.mem_filter.mp e).2
      refine ⟨er r' hr', ?_, by omega⟩
      rcases hs with rfl | rfl <;> omega
  · obtain ⟨x, hx⟩ : ∃ x, x ∈ (rest.map (red p l)).filter (isNz p) := by
      cases e : (rest.map (red p l)).filter (isNz p) with
      | nil => rw [e] at h3; simp at h3
      | cons x xs => exact ⟨x, List.mem_cons_self⟩
    refine ⟨x, List.mem_cons_of_mem _ hx, ?_⟩
    obtain ⟨r', hr', rfl⟩ := List.mem_map.mp (List.mem_filter.mp hx).1
    exact pot r' hr' (of_decide_eq_true (List.mem_filter.mp hx).2)
  · obtain ⟨r', hr', rfl⟩ := List.mem_map.mp hr
    exact ⟨red_len ll (lr r' hr'), (er r' hr').mono hMb⟩
end HL

namespace HL
/-! ### the turns end, and come to the same -/
theorem sum_lt {α : Type} {f g : α → Nat} : ∀ {l : List α}, l ≠ [] → (∀ x ∈ l, f x < g x) → (l.map f).sum < (l.map g).sum
  | [x], _, h => by
    have := h x List.mem_cons_self
    simpa using this
  | x :: y :: l, _, h => by
    have h1 := h x List.mem_cons_self
    have h2 := sum_lt (l := y :: l) (by simp) fun z hz => h z (List.mem_cons_of_mem _ hz)
    simp only [List.map_cons, List.sum_cons] at h2 ⊢
    omega
theorem sum_filter {α : Type} {f : α → Nat} {p : α → Bool} : ∀ {l : List α}, ((l.filter p).map f).sum ≤ (l.map f).sum
  | [] => Nat.le_refl _
  | x :: l => by
    have := sum_filter (f := f) (p := p) (l := l)
    by_cases c : p x = true
    · rw [List.filter_cons_of_pos c, List.map_cons, List.map_cons, List.sum_cons, List.sum_cons]
      omega
    · rw [List.filter_cons_of_neg c, List.map_cons, List.sum_cons]
      omega
theorem red_less {n p : Nat} {l r : List Int} (hl : l.length = n) (hr : r.length = n) (nl : pz p l ≠ 0) : (pz p (red p l r)).natAbs < (pz p l).natAbs := by
  rcases Int.lt_or_gt_of_ne nl with c | c
  · have := red_s (p := p) (s := -1) hl hr (.inr rfl) (by omega)
    omega
  · have := red_s (p := p) (s := 1) hl hr (.inl rfl) (by omega)
    omega
theorem step_msr {n p : Nat} {M0 : Int} {at_ rest : List (List Int)} {l : List Int} (h : Red n p M0 at_) (h2 : 2 ≤ at_.length) (hp : (l :: rest).Perm at_) (hl : ∀ r ∈ rest, absI (pz p l) ≤ absI (pz p r)) :
    msr p (l :: (rest.map (red p l)).filter (isNz p)) < msr p at_ := by
  have ml : l ∈ at_ := hp.mem_iff.mp List.mem_cons_self
  have mr : ∀ r ∈ rest, r ∈ at_ := fun r hr => hp.mem_iff.mp (List.mem_cons_of_mem _ hr)
  have e : msr p at_ = msr p (l :: rest) := by
    unfold msr
    exact (hp.map _).sum_nat.symm
  have hne : rest ≠ [] := fun z => by
    have := hp.length_eq
    rw [z] at this
    simp at this
    omega
  rw [e]
  unfold msr
  rw [List.map_cons, List.map_cons, List.sum_cons, List.sum_cons]
  have k1 := sum_filter (f := fun r => (pz p r).natAbs) (p := isNz p) (l := rest.map (red p l))
  rw [List.map_map] at k1
  have k2 := sum_lt (f := (fun r => (pz p r).natAbs) ∘ red p l) (g := fun r => (pz p r).natAbs) hne fun r hr => by
    have h1 := red_less (h.len l ml) (h.len r (mr r hr)) (h.nz l ml)
    have h3 := hl r hr
    show (pz p (red p l r)).natAbs < (pz p r).natAbs
    rcases absI_eq (pz p l) with ⟨a1, a2⟩ | ⟨a1, a2⟩ <;> rcases absI_eq (pz p r) with ⟨a3, a4⟩ | ⟨a3, a4⟩ <;> omega
  omega
theorem red_back {n p : Nat} {l r : List Int} (hl : l.length = n) (hr : r.length = n) : subR (red p l r) l (-((pz p r).fdiv (pz p l))) = r := by
  unfold red
  rw [subR_add, Int.add_right_neg, subR_zero (by rw [hl, hr])]
theorem step_lat {n p : Nat} {at_ rest oth : List (List Int)} {l : List Int} (hA : Len n at_) (hO : Len n oth) (hp : (l :: rest).Perm at_) :
    SameLat n (at_ ++ oth) ((l :: (rest.map (red p l)).filter (isNz p)) ++ (oth ++ (rest.map (red p l)).filter fun r => !isNz p r)) := by
  have ml : l ∈ at_ := hp.mem_iff.mp List.mem_cons_self
  have mr : ∀ r ∈ rest, r ∈ at_ := fun r hr => hp.mem_iff.mp (List.mem_cons_of_mem _ hr)
  have ll := hA l ml
  have hL1 : Len n (at_ ++ oth) := fun r hr => (List.mem_append.mp hr).elim (hA r) (hO r)
  have hred : ∀ r ∈ rest.map (red p l), r.length = n := fun r hr => by
    obtain ⟨r', hr', rfl⟩ := List.mem_map.mp hr
    exact red_len ll (hA r' (mr r' hr'))
  have hL2 : Len n ((l :: (rest.map (red p l)).filter (isNz p)) ++ (oth ++ (rest.map (red p l)).filter fun r => !isNz p r)) := fun r hr => by
    rcases List.mem_append.mp hr with z | z
    · rcases List.mem_cons.mp z with e | e
      · rw [e]; exact ll
      · exact hred r (List.mem_filter.mp e).1
    · rcases List.mem_append.mp z with e | e
      · exact hO r e
      · exact hred r (List.mem_filter.mp e).1
  have inB : ∀ r ∈ rest.map (red p l), r ∈ (l :: (rest.map (red p l)).filter (isNz p)) ++ (oth ++ (rest.map (red p l)).filter fun r => !isNz p r) := fun r hr => by
    cases c : isNz p r with
    | true => exact List.mem_append_left _ (List.mem_cons_of_mem _ (List.mem_filter.mpr ⟨hr, c⟩))
    | false => exact List.mem_append_right _ (List.mem_append_right _ (List.mem_filter.mpr ⟨hr, by simp [c]⟩))
  have lB : Lat n ((l :: (rest.map (red p l)).filter (isNz p)) ++ (oth ++ (rest.map (red p l)).filter fun r => !isNz p r)) l := .one hL2 (List.mem_append_left _ List.mem_cons_self)
  constructor
  · intro r hr
    rcases List.mem_append.mp hr with z | z
    · rcases List.mem_cons.mp (hp.mem_iff.mpr z) with e | e
      · rw [e]
        exact lB
      · have := (Lat.one hL2 (inB (red p l r) (List.mem_map.mpr ⟨r, e, rfl⟩))).sub hL2 lB (-((pz p r).fdiv (pz p l)))
        rw [red_back ll (hA r z)] at this
        exact this
    · exact .one hL2 (List.mem_append_right _ (List.mem_append_left _ z))
  · have lA : Lat n (at_ ++ oth) l := .one hL1 (List.mem_append_left _ ml)
    have redA : ∀ r ∈ rest.map (red p l), Lat n (at_ ++ oth) r := fun r hr => by
      obtain ⟨r', hr', rfl⟩ := List.mem_map.mp hr
      exact (Lat.one hL1 (List.mem_append_left _ (mr r' hr'))).sub hL1 lA _
    intro r hr
    rcases List.mem_append.mp hr with z | z
    · rcases List.mem_cons.mp z with e | e
      · rw [e]; exact lA
      · exact redA r (List.mem_filter.mp e).1
    · rcases List.mem_append.mp z with e | e
      · exact .one hL1 (List.mem_append_right _ e)
      · exact redA r (List.mem_filter.mp e).1
/-! ### with_one_at: the loop -/
structure WInv (n p : Nat) (M : Int) (rows at_ oth : List (List Int)) : Prop where
  rd : Red n p M at_
  len : Len n oth
  zero : ∀ r ∈ oth, pz p r = 0
  same : SameLat n rows (at_ ++ oth)
  count : at_.length + oth.length = rows.length
  ent : (∀ r ∈ at_ ++ oth, Ent M r) ∨ (2 ≤ rows.length ∧ 1 ≤ at_.length ∧ ∀ r ∈ at_ ++ oth, Ent (big M) r)
theorem WInv.lenA {n p : Nat} {M : Int} {rows at_ oth : List (List Int)} (h : WInv n p M rows at_ oth) : Len n (at_ ++ oth) := fun r hr => (List.mem_append.mp hr).elim (h.rd.len r) (h.len r)
theorem filter_count {α : Type} {p : α → Bool} : ∀ {l : List α}, (l.filter p).length + (l.filter fun x => !p x).length = l.length
  | [] => rfl
  | x :: l => by
    have := filter_count (p := p) (l := l)
    cases c : p x with
    | true =>
      rw [List.filter_cons_of_pos c, List.filter_cons_of_neg (by simp [c]), List.length_cons, List.length_cons]
      omega
    | false =>
      rw [List.filter_cons_of_neg (by simp [c]), List.filter_cons_of_pos (by simp [c]), List.length_cons, List.length_cons]
      omega
theorem WInv.start {n p : Nat} {M : Int} {rows : List (List Int)} (hL : Len n rows) (hE : ∀ r ∈ rows, Ent M r) : WInv n p M rows (rows.filter (isNz p)) (rows.filter fun r => !isNz p r) := by
  have mA : ∀ r ∈ rows.filter (isNz p), r ∈ rows := fun r hr => (List.mem_filter.mp hr).1
  have mO : ∀ r ∈ rows.filter (fun r => !isNz p r), r ∈ rows := fun r hr => (List.mem_filter.mp hr).1
  have hLA : Len n (rows.filter (isNz p) ++ rows.filter fun r => !isNz p r) := fun r hr => (List.mem_append.mp hr).elim (fun z => hL r (mA r z)) (fun z => hL r (mO r z))
  refine ⟨⟨fun r hr => hL r (mA r hr), fun r hr => of_decide_eq_true (List.mem_filter.mp hr).2, .inl fun r hr => hE r (mA r hr)⟩, fun r hr => hL r (mO r hr), fun r hr => ?_, SameLat.of_mem hL hLA fun r => ⟨fun hr => ?_, fun hr => (List.mem_append.mp hr).elim (mA r) (mO r)⟩, filter_count,
    .inl fun r hr => (List.mem_append.mp hr).elim (fun z => hE r (mA r z)) (fun z => hE r (mO r z))⟩
  · have := (List.mem_filter.mp hr).2
    by_cases c : pz p r = 0
    · exact c
    · unfold isNz at this
      rw [decide_eq_true c] at this
      cases this
  · cases c : isNz p r with
    | true => exact List.mem_append_left _ (List.mem_filter.mpr ⟨hr, c⟩)
    | false => exact List.mem_append_right _ (List.mem_filter.mpr ⟨hr, by simp [c]⟩)
theorem WInv.step {n p : Nat} {M : Int} {rows at_ oth rest : List (List Int)} {l : List Int} (hM : 1 ≤ M) (hR : Len n rows) (h : WInv n p M rows at_ oth) (h2 : 2 ≤ at_.length) (hp : (l :: rest).Perm at_) (hl : ∀ r ∈ rest, absI (pz p l) ≤ absI (pz p r)) :
    WInv n p M rows (l :: (rest.map (red p l)).filter (isNz p)) (oth ++ (rest.map (red p l)).filter fun r => !isNz p r) := by
  obtain ⟨s1, s2⟩ := step_red hM h.rd h2 hp hl
  have hLO : Len n (oth ++ (rest.map (red p l)).filter fun r => !isNz p r) := fun r hr => (List.mem_append.mp hr).elim (h.len r) (fun z => (s2 r (List.mem_filter.mp z).1).1)
  have hLB : Len n ((l :: (rest.map (red p l)).filter (isNz p)) ++ (oth ++ (rest.map (red p l)).filter fun r => !isNz p r)) := fun r hr => (List.mem_append.mp hr).elim (s1.len r) (hLO r)
  have eO : ∀ r ∈ oth, Ent (big M) r := fun r hr => by
    rcases h.ent with z | ⟨_, _, z⟩
    · exact (z r (List.mem_append_right _ hr)).mono (first_big hM).2.2
    · exact z r (List.mem_append_right _ hr)
  refine ⟨s1, hLO, fun r hr => ?_, h.same.trans hR hLB (step_lat h.rd.len h.len hp), ?_, .inr ⟨by have := h.count; omega, by rw [List.length_cons]; omega, fun r hr => ?_⟩⟩
  · rcases List.mem_append.mp hr with z | z
    · exact h.zero r z
    · have := (List.mem_filter.mp z).2
      by_cases c : pz p r = 0
      · exact c
      · unfold isNz at this
        rw [decide_eq_true c] at this
        cases this
  · have e1 := filter_count (p := isNz p) (l := rest.map (red p l))
    have e2 := hp.length_eq
    have e3 := h.count
    rw [List.length_map] at e1
    rw [List.length_cons] at e2 ⊢
    rw [List.length_append]
    omega
  · rcases List.mem_append.mp hr with z | z
    · exact s1.ent hM r z
    · rcases List.mem_append.mp z with e | e
      · exact eO r e
      · exact (s2 r (List.mem_filter.mp e).1).2
/-- what with_one_at tells -/
structure OneAt (n p : Nat) (M : Int) (rows at_ oth : List (List Int)) : Prop where
  one : at_.length ≤ 1
  lenA : Len n at_
  lenO : Len n oth
  nz : ∀ r ∈ at_, pz p r ≠ 0
  zero : ∀ r ∈ oth, pz p r = 0
  same : SameLat n rows (at_ ++ oth)
  count : at_.length + oth.length = rows.length
  ent : (∀ r ∈ at_ ++ oth, Ent M r) ∨ (2 ≤ rows.length ∧ at_.length = 1 ∧ ∀ r ∈ at_ ++ oth, Ent (big M) r)
theorem WInv.done {n p : Nat} {M : Int} {rows at_ oth : List (List Int)} (h : WInv n p M rows at_ oth) (h1 : at_.length ≤ 1) : OneAt n p M rows at_ oth :=
  ⟨h1, h.rd.len, h.len, h.rd.nz, h.zero, h.same, h.count, h.ent.imp id fun ⟨c, a, b⟩ => ⟨c, by omega, b⟩⟩
/-! ### stairs -/
structure Ech (n : Nat) (st : List (Nat × List Int)) : Prop where
  rise : st.Pairwise fun a b => a.1 < b.1
  ok : ∀ q ∈ st, q.1 < n ∧ q.2.length = n ∧ pz q.1 q.2 ≠ 0 ∧ ∀ j, j < q.1 → pz j q.2 = 0
theorem Ech.tail {n : Nat} {q : Nat × List Int} {st : List (Nat × List Int)} (h : Ech n (q :: st)) : Ech n st := ⟨(List.pairwise_cons.mp h.rise).2, fun x hx => h.ok x (List.mem_cons_of_mem _ hx)⟩
/-- the product of the numbers at which stairs begin -/
def whole (st : List (Nat × List Int)) : Int := st.foldl (fun w q => w * absI (pz q.1 q.2)) 1
theorem foldl_mul : ∀ {l : List (Nat × List Int)} {a : Int}, l.foldl (fun w q => w * absI (pz q.1 q.2)) a = a * whole l
  | [], a => by show a = a * 1; omega
  | q :: l, a => by
    unfold whole
    rw [List.foldl_cons, List.foldl_cons, foldl_mul, foldl_mul (a := 1 * _)]
    grind
theorem whole_cons {q : Nat × List Int} {st : List (Nat × List Int)} : whole (q :: st) = absI (pz q.1 q.2) * whole st := by
  show List.foldl _ (1 * absI (pz q.1 q.2)) st = _
  rw [foldl_mul, Int.one_mul]
theorem whole_pos {n : Nat} : ∀ {st : List (Nat × List Int)}, Ech n st → 1 ≤ whole st
  | [], _ => Int.le_refl _
  | q :: st, h => by
    rw [whole_cons]
    refine pos_mul ?_ (whole_pos h.tail)
    have := (h.ok q List.mem_cons_self).2.2.1
    rcases absI_eq (pz q.1 q.2) with ⟨a, b⟩ | ⟨a, b⟩ <;> omega
/-- a row that comes to the sums with each stair, begun otherwise as told -/
def comeTo : List (Nat × List Int) → List Int → List Int → List Int
  | [], _, x => x
  | q :: st, ss, x => (comeTo st ss.tail x).set q.1 ((ss.headD 0 - dotI q.2 (comeTo st ss.tail x)).fdiv (pz q.1 q.2))
theorem come_len : ∀ {st : List (Nat × List Int)} {ss x : List Int}, (comeTo st ss x).length = x.length
  | [], _, _ => rfl
  | q :: st, ss, x => by
    show ((comeTo st ss.tail x).set _ _).length = _
    rw [List.length_set, come_len]
theorem get_set {l : List Int} {p j : Nat} {v : Int} (hp : p < l.length) : (l.set p v).getD j 0 = if j = p then v else l.getD j 0 := by
  rw [List.getD_eq_getElem?_getD, List.getElem?_set]
  by_cases c : p = j
  · rw [if_pos c, if_pos hp, if_pos c.symm]
    rfl
  · rw [if_neg c, if_neg (fun z => c z.symm), List.getD_eq_getElem?_getD]
/-- the sum with one number put in -/
theorem dot_set : ∀ {h y : List Int} {p : Nat} {v : Int}, h.length = y.length → p < y.length → dotI h (y.set p v) = dotI h y + pz p h * (v - pz p y)
  | a :: h, b :: y, 0, v, e, _ => by
    rw [List.set_cons_zero, dotI_cons, dotI_cons]
    show a * v + _ = a * b + _ + a * (v - b)
    grind
  | a :: h, b :: y, p + 1, v, e, hp => by
    have e' : h.length = y.length := by simpa using e
    rw [List.set_cons_succ, dotI_cons, dotI_cons, dot_set e' (by simpa using hp)]
    show a * b + (dotI h y + h.getD p 0 * (v - y.getD p 0)) = a * b + dotI h y + h.getD p 0 * (v - y.getD p 0)
    omega
  | [], [], _, _, _, hp => by simp at hp
  | [], _ :: _, _, _, e, _ => by simp at e
  | _ :: _, [], _, _, e, _ => by simp at e
/-- what stands at another place than where a stair begins stays -/
theorem come_keep : ∀ {st : List (Nat × List Int)} {ss x : List Int} {j : Nat}, (∀ q ∈ st, q.1 < x.length) → (∀ q ∈ st, q.1 ≠ j) → (comeTo st ss x).getD j 0 = x.getD j 0
  | [], _, _, _, _, _ => rfl
  | q :: st, ss, x, j, hl, h => by
    show ((comeTo st ss.tail x).set _ _).getD j 0 = _
    rw [get_set (by rw [come_len]; exact hl q List.mem_cons_self), if_neg (fun z => h q List.mem_cons_self z.symm)]
    exact come_keep (fun x hx => hl x (List.mem_cons_of_mem _ hx)) fun x hx => h x (List.mem_cons_of_mem _ hx)
theorem dvd_at {d : Int} {x : List Int} (h : ∀ n ∈ x, d ∣ n) (j : Nat) : d ∣ x.getD j 0 := by
  rw [List.getD_eq_getElem?_getD]
  cases e : x[j]? with
  | none => exact Int.dvd_zero d
  | some n => exact h n (List.mem_of_getElem? e)
theorem dvd_dot {d : Int} : ∀ {h x : List Int}, (∀ n ∈ x, d ∣ n) → d ∣ dotI h x
  | [], _, _ => by rw [dotI_nil]; exact Int.dvd_zero d
  | _ :: _, [], _ => by rw [dotI_nil2]; exact Int.dvd_zero d
  | a :: h, b :: x, hx => by
    rw [dotI_cons]
    exact Int.dvd_add (Int.dvd_mul_of_dvd_right (hx b List.mem_cons_self)) (dvd_dot fun n hn => hx n (List.mem_cons_of_mem _ hn))
theorem absI_dvd {a b : Int} (h : absI a ∣ b) : a ∣ b := by
  rcases absI_eq a with ⟨e, _⟩ | ⟨e, _⟩
  · rw [← e]; exact h
  · rw [e] at h
    exact Int.neg_dvd.mp h
theorem fdiv_exact {a b : Int} (h : b ∣ a) : b * a.fdiv b = a := by
  rw [Int.fdiv_eq_ediv_of_dvd h]
  exact Int.mul_ediv_cancel' h
/-- all divisions go: the row comes to the sums -/
theorem come_ok {n : Nat} : ∀ {st : List (Nat × List Int)} {ss x : List Int} {d : Int}, Ech n st → ss.length = st.length → x.length = n → (∀ q ∈ st, x.getD q.1 0 = 0) → (∀ s ∈ ss, whole st * d ∣ s) → (∀ s ∈ x, whole st * d ∣ s) →
    (∀ s ∈ comeTo st ss x, d ∣ s) ∧ ∀ (i : Nat) (q : Nat × List Int) (s : Int), st[i]? = some q → ss[i]? = some s → dotI q.2 (comeTo st ss x) = s
  | [], ss, x, d, _, _, _, _, _, hx => ⟨fun s hs => by
      have := hx s hs
      have e : whole [] * d = d := by show 1 * d = d; omega
      rw [e] at this
      exact this, fun i q s h _ => by simp at h⟩
  | q :: st, [], x, d, _, hl, _, _, _, _ => by simp at hl
  | q :: st, s0 :: ss, x, d, h, hl, hx, h0, hs, hxd => by
    obtain ⟨k1, k2, k3, k4⟩ := h.ok q List.mem_cons_self
    have ew : whole (q :: st) * d = whole st * (absI (pz q.1 q.2) * d) := by rw [whole_cons]; grind
    rw [ew] at hs hxd
    obtain ⟨i1, i2⟩ := come_ok (st := st) (ss := ss) (x := x) (d := absI (pz q.1 q.2) * d) h.tail (by simpa using hl) hx (fun q' hq => h0 q' (List.mem_cons_of_mem _ hq)) (fun s m => hs s (List.mem_cons_of_mem _ m)) hxd
    have np : ∀ q' ∈ st, q.1 < q'.1 := fun q' hq => (List.pairwise_cons.mp h.rise).1 q' hq
    have hpl : ∀ q' ∈ st, q'.1 < x.length := fun q' hq => by rw [hx]; exact (h.tail.ok q' hq).1
    have yp : (comeTo st ss x).getD q.1 0 = 0 := by
      rw [come_keep hpl fun q' hq => by have := np q' hq; omega]
      exact h0 q List.mem_cons_self
    have hyl : (comeTo st ss x).length = n := by rw [come_len, hx]
    have hd : absI (pz q.1 q.2) * d ∣ s0 - dotI q.2 (comeTo st ss x) := Int.dvd_sub (Int.dvd_trans (Int.dvd_mul_left _ _) (hs s0 List.mem_cons_self)) (dvd_dot i1)
    have hd2 : pz q.1 q.2 ∣ s0 - dotI q.2 (comeTo st ss x) := absI_dvd (Int.dvd_trans (Int.dvd_mul_right _ _) hd)
    have ex := fdiv_exact hd2
    have edef : comeTo (q :: st) (s0 :: ss) x = (comeTo st ss x).set q.1 ((s0 - dotI q.2 (comeTo st ss x)).fdiv (pz q.1 q.2)) := rfl
    rw [edef]
    generalize (s0 - dotI q.2 (comeTo st ss x)).fdiv (pz q.1 q.2) = v at ex
    refine ⟨fun s m => ?_, fun i q' s h1 h2 => ?_⟩
    · rcases List.mem_or_eq_of_mem_set m with z | z
      · exact Int.dvd_trans (Int.dvd_mul_left _ _) (i1 s z)
      · rw [z]
        rw [← ex] at hd
        have hd' : absI (pz q.1 q.2) * d ∣ absI (pz q.1 q.2) * v := by
          rcases absI_eq (pz q.1 q.2) with ⟨e, _⟩ | ⟨e, _⟩
          · rw [e] at hd ⊢; exact hd
          · rw [e] at hd ⊢
            rw [Int.neg_mul (pz q.1 q.2) v]
            exact Int.dvd_neg.mpr hd
        have hne : absI (pz q.1 q.2) ≠ 0 := by
          rcases absI_eq (pz q.1 q.2) with ⟨e, _⟩ | ⟨e, _⟩ <;> omega
        exact Int.dvd_of_mul_dvd_mul_left hne hd'
    · match i, h1, h2 with
      | 0, h1, h2 =>
        cases Option.some.inj h1
        cases Option.some.inj h2
        rw [dot_set (by rw [k2, hyl]) (by rw [hyl]; exact k1)]
        show _ + pz q.1 q.2 * (v - (comeTo st ss x).getD q.1 0) = _
        rw [yp, Int.sub_zero, ex]
        omega
      | i + 1, h1, h2 =>
        have h1' : st[i]? = some q' := by simpa using h1
        have h2' : ss[i]? = some s := by simpa using h2
        have m := List.mem_of_getElem? h1'
        obtain ⟨l1, l2, l3, l4⟩ := h.tail.ok q' m
        rw [dot_set (by rw [l2, hyl]) (by rw [hyl]; exact k1), l4 q.1 (np q' m), i2 i q' s h1' h2']
        omega
/-- nothing beyond k, where nothing was begun there and the sums of the stairs beyond are noughts -/
theorem come_zero {n k : Nat} : ∀ {st : List (Nat × List Int)} {ss x : List Int}, Ech n st → ss.length = st.length → x.length = n → (∀ j, k < j → x.getD j 0 = 0) → (∀ (i : Nat) (q : Nat × List Int) (s : Int), st[i]? = some q → ss[i]? = some s → k < q.1 → s = 0) → ∀ j, k < j → (comeTo st ss x).getD j 0 = 0
  | [], _, _, _, _, _, hx, _, j, hj => hx j hj
  | q :: st, [], _, _, hl, _, _, _, _, _ => by simp at hl
  | q :: st, s0 :: ss, x, h, hl, hx, h0, hs, j, hj => by
    have ih := come_zero (k := k) (st := st) (ss := ss) (x := x) h.tail (by simpa using hl) hx h0 (fun i q' s h1 h2 => hs (i + 1) q' s (by simpa using h1) (by simpa using h2))
    obtain ⟨k1, k2, k3, k4⟩ := h.ok q List.mem_cons_self
    have hyl : (comeTo st ss x).length = n := by rw [come_len, hx]
    show ((comeTo st ss x).set q.1 ((s0 - dotI q.2 (comeTo st ss x)).fdiv (pz q.1 q.2))).getD j 0 = 0
    rw [get_set (by rw [hyl]; exact k1)]
    by_cases c : j = q.1
    · rw [if_pos c]
      have e0 : s0 = 0 := hs 0 q s0 rfl rfl (by omega)
      have ed : dotI q.2 (comeTo st ss x) = 0 := by
        have : ∀ (h y : List Int), (∀ i, pz i h = 0 ∨ y.getD i 0 = 0) → dotI h y = 0 := by
          intro h
          induction h with
          | nil => intro y _; exact dotI_nil
          | cons a h ih =>
            intro y hy
            cases y with
            | nil => exact dotI_nil2
            | cons b y =>
              rw [dotI_cons, ih y fun i => hy (i + 1)]
              rcases hy 0 with z | z
              · have z : a = 0 := z
                rw [z]; omega
              · have z : b = 0 := z
                rw [z]; omega
        refine this _ _ fun i => ?_
        by_cases ci : i < q.1
        · exact .inl (k4 i ci)
        · exact .inr (ih i (by omega))
      rw [e0, ed]
      show (0 : Int).fdiv _ = 0
      exact Int.zero_fdiv _
    · rw [if_neg c]
      exact ih j hj
end HL

namespace HL
/-! ### papers -/
theorem dot_meet : ∀ {v x : List Int} {j : Nat}, v.length = x.length → (∀ i, i < j → v.getD i 0 = 0) → (∀ i, j < i → x.getD i 0 = 0) → dotI v x = v.getD j 0 * x.getD j 0
  | [], [], j, _, _, _ => by rw [dotI_nil]; simp
  | a :: v, b :: x, 0, e, h1, h2 => by
    have e' : v.length = x.length := by simpa using e
    have : dotI v x = 0 := by
      have : ∀ (v x : List Int), (∀ i, x.getD i 0 = 0) → dotI v x = 0 := by
        intro v
        induction v with
        | nil => intro x _; exact dotI_nil
        | cons a v ih =>
          intro x hx
          cases x with
          | nil => exact dotI_nil2
          | cons b x =>
            have z : b = 0 := hx 0
            rw [dotI_cons, ih x fun i => hx (i + 1), z]
            omega
      exact this v x fun i => h2 (i + 1) (by omega)
    rw [dotI_cons, this]
    show a * b + 0 = a * b
    omega
  | a :: v, b :: x, j + 1, e, h1, h2 => by
    have e' : v.length = x.length := by simpa using e
    have z : a = 0 := h1 0 (by omega)
    rw [dotI_cons, dot_meet (j := j) e' (fun i hi => h1 (i + 1) (by omega)) (fun i hi => h2 (i + 1) (by omega)), z]
    show 0 * b + v.getD j 0 * x.getD j 0 = v.getD j 0 * x.getD j 0
    omega
  | [], _ :: _, _, e, _, _ => by simp at e
  | _ :: _, [], _, e, _, _ => by simp at e
theorem all_zero : ∀ {v : List Int}, (∀ i, v.getD i 0 = 0) → v = List.replicate v.length 0
  | [], _ => rfl
  | a :: v, h => by
    have z : a = 0 := h 0
    have := all_zero (v := v) fun i => h (i + 1)
    rw [List.length_cons, List.replicate_succ, ← this, z]
/-- what a part's row is -/
structure PartRow (n : Nat) (st : List (Nat × List Int)) (i : Nat) (q : Nat × List Int) (x : List Int) : Prop where
  len : x.length = n
  dot : ∀ (t : Nat) (q' : Nat × List Int), st[t]? = some q' → dotI q'.2 x = if t = i then whole st else 0
  far : ∀ j, q.1 < j → x.getD j 0 = 0
/-- what a row beside is -/
structure BesideRow (n : Nat) (st : List (Nat × List Int)) (g : Nat) (y : List Int) : Prop where
  len : y.length = n
  dot : ∀ q ∈ st, dotI q.2 y = 0
  at_ : y.getD g 0 = whole st
  far : ∀ j, g < j → y.getD j 0 = 0
theorem lat_all {n : Nat} {st : List (Nat × List Int)} (h : Ech n st) (xs ys : Nat → List Int) (hx : ∀ i q, st[i]? = some q → PartRow n st i q (xs i)) (hy : ∀ g, g < n → (∀ q ∈ st, q.1 ≠ g) → BesideRow n st g (ys g)) :
    ∀ (m j : Nat) (v : List Int), n - j = m → v.length = n → (∀ i, i < j → v.getD i 0 = 0) → (∀ i q, st[i]? = some q → whole st ∣ dotI v (xs i)) → (∀ g, g < n → (∀ q ∈ st, q.1 ≠ g) → dotI v (ys g) = 0) → Lat n (st.map (·.2)) v
  | 0, j, v, e, hl, hz, _, _ => by
    have : v = List.replicate n 0 := by
      have := all_zero (v := v) fun i => by
        by_cases c : i < j
        · exact hz i c
        · rw [List.getD_eq_getElem?_getD, List.getElem?_eq_none (by omega)]
          rfl
      rw [hl] at this
      exact this
    rw [this]
    exact .nil
  | m + 1, j, v, e, hl, hz, h1, h2 => by
    have hjn : j < n := by omega
    have hw := whole_pos h
    by_cases c : ∃ (i : Nat) (q : Nat × List Int), st[i]? = some q ∧ q.1 = j
    · obtain ⟨i, q, hq, rfl⟩ := c
      obtain ⟨k1, k2, k3, k4⟩ := h.ok q (List.mem_of_getElem? hq)
      obtain ⟨p1, p2, p3⟩ := hx i q hq
      have d1 := dot_meet (v := v) (x := xs i) (j := q.1) (by rw [hl, p1]) hz p3
      have d2 := dot_meet (v := q.2) (x := xs i) (j := q.1) (by rw [k2, p1]) k4 p3
      have d3 := p2 i q hq
      rw [if_pos rfl] at d3
      have hd := h1 i q hq
      have ew : whole st = pz q.1 q.2 * (xs i).getD q.1 0 := d3.symm.trans d2
      have hxn : (xs i).getD q.1 0 ≠ 0 := fun z => by
        rw [z, Int.mul_zero] at ew
        omega
      have hdv : pz q.1 q.2 ∣ v.getD q.1 0 := by
        rw [d1, ew] at hd
        exact Int.dvd_of_mul_dvd_mul_right hxn hd
      obtain ⟨k, hk⟩ := hdv
      have lq : v.length = q.2.length := by rw [hl, k2]
      have mq : q.2 ∈ st.map (·.2) := List.mem_map.mpr ⟨q, List.mem_of_getElem? hq, rfl⟩
      have ih := lat_all h xs ys hx hy m (q.1 + 1) (subR v q.2 k) (by omega) (by rw [subR_len lq, hl]) (fun i' hi' => ?_) (fun t q' ht => ?_) (fun g hg hn => ?_)
      · have e2 : subR (subR v q.2 k) q.2 (-k) = v := by rw [subR_add, Int.add_right_neg, subR_zero lq]
        rw [← e2]
        exact .more _ ih mq
      · rw [subR_get lq]
        by_cases ci : i' = q.1
        · rw [ci, hk]
          show pz q.1 q.2 * k - k * pz q.1 q.2 = 0
          rw [Int.mul_comm]
          omega
        · have h3 := hz i' (by omega)
          have h4 := k4 i' (by omega)
          have h4 : q.2.getD i' 0 = 0 := h4
          rw [h3, h4]
          omega
      · rw [dot_sub lq]
        refine Int.dvd_sub (h1 t q' ht) (Int.dvd_mul_of_dvd_right ?_)
        rw [(hx t q' ht).dot i q hq]
        split
        · exact Int.dvd_refl _
        · exact Int.dvd_zero _
      · rw [dot_sub lq, h2 g hg hn, (hy g hg hn).dot q (List.mem_of_getElem? hq)]
        omega
    · have hn : ∀ q ∈ st, q.1 ≠ j := fun q hq z => by
        obtain ⟨i, hi⟩ := List.mem_iff_getElem?.mp hq
        exact c ⟨i, q, hi, z⟩
      obtain ⟨p1, p2, p3, p4⟩ := hy j hjn hn
      have d1 := dot_meet (v := v) (x := ys j) (j := j) (by rw [hl, p1]) hz p4
      have d2 := h2 j hjn hn
      rw [d1, p3] at d2
      have vj : v.getD j 0 = 0 := by
        rcases Int.mul_eq_zero.mp d2 with z | z
        · exact z
        · omega
      refine lat_all h xs ys hx hy m (j + 1) v (by omega) hl (fun i hi => ?_) h1 h2
      by_cases ci : i = j
      · rw [ci]; exact vj
      · exact hz i (by omega)
theorem lat_bill {n : Nat} {st : List (Nat × List Int)} {b : List Int} (h : Ech n st) (hb : b.length = n) (xs ys : Nat → List Int) (hx : ∀ i q, st[i]? = some q → PartRow n st i q (xs i)) (hy : ∀ g, g < n → (∀ q ∈ st, q.1 ≠ g) → BesideRow n st g (ys g))
    (h1 : ∀ i q, st[i]? = some q → whole st ∣ dotI b (xs i)) (h2 : ∀ g, g < n → (∀ q ∈ st, q.1 ≠ g) → dotI b (ys g) = 0) : Lat n (st.map (·.2)) b :=
  lat_all h xs ys hx hy n 0 b (by omega) hb (fun i hi => by omega) h1 h2
theorem part_ok {n i : Nat} {st : List (Nat × List Int)} {q : Nat × List Int} {ss x : List Int} (h : Ech n st) (hq : st[i]? = some q) (hl : ss.length = st.length) (hs : ∀ (t : Nat) (s : Int), ss[t]? = some s → s = if t = i then whole st else 0) (hx : x = List.replicate n 0) : PartRow n st i q (comeTo st ss x) := by
  have hxl : x.length = n := by rw [hx, List.length_replicate]
  have hx0 : ∀ j, x.getD j 0 = 0 := fun j => by
    rw [hx, List.getD_eq_getElem?_getD, List.getElem?_replicate]
    split <;> rfl
  have ok := come_ok (d := 1) h hl hxl (fun q' _ => hx0 _) (fun s m => by
    obtain ⟨t, ht⟩ := List.mem_iff_getElem?.mp m
    rw [hs t s ht, Int.mul_one]
    split
    · exact Int.dvd_refl _
    · exact Int.dvd_zero _) (fun s m => by
    rw [hx] at m
    rw [List.eq_of_mem_replicate m]
    exact Int.dvd_zero _)
  refine ⟨by rw [come_len, hxl], fun t q' ht => ?_, come_zero h hl hxl (fun j _ => hx0 j) fun t q' s h1 h2 h3 => ?_⟩
  · have hlt : t < ss.length := by
      rw [hl]
      exact (List.getElem?_eq_some_iff.mp ht).1
    have e := List.getElem?_eq_getElem hlt
    rw [ok.2 t q' _ ht e]
    exact hs t _ e
  · rw [hs t s h2, if_neg]
    intro z
    rw [z, hq] at h1
    cases h1
    omega
theorem beside_ok {n g : Nat} {st : List (Nat × List Int)} {ss x : List Int} (h : Ech n st) (hg : g < n) (hn : ∀ q ∈ st, q.1 ≠ g) (hl : ss.length = st.length) (hs : ∀ s ∈ ss, s = 0) (hx : x.length = n) (hx1 : ∀ (j : Nat) (s : Int), x[j]? = some s → s = if j = g then whole st else 0) : BesideRow n st g (comeTo st ss x) := by
  have hx0 : ∀ j, j ≠ g → x.getD j 0 = 0 := fun j hj => by
    rw [List.getD_eq_getElem?_getD]
    cases e : x[j]? with
    | none => rfl
    | some s =>
      have := hx1 j s e
      rw [if_neg hj] at this
      rw [this]
      rfl
  have ok := come_ok (d := 1) h hl hx (fun q' hq => hx0 _ (hn q' hq)) (fun s m => by rw [hs s m]; exact Int.dvd_zero _) (fun s m => by
    obtain ⟨j, hj⟩ := List.mem_iff_getElem?.mp m
    rw [hx1 j s hj, Int.mul_one]
    split
    · exact Int.dvd_refl _
    · exact Int.dvd_zero _)
  refine ⟨by rw [come_len, hx], fun q hq => ?_, ?_, come_zero h hl hx (fun j hj => hx0 j (by omega)) fun t q' s _ h2 _ => hs s (List.mem_of_getElem? h2)⟩
  · obtain ⟨t, ht⟩ := List.mem_iff_getElem?.mp hq
    have hlt : t < ss.length := by
      rw [hl]
      exact (List.getElem?_eq_some_iff.mp ht).1
    have e := List.getElem?_eq_getElem hlt
    rw [ok.2 t q _ ht e]
    exact hs _ (List.mem_of_getElem? e)
  · rw [come_keep (fun q hq => by rw [hx]; exact (h.ok q hq).1) hn, List.getD_eq_getElem?_getD, List.getElem?_eq_getElem (by omega)]
    exact (hx1 g _ (List.getElem?_eq_getElem (by omega))).trans (if_pos rfl)
/-! ### how great the rows are -/
theorem fdiv_le {a b : Int} {S : Int} (hb : b ≠ 0) (h1 : -S ≤ a) (h2 : a ≤ S) : -(S + 1) ≤ a.fdiv b ∧ a.fdiv b ≤ S + 1 := quot_any hb h1 h2
theorem dot_ent {M Y : Int} (m0 : 0 ≤ M) (y0 : 0 ≤ Y) : ∀ {h y : List Int}, Ent M h → Ent Y y → -((h.length : Nat) * (M * Y)) ≤ dotI h y ∧ dotI h y ≤ (h.length : Nat) * (M * Y)
  | [], y, _, _ => by rw [dotI_nil]; simp
  | a :: h, [], _, _ => by
    rw [dotI_nil2]
    have := Int.mul_nonneg (show (0 : Int) ≤ ((a :: h).length : Nat) by omega) (Int.mul_nonneg m0 y0)
    omega
  | a :: h, b :: y, h1, h2 => by
    have ih := dot_ent m0 y0 (h := h) (y := y) (fun x hx => h1 x (List.mem_cons_of_mem _ hx)) (fun x hx => h2 x (List.mem_cons_of_mem _ hx))
    have ha := h1 a List.mem_cons_self
    have hb := h2 b List.mem_cons_self
    have e : ((a :: h).length : Int) * (M * Y) = (h.length : Nat) * (M * Y) + M * Y := by
      rw [List.length_cons, Int.natCast_add, Int.add_mul]
      omega
    have k := sub_ent (r := [0]) (l := [b]) (q := a) (M := 0) (B := Y) (t := M) m0 ha.1 ha.2 y0 (fun x hx => by rw [List.mem_singleton.mp hx]; decide) (fun x hx => by rw [List.mem_singleton.mp hx]; exact hb) (0 - a * b) (by show _ ∈ [(0 : Int) - a * b]; exact List.mem_cons_self)
    rw [dotI_cons]
    generalize ((a :: h).length : Int) * (M * Y) = z at *
    omega
theorem come_ent {n : Nat} {M W : Int} (m0 : 0 ≤ M) (w1 : 1 ≤ W) : ∀ {st : List (Nat × List Int)} {ss x : List Int}, Ech n st → (∀ q ∈ st, Ent M q.2) → ss.length = st.length → Ent W ss → Ent W x → Ent (W * (3 + (n : Nat) * M) ^ st.length) (comeTo st ss x)
  | [], ss, x, _, _, _, _, hx => fun y hy => by
    have := hx y hy
    show -(W * (3 + (n : Nat) * M) ^ 0) ≤ y ∧ y ≤ W * (3 + (n : Nat) * M) ^ 0
    rw [Int.pow_zero, Int.mul_one]
    exact this
  | q :: st, [], x, _, _, hl, _, _ => by simp at hl
  | q :: st, s0 :: ss, x, h, hM, hl, hs, hx => by
    have ih := come_ent m0 w1 (st := st) (ss := ss) (x := x) h.tail (fun q' hq => hM q' (List.mem_cons_of_mem _ hq)) (by simpa using hl) (fun y hy => hs y (List.mem_cons_of_mem _ hy)) hx
    obtain ⟨k1, k2, k3, k4⟩ := h.ok q List.mem_cons_self
    have nm : 0 ≤ (n : Int) * M := Int.mul_nonneg (by omega) m0
    have tp : ∀ k : Nat, 1 ≤ (3 + (n : Int) * M) ^ k := fun k => by
      induction k with
      | zero => rw [Int.pow_zero]; decide
      | succ k ih => rw [Int.pow_succ]; exact pos_mul ih (by omega)
    have t1 := tp st.length
    have e : W * (3 + (n : Int) * M) ^ (q :: st).length = W * (3 + (n : Int) * M) ^ st.length * 3 + (n : Nat) * (M * (W * (3 + (n : Int) * M) ^ st.length)) := by
      rw [List.length_cons, Int.pow_succ]
      grind
    rw [e]
    generalize (3 + (n : Int) * M) ^ st.length = T at *
    have wt : W ≤ W * T := le_mul_r (by omega) t1
    have y0 : 0 ≤ W * T := by omega
    have hd := dot_ent m0 y0 (hM q List.mem_cons_self) ih
    rw [k2] at hd
    have hs0 := hs s0 List.mem_cons_self
    have hf := fdiv_le (a := s0 - dotI q.2 (comeTo st ss x)) (b := pz q.1 q.2) (S := W + (n : Nat) * (M * (W * T))) k3 (by omega) (by omega)
    have z0 : 0 ≤ (n : Int) * (M * (W * T)) := Int.mul_nonneg (by omega) (Int.mul_nonneg m0 y0)
    intro y hy
    rcases List.mem_or_eq_of_mem_set (show y ∈ (comeTo st ss x).set q.1 ((s0 - dotI q.2 (comeTo st ss x)).fdiv (pz q.1 q.2)) from hy) with z | z
    · have := ih y z
      omega
    · rw [z]
      omega
theorem whole_ent {M : Int} (m1 : 1 ≤ M) : ∀ {st : List (Nat × List Int)}, (∀ q ∈ st, Ent M q.2) → 0 ≤ whole st ∧ whole st ≤ M ^ st.length
  | [], _ => ⟨by decide, by show whole [] ≤ M ^ 0; rw [Int.pow_zero]; decide⟩
  | q :: st, h => by
    obtain ⟨i1, i2⟩ := whole_ent m1 (st := st) fun q' hq => h q' (List.mem_cons_of_mem _ hq)
    have hq := (h q List.mem_cons_self).at (by omega) q.1
    have a0 : 0 ≤ absI (pz q.1 q.2) ∧ absI (pz q.1 q.2) ≤ M := by
      rcases absI_eq (pz q.1 q.2) with ⟨a, b⟩ | ⟨a, b⟩ <;> omega
    rw [whole_cons, List.length_cons, Int.pow_succ, Int.mul_comm (M ^ _)]
    exact ⟨Int.mul_nonneg a0.1 i1, Int.mul_le_mul a0.2 i2 i1 (by omega)⟩
/-! ### stairs of a lot -/
def bnd : Nat → Int
  | 0 => 8
  | c + 1 => big (bnd c)
theorem bnd_pos : ∀ c, 1 ≤ bnd c
  | 0 => by decide
  | c + 1 => Int.le_trans (bnd_pos c) (first_big (bnd_pos c)).2.2
theorem bnd_mono : ∀ {c d : Nat}, c ≤ d → bnd c ≤ bnd d
  | c, 0, h => by
    have : c = 0 := by omega
    rw [this]
    exact Int.le_refl _
  | c, d + 1, h => by
    by_cases e : c = d + 1
    · rw [e]
      exact Int.le_refl _
    · exact Int.le_trans (bnd_mono (show c ≤ d by omega)) (first_big (bnd_pos d)).2.2
structure SInv (n g : Nat) (lot : List (List Int)) (st : List (Nat × List Int)) (rows : List (List Int)) : Prop where
  ech : Ech n st
  piv : ∀ q ∈ st, q.1 < g
  len : Len n rows
  zero : ∀ r ∈ rows, ∀ j, j < g → pz j r = 0
  same : SameLat n lot (st.map (·.2) ++ rows)
  few : st.length + rows.length = lot.length
  ent : ∃ c, (c = 0 ∨ c + 1 ≤ lot.length) ∧ c + rows.length ≤ lot.length ∧ ∀ r ∈ st.map (·.2) ++ rows, Ent (bnd c) r
theorem lenS {n : Nat} {st : List (Nat × List Int)} (h : Ech n st) : Len n (st.map (·.2)) := fun r hr => by
  obtain ⟨q, hq, rfl⟩ := List.mem_map.mp hr
  exact (h.ok q hq).2.1
theorem SInv.start {n : Nat} {lot : List (List Int)} (hL : Len n lot) (hE : ∀ r ∈ lot, Ent 8 r) : SInv n 0 lot [] lot :=
  ⟨⟨.nil, fun q hq => by cases hq⟩, fun q hq => (by cases hq), hL, fun r _ j hj => (by omega), by simpa using SameLat.refl hL, by simp, 0, .inl rfl, by omega, fun r hr => hE r (by simpa using hr)⟩
theorem SInv.step {n g c : Nat} {lot rows at_ oth : List (List Int)} {st : List (Nat × List Int)} (hL : Len n lot) (hg : g < n) (h : SInv n g lot st rows) (hc0 : c = 0 ∨ c + 1 ≤ lot.length) (hc : c + rows.length ≤ lot.length) (hE : ∀ r ∈ st.map (·.2) ++ rows, Ent (bnd c) r) (O : OneAt n g (bnd c) rows at_ oth) : SInv n (g + 1) lot (st ++ at_.map fun r => (g, r)) oth := by
  have zA : ∀ r ∈ at_ ++ oth, ∀ j, j < g → pz j r = 0 := fun r hr j hj => (O.same.2 r hr).at0 h.len fun r' hr' => h.zero r' hr' j hj
  have ech : Ech n (st ++ at_.map fun r => (g, r)) := by
    refine ⟨?_, fun q hq => ?_⟩
    · refine List.pairwise_append.mpr ⟨h.ech.rise, ?_, fun a ha b hb => ?_⟩
      · have := O.one
        match at_, this with
        | [], _ => exact .nil
        | [x], _ => exact List.pairwise_singleton _ _
      · obtain ⟨r, _, rfl⟩ := List.mem_map.mp hb
        exact h.piv a ha
    · rcases List.mem_append.mp hq with z | z
      · exact h.ech.ok q z
      · obtain ⟨r, hr, rfl⟩ := List.mem_map.mp z
        exact ⟨hg, O.lenA r hr, O.nz r hr, fun j hj => zA r (List.mem_append_left _ hr) j hj⟩
  have em : (st ++ at_.map fun r => (g, r)).map (·.2) = st.map (·.2) ++ at_ := by
    rw [List.map_append, List.map_map]
    congr 1
    exact List.map_id'' (fun _ => rfl) _
  have hLS : Len n (st.map (·.2) ++ at_ ++ oth) := fun r hr => by
    rcases List.mem_append.mp hr with z | z
    · rcases List.mem_append.mp z with z | z
      · exact lenS h.ech r z
      · exact O.lenA r z
    · exact O.lenO r z
  have hLR : Len n (st.map (·.2) ++ rows) := fun r hr => (List.mem_append.mp hr).elim (lenS h.ech r) (h.len r)
  refine ⟨ech, fun q hq => ?_, O.lenO, fun r hr j hj => ?_, ?_, ?_, ?_⟩
  · rcases List.mem_append.mp hq with z | z
    · have := h.piv q z
      omega
    · obtain ⟨r, _, rfl⟩ := List.mem_map.mp z
      exact Nat.lt_succ_self g
  · by_cases e : j = g
    · rw [e]
      exact O.zero r hr
    · exact zA r (List.mem_append_right _ hr) j (by omega)
  · rw [em]
    refine h.same.trans hL hLS ⟨fun r hr => ?_, fun r hr => ?_⟩
    · rcases List.mem_append.mp hr with z | z
      · exact .one hLS (List.mem_append_left _ (List.mem_append_left _ z))
      · refine Lat.mono hLS (fun r' hr' => .one hLS ?_) (O.same.1 r z)
        rcases List.mem_append.mp hr' with z | z
        · exact List.mem_append_left _ (List.mem_append_right _ z)
        · exact List.mem_append_right _ z
    · have key : ∀ r ∈ at_ ++ oth, Lat n (st.map (·.2) ++ rows) r := fun r hr => Lat.mono hLR (fun r' hr' => .one hLR (List.mem_append_right _ hr')) (O.same.2 r hr)
      rcases List.mem_append.mp hr with z | z
      · rcases List.mem_append.mp z with z | z
        · exact .one hLR (List.mem_append_left _ z)
        · exact key r (List.mem_append_left _ z)
      · exact key r (List.mem_append_right _ z)
  · have := h.few
    have := O.count
    rw [List.length_append, List.length_map]
    omega
  · rw [em]
    rcases O.ent with z | ⟨z1, z2, z3⟩
    · refine ⟨c, hc0, by have := O.count; omega, fun r hr => ?_⟩
      rcases List.mem_append.mp hr with y | y
      · rcases List.mem_append.mp y with y | y
        · exact hE r (List.mem_append_left _ y)
        · exact z r (List.mem_append_left _ y)
      · exact z r (List.mem_append_right _ y)
    · refine ⟨c + 1, .inr (by omega), by have := O.count; omega, fun r hr => ?_⟩
      rcases List.mem_append.mp hr with y | y
      · rcases List.mem_append.mp y with y | y
        · exact (hE r (List.mem_append_left _ y)).mono (bnd_mono (Nat.le_succ c))
        · exact z3 r (List.mem_append_left _ y)
      · exact z3 r (List.mem_append_right _ y)
theorem bnd_bits : bnd 4 ≤ (2 : Int) ^ 4700 := by decide +kernel
theorem SInv.done {n : Nat} {lot rows : List (List Int)} {st : List (Nat × List Int)} (h : SInv n n lot st rows) (hL : Len n lot) (h5 : lot.length ≤ 5) : SameLat n lot (st.map (·.2)) ∧ (∀ q ∈ st, Ent (bnd 4) q.2) ∧ st.length ≤ 5 := by
  have z0 : ∀ r ∈ rows, r = List.replicate n 0 := fun r hr => by
    have := all_zero (v := r) fun i => by
      by_cases c : i < n
      · exact h.zero r hr i c
      · rw [List.getD_eq_getElem?_getD, List.getElem?_eq_none (by rw [h.len r hr]; omega)]
        rfl
    rw [h.len r hr] at this
    exact this
  refine ⟨h.same.trans hL (lenS h.ech) ⟨fun r hr => ?_, fun r hr => ?_⟩, fun q hq => ?_, by have := h.few; omega⟩
  · rcases List.mem_append.mp hr with z | z
    · exact .one (lenS h.ech) z
    · rw [z0 r z]
      exact .nil
  · exact .one (fun r hr => (List.mem_append.mp hr).elim (lenS h.ech r) (h.len r)) (List.mem_append_left _ hr)
  · obtain ⟨c, hc0, _, hE⟩ := h.ent
    exact (hE q.2 (List.mem_append_left _ (List.mem_map.mpr ⟨q, hq, rfl⟩))).mono (bnd_mono (by omega))
end HL

namespace HL
namespace BL
/-! loads, steps that better them, and when steps that are complete lead to the best load -/
abbrev Vec := Nat → Int
def un (i : Nat) : Vec := fun j => if j = i then 1 else 0
def ad (x y : Vec) : Vec := fun i => x i + y i
def sb (x y : Vec) : Vec := fun i => x i - y i
def Ld (n : Nat) (x : Vec) : Prop := (∀ i, 0 ≤ x i) ∧ ∀ i, n ≤ i → x i = 0
def Fit (s x : Vec) : Prop := ∀ i, s i ≤ x i
structure Ax (n : Nat) (B : Vec → Vec) (dg : Vec → Int) (Ok : Vec → Prop) (mu : Vec → Nat) : Prop where
  badd : ∀ x y, B (ad x y) = ad (B x) (B y)
  bsub : ∀ x y, B (sb x y) = sb (B x) (B y)
  dB : ∀ x y, B x = B y → dg x = dg y
  dadd : ∀ x y, dg (ad x y) = dg x + dg y
  dnn : ∀ x, Ld n x → 0 ≤ dg x
  dpos : ∀ i, i < n → 0 < dg (un i)
  okB : ∀ x y, B x = B y → Ok x → Ok y
  okd : ∀ x y, Ld n x → Ld n y → Ok (ad x y) → Ok x
/-- a step: no good's amount changes, and loads that it fits are bettered -/
structure St (n : Nat) (B : Vec → Vec) (Ok : Vec → Prop) (mu : Vec → Nat) (s : Vec) : Prop where
  ker : ∀ i, B s i = 0
  sup : ∀ i, n ≤ i → s i = 0
  dec : ∀ x, Ld n x → Ok x → Fit s x → mu (sb x s) < mu x
inductive Rt (S : Vec → Prop) : Vec → Vec → Prop
  | refl (x : Vec) : Rt S x x
  | step {x y s : Vec} : S s → Fit s x → Rt S (sb x s) y → Rt S x y
def Jn (S : Vec → Prop) (x y : Vec) : Prop := ∃ w, Rt S x w ∧ Rt S y w
theorem Rt.trans {S : Vec → Prop} {x y z : Vec} (h : Rt S x y) (g : Rt S y z) : Rt S x z := by
  induction h with
  | refl => exact g
  | step hs hf _ ih => exact .step hs hf (ih g)
theorem Rt.mono {S S' : Vec → Prop} (m : ∀ s, S s → S' s) {x y : Vec} (h : Rt S x y) : Rt S' x y := by
  induction h with
  | refl => exact .refl _
  | step hs hf _ ih => exact .step (m _ hs) hf ih
theorem Jn.mono {S S' : Vec → Prop} (m : ∀ s, S s → S' s) {x y : Vec} (h : Jn S x y) : Jn S' x y := by
  obtain ⟨w, h1, h2⟩ := h
  exact ⟨w, h1.mono m, h2.mono m⟩
theorem Jn.symm {S : Vec → Prop} {x y : Vec} (h : Jn S x y) : Jn S y x := by
  obtain ⟨w, h1, h2⟩ := h
  exact ⟨w, h2, h1⟩
theorem sb_ad (x s e : Vec) : sb (ad x e) s = ad (sb x s) e := by
  funext i
  show x i + e i - s i = x i - s i + e i
  omega
theorem Rt.add {S : Vec → Prop} {x y e : Vec} (he : ∀ i, 0 ≤ e i) (h : Rt S x y) : Rt S (ad x e) (ad y e) := by
  induction h with
  | refl => exact .refl _
  | @step x y s hs hf _ ih =>
    refine .step hs (fun i => ?_) ?_
    · have := hf i
      have := he i
      show s i ≤ x i + e i
      omega
    · rw [sb_ad]
      exact ih
section
variable {n : Nat} {B : Vec → Vec} {dg : Vec → Int} {Ok : Vec → Prop} {mu : Vec → Nat} {S : Vec → Prop}
theorem ld_step {s x : Vec} (hs : St n B Ok mu s) (hx : Ld n x) (hf : Fit s x) : Ld n (sb x s) := ⟨fun i => by
    have := hf i
    show 0 ≤ x i - s i
    omega, fun i hi => by
    show x i - s i = 0
    rw [hx.2 i hi, hs.sup i hi]
    rfl⟩
theorem b_step (A : Ax n B dg Ok mu) {s x : Vec} (hs : St n B Ok mu s) : B (sb x s) = B x := by
  rw [A.bsub]
  funext i
  show B x i - B s i = B x i
  rw [hs.ker i]
  omega
theorem rt_keeps (A : Ax n B dg Ok mu) (hS : ∀ s, S s → St n B Ok mu s) {x y : Vec} (h : Rt S x y) : Ld n x → Ld n y ∧ B y = B x := by
  induction h with
  | refl => exact fun h => ⟨h, rfl⟩
  | step hs hf _ ih =>
    intro hx
    obtain ⟨a, b⟩ := ih (ld_step (hS _ hs) hx hf)
    exact ⟨a, b.trans (b_step A (hS _ hs))⟩
theorem rt_mu (A : Ax n B dg Ok mu) (hS : ∀ s, S s → St n B Ok mu s) {x y : Vec} (h : Rt S x y) : Ld n x → Ok x → mu y ≤ mu x := by
  induction h with
  | refl => exact fun _ _ => Nat.le_refl _
  | step hs hf _ ih =>
    intro hx ho
    have := ih (ld_step (hS _ hs) hx hf) (A.okB _ _ (b_step A (hS _ hs)).symm ho)
    have := (hS _ hs).dec _ hx ho hf
    omega
/-- something is left of a load behind two changes -/
def Lv (x s t : Vec) : Prop := ∃ i, s i < x i ∧ t i < x i ∧ 0 < x i
def lc (s t : Vec) : Vec := fun i => if s i ≤ t i then (if 0 ≤ t i then t i else 0) else (if 0 ≤ s i then s i else 0)
/-- what two changes of a least load are held to -/
def Hd (S : Vec → Prop) (x s t : Vec) : Prop := Jn S (sb x s) (sb x t) ∨ ∃ r, S r ∧ Fit r x ∧ Lv x s r ∧ Lv x t r
theorem Hd.mono {S S' : Vec → Prop} (m : ∀ s, S s → S' s) {x s t : Vec} (h : Hd S x s t) : Hd S' x s t := by
  rcases h with h | ⟨r, h1, h2⟩
  · exact .inl (h.mono m)
  · exact .inr ⟨r, m _ h1, h2⟩
/-- steps that are complete: each two of them, and each hamper against its goods -/
structure Full (n kinds : Nat) (Ok : Vec → Prop) (hold : Nat → Vec) (S : Vec → Prop) : Prop where
  pair : ∀ s t, S s → S t → Ok (lc s t) → (∀ i, ¬ (0 < s i ∧ 0 < t i)) ∨ (∃ i, s i < 0 ∧ t i < 0) ∨ Hd S (lc s t) s t
  seed : ∀ k, k < kinds → Ok (un k) → Hd S (un k) (fun _ => 0) (sb (un k) (hold k))
theorem ld_un {i : Nat} (h : i < n) : Ld n (un i) := ⟨fun j => by unfold un; split <;> omega, fun j hj => by unfold un; rw [if_neg (by omega)]⟩
/-- a thing in common: the rest is a lesser load -/
theorem share (A : Ax n B dg Ok mu) (d : Int) (ih : ∀ x y, Ld n x → Ld n y → B x = B y → dg x < d → Ok x → Jn S x y) {x y : Vec} (hx : Ld n x) (hy : Ld n y) (hb : B x = B y) (hd : dg x = d) (ho : Ok x) {i : Nat} (h1 : 0 < x i) (h2 : 0 < y i) : Jn S x y := by
  have hi : i < n := by
    by_cases c : i < n
    · exact c
    · have := hx.2 i (by omega)
      omega
  have ex : x = ad (sb x (un i)) (un i) := by
    funext j
    show x j = x j - un i j + un i j
    omega
  have ey : y = ad (sb y (un i)) (un i) := by
    funext j
    show y j = y j - un i j + un i j
    omega
  have lx : Ld n (sb x (un i)) := ⟨fun j => by
      show 0 ≤ x j - un i j
      unfold un
      by_cases c : j = i
      · rw [if_pos c, c]; omega
      · rw [if_neg c]; have := hx.1 j; omega, fun j hj => by
      show x j - un i j = 0
      rw [hx.2 j hj, (ld_un hi).2 j hj]
      rfl⟩
  have ly : Ld n (sb y (un i)) := ⟨fun j => by
      show 0 ≤ y j - un i j
      unfold un
      by_cases c : j = i
      · rw [if_pos c, c]; omega
      · rw [if_neg c]; have := hy.1 j; omega, fun j hj => by
      show y j - un i j = 0
      rw [hy.2 j hj, (ld_un hi).2 j hj]
      rfl⟩
  have hb' : B (sb x (un i)) = B (sb y (un i)) := by rw [A.bsub, A.bsub, hb]
  have hd' : dg (sb x (un i)) < d := by
    have := A.dadd (sb x (un i)) (un i)
    rw [← ex, hd] at this
    have := A.dpos i hi
    omega
  have ho' : Ok (sb x (un i)) := A.okd _ _ lx (ld_un hi) (by rw [← ex]; exact ho)
  obtain ⟨w, w1, w2⟩ := ih _ _ lx ly hb' hd' ho'
  refine ⟨ad w (un i), ?_, ?_⟩
  · have := w1.add (e := un i) (ld_un hi).1
    rw [← ex] at this
    exact this
  · have := w2.add (e := un i) (ld_un hi).1
    rw [← ey] at this
    exact this
/-- all ways out of a load of the fiber meet again -/
theorem confl (A : Ax n B dg Ok mu) (hS : ∀ s, S s → St n B Ok mu s) {kinds : Nat} {hold : Nat → Vec} (F : Full n kinds Ok hold S) (d : Int) (ih : ∀ x y, Ld n x → Ld n y → B x = B y → dg x < d → Ok x → Jn S x y) :
    ∀ (m : Nat) (x : Vec), mu x ≤ m → Ld n x → Ok x → dg x = d → ∀ u v, Rt S x u → Rt S x v → Jn S u v := by
  intro m
  induction m with
  | zero =>
    intro x hm hx ho hd u v hu hv
    cases hu with
    | refl => exact ⟨v, hv, .refl _⟩
    | step hs hf _ =>
      have := (hS _ hs).dec x hx ho hf
      omega
  | succ m ihm =>
    intro x hm hx ho hd u v hu hv
    cases hu with
    | refl => exact ⟨v, hv, .refl _⟩
    | @step _ _ s hs hf hu =>
      cases hv with
      | refl => exact ⟨u, .refl _, .step hs hf hu⟩
      | @step _ _ t ht hg hv =>
        have below : ∀ r, S r → Fit r x → ∀ p q, Rt S (sb x r) p → Rt S (sb x r) q → Jn S p q := fun r hr hfr p q => by
          have h1 := (hS _ hr).dec x hx ho hfr
          have eb := b_step A (x := x) (hS _ hr)
          exact ihm (sb x r) (by omega) (ld_step (hS _ hr) hx hfr) (A.okB _ _ eb.symm ho) ((A.dB _ _ eb).trans hd) p q
        have sh : ∀ r r', S r → S r' → Fit r x → Fit r' x → (∃ i, r i < x i ∧ r' i < x i) → Jn S (sb x r) (sb x r') := fun r r' hr hr' hfr hfr' ⟨i, h1, h2⟩ => by
          have eb := b_step A (x := x) (hS _ hr)
          have eb' := b_step A (x := x) (hS _ hr')
          exact share A d ih (ld_step (hS _ hr) hx hfr) (ld_step (hS _ hr') hx hfr') (eb.trans eb'.symm) ((A.dB _ _ eb).trans hd) (A.okB _ _ eb.symm ho) (i := i) (by show 0 < x i - r i; omega) (by show 0 < x i - r' i; omega)
        have local_ : Jn S (sb x s) (sb x t) := by
          by_cases c : ∃ i, s i < x i ∧ t i < x i
          · exact sh s t hs ht hf hg c
          · have ex : x = lc s t := by
              funext i
              have h1 := hf i
              have h2 := hg i
              have h3 := hx.1 i
              have h4 : ¬ (s i < x i ∧ t i < x i) := fun z => c ⟨i, z⟩
              unfold lc
              split <;> split <;> omega
            rcases F.pair s t hs ht (by rw [← ex]; exact ho) with h | ⟨i, h1, h2⟩ | h
            · -- nothing taken out in common
              refine ⟨sb (sb x s) t, .step ht (fun i => ?_) (.refl _), .step hs (fun i => ?_) ?_⟩
              · have h1 := hf i
                have h2 := hg i
                have h3 := hx.1 i
                have h4 := h i
                show t i ≤ x i - s i
                omega
              · have h1 := hf i
                have h2 := hg i
                have h3 := hx.1 i
                have h4 := h i
                show s i ≤ x i - t i
                omega
              · have e : sb (sb x t) s = sb (sb x s) t := by
                  funext i
                  show x i - t i - s i = x i - s i - t i
                  omega
                rw [e]
                exact .refl _
            · have h3 := hx.1 i
              exact sh s t hs ht hf hg ⟨i, by omega, by omega⟩
            · rw [← ex] at h
              rcases h with h | ⟨r, hr, hfr, ⟨i, a1, a2, _⟩, ⟨j, b1, b2, _⟩⟩
              · exact h
              · obtain ⟨w1, p1, p2⟩ := sh s r hs hr hf hfr ⟨i, a1, a2⟩
                obtain ⟨w2, q1, q2⟩ := sh t r ht hr hg hfr ⟨j, b1, b2⟩
                obtain ⟨w, r1, r2⟩ := below r hr hfr w1 w2 p2 q2
                exact ⟨w, p1.trans r1, q1.trans r2⟩
        obtain ⟨w, p1, p2⟩ := local_
        obtain ⟨w1, a1, a2⟩ := below s hs hf u w hu p1
        obtain ⟨w2, b1, b2⟩ := below t ht hg v w hv p2
        obtain ⟨w3, c1, c2⟩ := below s hs hf w1 w2 (p1.trans a2) (p1.trans b2)
        exact ⟨w3, a1.trans c1, b1.trans c2⟩
end
end BL
end HL

namespace HL
namespace BL
section
variable {n : Nat} {B : Vec → Vec} {dg : Vec → Int} {Ok : Vec → Prop} {mu : Vec → Nat} {S : Vec → Prop}
/-- what is known of hampers and loose goods -/
structure Hm (n kinds : Nat) (B : Vec → Vec) (hold : Nat → Vec) : Prop where
  le : kinds ≤ n
  ld : ∀ k, k < kinds → Ld n (hold k)
  no : ∀ k i, k < kinds → i < kinds → hold k i = 0
  bill : ∀ k, k < kinds → B (hold k) = B (un k)
  one : ∀ x y, Ld n x → Ld n y → (∀ i, i < kinds → x i = 0) → (∀ i, i < kinds → y i = 0) → B x = B y → x = y
def hc (kinds : Nat) (x : Vec) : Nat := ((List.range kinds).map fun i => (x i).toNat).sum
theorem sum_less {f g : Nat → Nat} : ∀ {l : List Nat}, (∀ i ∈ l, f i ≤ g i) → (∃ i ∈ l, f i < g i) → (l.map f).sum < (l.map g).sum
  | [], _, h => by obtain ⟨i, hi, _⟩ := h; cases hi
  | x :: l, h1, h2 => by
    rw [List.map_cons, List.map_cons, List.sum_cons, List.sum_cons]
    have le : ∀ {l : List Nat}, (∀ i ∈ l, f i ≤ g i) → (l.map f).sum ≤ (l.map g).sum := fun {l} => by
      induction l with
      | nil => intro _; exact Nat.le_refl _
      | cons y l ih =>
        intro h
        rw [List.map_cons, List.map_cons, List.sum_cons, List.sum_cons]
        exact Nat.add_le_add (h y List.mem_cons_self) (ih fun i hi => h i (List.mem_cons_of_mem _ hi))
    have hx := h1 x List.mem_cons_self
    have hl := le fun i hi => h1 i (List.mem_cons_of_mem _ hi)
    obtain ⟨i, hi, hlt⟩ := h2
    rcases List.mem_cons.mp hi with e | e
    · subst e; omega
    · have := sum_less (l := l) (fun i hi => h1 i (List.mem_cons_of_mem _ hi)) ⟨i, e, hlt⟩
      omega
theorem to_loose (A : Ax n B dg Ok mu) (hS : ∀ s, S s → St n B Ok mu s) {kinds : Nat} {hold : Nat → Vec} (M : Hm n kinds B hold) (F : Full n kinds Ok hold S) (d : Int) (ih : ∀ x y, Ld n x → Ld n y → B x = B y → dg x < d → Ok x → Jn S x y) :
    ∀ (c : Nat) (x : Vec), hc kinds x ≤ c → Ld n x → Ok x → dg x = d → ∃ z, Ld n z ∧ B z = B x ∧ (∀ i, i < kinds → z i = 0) ∧ Jn S x z := by
  have conf : ∀ x, Ld n x → Ok x → dg x = d → ∀ u v, Rt S x u → Rt S x v → Jn S u v := fun x hx ho hd => confl A hS F d ih (mu x) x (Nat.le_refl _) hx ho hd
  have glue : ∀ x y z, Ld n y → Ok y → dg y = d → Jn S x y → Jn S y z → Jn S x z := fun x y z hy ho hd ⟨w1, a1, a2⟩ ⟨w2, b1, b2⟩ => by
    obtain ⟨w, c1, c2⟩ := conf y hy ho hd w1 w2 a2 b1
    exact ⟨w, a1.trans c1, b2.trans c2⟩
  intro c
  induction c with
  | zero =>
    intro x hcx hx ho hd
    refine ⟨x, hx, rfl, fun i hi => ?_, x, .refl _, .refl _⟩
    by_cases z : x i = 0
    · exact z
    · have h0 := hx.1 i
      have : 0 < hc kinds x := by
        have := sum_less (f := fun _ => 0) (g := fun i => (x i).toNat) (l := List.range kinds) (fun _ _ => Nat.zero_le _) ⟨i, List.mem_range.mpr hi, by show 0 < (x i).toNat; omega⟩
        unfold hc
        omega
      omega
  | succ c ihc =>
    intro x hcx hx ho hd
    by_cases z : ∃ k, k < kinds ∧ 0 < x k
    · obtain ⟨k, hk, hkx⟩ := z
      have kn : k < n := Nat.lt_of_lt_of_le hk M.le
      by_cases rest : ∃ j, 0 < x j - un k j
      · obtain ⟨j, hj⟩ := rest
        have ly : Ld n (ad (sb x (un k)) (hold k)) := ⟨fun i => by
            have h1 := (M.ld k hk).1 i
            have h2 := hx.1 i
            show 0 ≤ x i - un k i + hold k i
            unfold un
            by_cases e : i = k
            · rw [if_pos e, e]; rw [e] at h1; omega
            · rw [if_neg e]; omega, fun i hi => by
            show x i - un k i + hold k i = 0
            rw [hx.2 i hi, (ld_un kn).2 i hi, (M.ld k hk).2 i hi]
            rfl⟩
        have eb : B (ad (sb x (un k)) (hold k)) = B x := by
          rw [A.badd, A.bsub, M.bill k hk]
          funext i
          show B x i - B (un k) i + B (un k) i = B x i
          omega
        have oy := A.okB _ _ eb.symm ho
        have dy := (A.dB _ _ eb).trans hd
        have jxy : Jn S x (ad (sb x (un k)) (hold k)) := by
          have h1 := (M.ld k hk).1 j
          have h2 : 0 ≤ un k j := (ld_un kn).1 j
          exact share A d ih hx ly eb.symm hd ho (i := j) (by omega) (by show 0 < x j - un k j + hold k j; omega)
        have hcy : hc kinds (ad (sb x (un k)) (hold k)) ≤ c := by
          have : hc kinds (ad (sb x (un k)) (hold k)) < hc kinds x := by
            refine sum_less (fun i hi => ?_) ⟨k, List.mem_range.mpr hk, ?_⟩
            · have hi := List.mem_range.mp hi
              have h1 := M.no k i hk hi
              have h2 : 0 ≤ un k i := (ld_un kn).1 i
              show (x i - un k i + hold k i).toNat ≤ (x i).toNat
              omega
            · have h1 := M.no k k hk hk
              show (x k - un k k + hold k k).toNat < (x k).toNat
              unfold un
              rw [if_pos rfl]
              omega
          omega
        obtain ⟨w, w1, w2, w3, w4⟩ := ihc _ hcy ly oy dy
        exact ⟨w, w1, w2.trans eb, w3, glue _ _ _ ly oy dy jxy w4⟩
      · have ex : x = un k := by
          funext j
          have h1 : ¬ 0 < x j - un k j := fun z => rest ⟨j, z⟩
          have h2 := hx.1 j
          by_cases e : j = k
          · subst e
            unfold un at h1 ⊢
            rw [if_pos rfl] at h1 ⊢
            omega
          · unfold un at h1 ⊢
            rw [if_neg e] at h1 ⊢
            omega
        have ek : sb (un k) (sb (un k) (hold k)) = hold k := by
          funext j
          show un k j - (un k j - hold k j) = hold k j
          omega
        have e0 : sb (un k) (fun _ => 0) = un k := by
          funext j
          show un k j - 0 = un k j
          omega
        refine ⟨hold k, M.ld k hk, by rw [ex, M.bill k hk], fun i hi => M.no k i hk hi, ?_⟩
        have okk : Ok (un k) := by rw [← ex]; exact ho
        rcases F.seed k hk okk with h | ⟨r, hr, hfr, ⟨i, a1, a2, a3⟩, ⟨j, b1, b2, b3⟩⟩
        · rw [ek, e0] at h
          rw [ex]
          exact h
        · have hfr' : Fit r x := by rw [ex]; exact hfr
          have ebr := b_step A (x := x) (hS _ hr)
          have lr := ld_step (hS _ hr) hx hfr'
          have or_ := A.okB _ _ ebr.symm ho
          have dr := (A.dB _ _ ebr).trans hd
          have j1 : Jn S x (sb x r) := share A d ih hx lr ebr.symm hd ho (i := i) (by rw [ex]; exact a3) (by show 0 < x i - r i; rw [ex]; omega)
          have j2 : Jn S (sb x r) (hold k) := share A d ih lr (M.ld k hk) (ebr.trans (by rw [ex, M.bill k hk])) dr or_ (i := j) (by show 0 < x j - r j; rw [ex]; omega) (by
            have b1' : un k j - hold k j < un k j := b1
            omega)
          exact glue _ _ _ lr or_ dr j1 j2
    · refine ⟨x, hx, rfl, fun i hi => ?_, x, .refl _, .refl _⟩
      have h1 := hx.1 i
      have h2 : ¬ 0 < x i := fun w => z ⟨i, hi, w⟩
      omega
theorem joined_all (A : Ax n B dg Ok mu) (hS : ∀ s, S s → St n B Ok mu s) {kinds : Nat} {hold : Nat → Vec} (M : Hm n kinds B hold) (F : Full n kinds Ok hold S) :
    ∀ (e : Nat) (x y : Vec), (dg x).toNat ≤ e → Ld n x → Ld n y → B x = B y → Ok x → Jn S x y := by
  intro e
  induction e using Nat.strongRecOn with
  | _ e ihe =>
    intro x y he hx hy hb ho
    have ih : ∀ u v, Ld n u → Ld n v → B u = B v → dg u < dg x → Ok u → Jn S u v := fun u v hu hv hbu hdu hou => by
      have h1 := A.dnn u hu
      have h2 := A.dnn x hx
      exact ihe (dg u).toNat (by omega) u v (Nat.le_refl _) hu hv hbu hou
    have hoy := A.okB _ _ hb ho
    have hdy := (A.dB _ _ hb).symm
    obtain ⟨z1, l1, e1, n1, w1, p1, p2⟩ := to_loose A hS M F (dg x) ih (hc kinds x) x (Nat.le_refl _) hx ho rfl
    obtain ⟨z2, l2, e2, n2, w2, q1, q2⟩ := to_loose A hS M F (dg x) ih (hc kinds y) y (Nat.le_refl _) hy hoy hdy
    have ez : z1 = z2 := M.one z1 z2 l1 l2 n1 n2 (by rw [e1, e2, hb])
    subst ez
    have oz := A.okB _ _ e1.symm ho
    have dz := A.dB _ _ e1
    obtain ⟨w, r1, r2⟩ := confl A hS F (dg x) ih (mu z1) z1 (Nat.le_refl _) l1 oz dz w1 w2 p2 q2
    exact ⟨w, p1.trans r1, q1.trans r2⟩
/-- a load that no step fits is the best of its bill -/
theorem best_of (A : Ax n B dg Ok mu) (hS : ∀ s, S s → St n B Ok mu s) {kinds : Nat} {hold : Nat → Vec} (M : Hm n kinds B hold) (F : Full n kinds Ok hold S) {x y : Vec} (hx : Ld n x) (ho : Ok x) (irr : ∀ s, S s → ¬ Fit s x) (hy : Ld n y) (hb : B y = B x) : mu x ≤ mu y := by
  obtain ⟨w, p, q⟩ := joined_all A hS M F _ x y (Nat.le_refl _) hx hy hb.symm ho
  cases p with
  | refl => exact rt_mu A hS q hy (A.okB _ _ hb.symm ho)
  | step hs hf _ => exact absurd hf (irr _ hs)
end
end BL
end HL

namespace HL
namespace BL
/-! loads of a lot: bills, ranks -/
def vec (r : List Int) : Vec := fun i => r.getD i 0
def sm : Nat → Vec → Int
  | 0, _ => 0
  | g + 1, f => sm g f + f g
def sh (x : Vec) : Vec := fun i => x (i + 1)
def Lb : List (List Int) → Vec → Nat → Int
  | [], _, _ => 0
  | h :: t, x, j => x 0 * h.getD j 0 + Lb t (sh x) j
def Bv (ll : List (List Int)) (g : Nat) (x : Vec) : Vec := fun j => if j < g then Lb ll x j + x (ll.length + j) else 0
def dgv (ll : List (List Int)) (g : Nat) (x : Vec) : Int := sm g (Bv ll g x)
def Okv (ll : List (List Int)) (g : Nat) (b : Vec) (x : Vec) : Prop := ∀ j, Bv ll g x j ≤ b j
theorem sm_add : ∀ {g : Nat} {x y : Vec}, sm g (ad x y) = sm g x + sm g y
  | 0, _, _ => rfl
  | g + 1, x, y => by
    show sm g (ad x y) + (x g + y g) = (sm g x + x g) + (sm g y + y g)
    rw [sm_add]
    omega
theorem sm_sub : ∀ {g : Nat} {x y : Vec}, sm g (sb x y) = sm g x - sm g y
  | 0, _, _ => rfl
  | g + 1, x, y => by
    show sm g (sb x y) + (x g - y g) = (sm g x + x g) - (sm g y + y g)
    rw [sm_sub]
    omega
theorem sm_le : ∀ {g : Nat} {x y : Vec}, (∀ i, i < g → x i ≤ y i) → sm g x ≤ sm g y
  | 0, _, _, _ => Int.le_refl _
  | g + 1, x, y, h => by
    have h1 := sm_le (g := g) fun i hi => h i (by omega)
    have h2 := h g (by omega)
    show sm g x + x g ≤ sm g y + y g
    omega
theorem sm_zero : ∀ {g : Nat}, sm g (fun _ => 0) = 0
  | 0 => rfl
  | g + 1 => by
    show sm g (fun _ => 0) + 0 = 0
    rw [sm_zero]
    rfl
theorem sm_nn {g : Nat} {x : Vec} (h : ∀ i, i < g → 0 ≤ x i) : 0 ≤ sm g x := by
  have := sm_le (g := g) (x := fun _ => 0) (y := x) h
  rw [sm_zero] at this
  exact this
theorem sm_one : ∀ {g : Nat} {x : Vec} {i : Nat}, (∀ i, i < g → 0 ≤ x i) → i < g → x i ≤ sm g x
  | 0, _, _, _, h => absurd h (Nat.not_lt_zero _)
  | g + 1, x, i, h, hi => by
    show x i ≤ sm g x + x g
    by_cases c : i = g
    · have := sm_nn (g := g) fun i hi => h i (by omega)
      rw [c]
      omega
    · have := sm_one (g := g) (i := i) (fun i hi => h i (by omega)) (by omega)
      have := h g (by omega)
      omega
theorem sm_sh : ∀ {g : Nat} {x : Vec}, sm (g + 1) x = x 0 + sm g (sh x)
  | 0, x => by
    show 0 + x 0 = x 0 + 0
    omega
  | g + 1, x => by
    show sm (g + 1) x + x (g + 1) = x 0 + (sm g (sh x) + x (g + 1))
    rw [sm_sh]
    omega
theorem sm_split : ∀ {g k : Nat} {x : Vec}, sm (k + g) x = sm k x + sm g (fun j => x (k + j))
  | 0, k, x => by
    show sm k x = sm k x + 0
    omega
  | g + 1, k, x => by
    show sm (k + g) x + x (k + g) = sm k x + (sm g (fun j => x (k + j)) + x (k + g))
    rw [sm_split]
    omega
theorem sm_congr {g : Nat} {x y : Vec} (h : ∀ i, i < g → x i = y i) : sm g x = sm g y :=
  Int.le_antisymm (sm_le fun i hi => Int.le_of_eq (h i hi)) (sm_le fun i hi => Int.le_of_eq (h i hi).symm)
theorem sm_mul {g : Nat} {x : Vec} {c : Int} : sm g (fun i => c * x i) = c * sm g x := by
  induction g with
  | zero => show 0 = c * 0; omega
  | succ g ih =>
    show sm g (fun i => c * x i) + c * x g = c * (sm g x + x g)
    rw [ih, Int.mul_add]
theorem Lb_add : ∀ {ll : List (List Int)} {x y : Vec} {j : Nat}, Lb ll (ad x y) j = Lb ll x j + Lb ll y j
  | [], _, _, _ => rfl
  | h :: t, x, y, j => by
    show (x 0 + y 0) * h.getD j 0 + Lb t (ad (sh x) (sh y)) j = (x 0 * h.getD j 0 + Lb t (sh x) j) + (y 0 * h.getD j 0 + Lb t (sh y) j)
    rw [Lb_add, Int.add_mul]
    omega
theorem Lb_sub : ∀ {ll : List (List Int)} {x y : Vec} {j : Nat}, Lb ll (sb x y) j = Lb ll x j - Lb ll y j
  | [], _, _, _ => rfl
  | h :: t, x, y, j => by
    show (x 0 - y 0) * h.getD j 0 + Lb t (sb (sh x) (sh y)) j = (x 0 * h.getD j 0 + Lb t (sh x) j) - (y 0 * h.getD j 0 + Lb t (sh y) j)
    rw [Lb_sub, Int.sub_mul]
    omega
theorem getD_nn {h : List Int} (n : ∀ z ∈ h, 0 ≤ z) (j : Nat) : 0 ≤ h.getD j 0 := by
  rw [List.getD_eq_getElem?_getD]
  cases e : h[j]? with
  | none => exact Int.le_refl _
  | some z => exact n z (List.mem_of_getElem? e)
theorem Lb_nn : ∀ {ll : List (List Int)} {x : Vec} {j : Nat}, (∀ h ∈ ll, ∀ z ∈ h, 0 ≤ z) → (∀ i, 0 ≤ x i) → 0 ≤ Lb ll x j
  | [], _, _, _, _ => Int.le_refl _
  | h :: t, x, j, hn, hx => by
    have h1 := Lb_nn (ll := t) (x := sh x) (j := j) (fun q hq => hn q (List.mem_cons_of_mem _ hq)) (fun i => hx (i + 1))
    have h2 := Int.mul_nonneg (hx 0) (getD_nn (hn h List.mem_cons_self) j)
    show 0 ≤ x 0 * h.getD j 0 + Lb t (sh x) j
    omega
theorem Lb_zero : ∀ {ll : List (List Int)} {x : Vec} {j : Nat}, (∀ i, i < ll.length → x i = 0) → Lb ll x j = 0
  | [], _, _, _ => rfl
  | h :: t, x, j, hx => by
    show x 0 * h.getD j 0 + Lb t (sh x) j = 0
    rw [hx 0 (by simp), Lb_zero (ll := t) (x := sh x) fun i hi => hx (i + 1) (by simpa using hi)]
    omega
theorem sh_un {i : Nat} : sh (un (i + 1)) = un i := by
  funext j
  show (if j + 1 = i + 1 then (1 : Int) else 0) = if j = i then 1 else 0
  by_cases c : j = i
  · rw [if_pos c, if_pos (by omega)]
  · rw [if_neg c, if_neg (by omega)]
theorem Lb_un : ∀ {ll : List (List Int)} {i j : Nat}, i < ll.length → Lb ll (un i) j = (ll.getD i []).getD j 0
  | [], _, _, h => absurd h (Nat.not_lt_zero _)
  | h :: t, 0, j, _ => by
    show un 0 0 * h.getD j 0 + Lb t (sh (un 0)) j = h.getD j 0
    rw [Lb_zero (ll := t) (fun i _ => by show (if i + 1 = 0 then (1 : Int) else 0) = 0; rw [if_neg (by omega)])]
    show (1 : Int) * h.getD j 0 + 0 = h.getD j 0
    omega
  | h :: t, i + 1, j, hi => by
    show un (i + 1) 0 * h.getD j 0 + Lb t (sh (un (i + 1))) j = (t.getD i []).getD j 0
    rw [sh_un, Lb_un (by simpa using hi)]
    show (0 : Int) * h.getD j 0 + _ = _
    omega
/-- what is asked of a lot here -/
def Lot (g : Nat) (ll : List (List Int)) : Prop := ∀ h ∈ ll, Kd g h
theorem sm_getD : ∀ {g : Nat} {h : List Int}, h.length = g → sm g (fun j => h.getD j 0) = h.sum := by
  intro g
  induction g with
  | zero => intro h e; rw [List.length_eq_zero_iff.mp e]; rfl
  | succ g ih =>
    intro h e
    cases h with
    | nil => simp at e
    | cons x h =>
      rw [sm_sh, List.sum_cons]
      have : sm g (sh fun j => (x :: h).getD j 0) = h.sum := ih (h := h) (by simpa using e)
      rw [this]
      rfl
theorem kd_sum {g : Nat} {h : List Int} (k : Kd g h) : 1 ≤ sm g (fun j => h.getD j 0) := by
  obtain ⟨h1, h2, n, hn, h3⟩ := k
  obtain ⟨j, hj, e⟩ := List.mem_iff_getElem.mp hn
  have := sm_one (g := g) (x := fun j => h.getD j 0) (i := j) (fun i _ => getD_nn h2 i) (by omega)
  have e2 : h.getD j 0 = n := by
    rw [List.getD_eq_getElem?_getD, List.getElem?_eq_getElem hj, e]
    rfl
  rw [e2] at this
  omega
theorem sm_Lb : ∀ {ll : List (List Int)} {g : Nat} {x : Vec}, Lot g ll → (∀ i, 0 ≤ x i) → sm ll.length x ≤ sm g (Lb ll x)
  | [], g, x, _, _ => by
    have : sm g (Lb [] x) = 0 := sm_zero
    rw [this]
    exact Int.le_refl _
  | h :: t, g, x, L, hx => by
    have h1 := sm_Lb (ll := t) (g := g) (x := sh x) (fun q hq => L q (List.mem_cons_of_mem _ hq)) (fun i => hx (i + 1))
    have e : Lb (h :: t) x = ad (fun j => x 0 * h.getD j 0) (Lb t (sh x)) := rfl
    rw [e, sm_add, sm_mul, List.length_cons, sm_sh]
    have h2 := kd_sum (L h List.mem_cons_self)
    have h3 := Int.mul_le_mul_of_nonneg_left h2 (hx 0)
    omega
theorem dgv_eq {ll : List (List Int)} {g : Nat} {x : Vec} : dgv ll g x = sm g (Lb ll x) + sm g (fun j => x (ll.length + j)) := by
  unfold dgv
  rw [← sm_add]
  exact sm_congr fun j hj => by
    unfold Bv
    rw [if_pos hj]
    rfl
theorem sm_dg {ll : List (List Int)} {g : Nat} {x : Vec} (L : Lot g ll) (hx : ∀ i, 0 ≤ x i) : sm (ll.length + g) x ≤ dgv ll g x := by
  rw [dgv_eq, sm_split]
  have := sm_Lb L hx
  omega
theorem Bv_nn {ll : List (List Int)} {g : Nat} {x : Vec} (L : Lot g ll) (hx : ∀ i, 0 ≤ x i) (j : Nat) : 0 ≤ Bv ll g x j := by
  unfold Bv
  split
  · have := Lb_nn (ll := ll) (x := x) (j := j) (fun h hh => (L h hh).2.1) hx
    have := hx (ll.length + j)
    omega
  · exact Int.le_refl _
theorem Bv_add {ll : List (List Int)} {g : Nat} (x y : Vec) : Bv ll g (ad x y) = ad (Bv ll g x) (Bv ll g y) := by
  funext j
  show Bv ll g (ad x y) j = Bv ll g x j + Bv ll g y j
  unfold Bv
  by_cases c : j < g
  · rw [if_pos c, if_pos c, if_pos c, Lb_add]
    show _ + (x (ll.length + j) + y (ll.length + j)) = _
    omega
  · rw [if_neg c, if_neg c, if_neg c]
    rfl
theorem Bv_sub {ll : List (List Int)} {g : Nat} (x y : Vec) : Bv ll g (sb x y) = sb (Bv ll g x) (Bv ll g y) := by
  funext j
  show Bv ll g (sb x y) j = Bv ll g x j - Bv ll g y j
  unfold Bv
  by_cases c : j < g
  · rw [if_pos c, if_pos c, if_pos c, Lb_sub]
    show _ + (x (ll.length + j) - y (ll.length + j)) = _
    omega
  · rw [if_neg c, if_neg c, if_neg c]
    rfl
theorem dgv_add {ll : List (List Int)} {g : Nat} (x y : Vec) : dgv ll g (ad x y) = dgv ll g x + dgv ll g y := by
  unfold dgv
  rw [Bv_add, sm_add]
theorem ax {ll : List (List Int)} {g : Nat} {b : Vec} {mu : Vec → Nat} (L : Lot g ll) : Ax (ll.length + g) (Bv ll g) (dgv ll g) (Okv ll g b) mu where
  badd := Bv_add
  bsub := Bv_sub
  dB x y h := by unfold dgv; rw [h]
  dadd := dgv_add
  dnn x hx := sm_nn fun j _ => Bv_nn L hx.1 j
  dpos i hi := by
    have h1 := sm_dg (g := g) L (x := un i) (ld_un hi).1
    have h2 := sm_one (g := ll.length + g) (x := un i) (i := i) (fun j _ => (ld_un hi).1 j) hi
    have h3 : un i i = 1 := by unfold un; rw [if_pos rfl]
    omega
  okB x y h o j := by
    have := o j
    rw [h] at this
    exact this
  okd x y hx hy o j := by
    have h1 := o j
    have h2 := Bv_nn (g := g) L hy.1 j
    rw [Bv_add] at h1
    have h3 : Bv ll g x j + Bv ll g y j ≤ b j := h1
    omega
def holdv (ll : List (List Int)) (k : Nat) : Vec := fun i => if i < ll.length then 0 else (ll.getD k []).getD (i - ll.length) 0
theorem hold_len {ll : List (List Int)} {g k : Nat} (L : Lot g ll) (hk : k < ll.length) : Kd g (ll.getD k []) := by
  have e : ll.getD k [] = ll[k] := by rw [List.getD_eq_getElem?_getD, List.getElem?_eq_getElem hk]; rfl
  rw [e]
  exact L _ (List.getElem_mem hk)
theorem hm {ll : List (List Int)} {g : Nat} (L : Lot g ll) : Hm (ll.length + g) ll.length (Bv ll g) (holdv ll) where
  le := by omega
  ld k hk := by
    have K := hold_len L hk
    refine ⟨fun i => ?_, fun i hi => ?_⟩
    · unfold holdv
      split
      · exact Int.le_refl _
      · exact getD_nn K.2.1 _
    · unfold holdv
      rw [if_neg (by omega), List.getD_eq_getElem?_getD, List.getElem?_eq_none (by rw [K.1]; omega)]
      rfl
  no k i hk hi := by
    unfold holdv
    rw [if_pos hi]
  bill k hk := by
    funext j
    unfold Bv
    by_cases c : j < g
    · rw [if_pos c, if_pos c, Lb_zero (x := holdv ll k) fun i hi => by unfold holdv; rw [if_pos hi], Lb_un hk]
      have e1 : holdv ll k (ll.length + j) = (ll.getD k []).getD j 0 := by
        unfold holdv
        rw [if_neg (by omega), Nat.add_sub_cancel_left]
      have e2 : un k (ll.length + j) = 0 := by
        unfold un
        rw [if_neg (by omega)]
      rw [e1, e2]
      omega
    · rw [if_neg c, if_neg c]
  one x y hx hy nx ny e := by
    funext i
    by_cases c1 : i < ll.length
    · rw [nx i c1, ny i c1]
    · by_cases c2 : i < ll.length + g
      · have h1 := congrFun e (i - ll.length)
        unfold Bv at h1
        rw [if_pos (by omega), if_pos (by omega), Lb_zero nx, Lb_zero ny, show ll.length + (i - ll.length) = i by omega] at h1
        omega
      · rw [hx.2 i (by omega), hy.2 i (by omega)]
/-! ranks -/
/-- what a load is judged by, in order: loose goods, its worth, each loose good, each count -/
def rkv (k g : Nat) (w x : Vec) : List Int := sm g (fun j => x (k + j)) :: sm k (fun i => w i * x i) :: ((List.range g).map (fun j => x (k + j)) ++ (List.range k).map x)
theorem rkv_len {k g : Nat} {w x : Vec} : (rkv k g w x).length = g + k + 2 := by
  unfold rkv
  simp
theorem subR_map {α : Type} {l : List α} {f h : α → Int} : subR (l.map f) (l.map h) 1 = l.map fun i => f i - h i := by
  induction l with
  | nil => rfl
  | cons a l ih =>
    rw [List.map_cons, List.map_cons, subR_cons, ih, List.map_cons, Int.one_mul]
theorem subR_app : ∀ {a b c d : List Int}, a.length = c.length → subR (a ++ b) (c ++ d) 1 = subR a c 1 ++ subR b d 1
  | [], b, [], d, _ => rfl
  | x :: a, b, y :: c, d, e => by
    rw [List.cons_append, List.cons_append, subR_cons, subR_app (by simpa using e), subR_cons]
    rfl
  | [], _, _ :: _, _, e => by simp at e
  | _ :: _, _, [], _, e => by simp at e
theorem rkv_sub {k g : Nat} {w x s : Vec} : rkv k g w (sb x s) = subR (rkv k g w x) (rkv k g w s) 1 := by
  unfold rkv
  rw [subR_cons, subR_cons, subR_app (by simp), subR_map, subR_map, Int.one_mul, Int.one_mul]
  have e1 : sm g (fun j => sb x s (k + j)) = sm g (fun j => x (k + j)) - sm g (fun j => s (k + j)) := sm_sub (x := fun j => x (k + j)) (y := fun j => s (k + j))
  have e2 : sm k (fun i => w i * sb x s i) = sm k (fun i => w i * x i) - sm k (fun i => w i * s i) := by
    rw [← sm_sub]
    exact sm_congr fun i _ => by
      show w i * (x i - s i) = w i * x i - w i * s i
      rw [Int.mul_sub]
  rw [e1, e2]
  rfl
/-- the first that isn't nought is above it -/
def FP : List Int → Prop
  | [] => False
  | x :: r => 0 < x ∨ (x = 0 ∧ FP r)
theorem lx_sub : ∀ {a d : List Int}, a.length = d.length → FP d → lx (subR a d 1) a
  | [], [], _, h => h
  | x :: a, y :: d, e, h => by
    rw [subR_cons]
    rcases h with h | ⟨h, h'⟩
    · exact .inl (by omega)
    · exact .inr ⟨by omega, lx_sub (by simpa using e) h'⟩
  | [], _ :: _, e, _ => by simp at e
  | _ :: _, [], e, _ => by simp at e
def cd (C : Nat) : List Int → Nat
  | [] => 0
  | x :: r => (x + C).toNat * (2 * C + 1) ^ r.length + cd C r
def Bdd (C : Nat) (r : List Int) : Prop := ∀ z ∈ r, -(C : Int) ≤ z ∧ z ≤ C
theorem cd_lt {C : Nat} : ∀ {r : List Int}, Bdd C r → cd C r < (2 * C + 1) ^ r.length
  | [], _ => by show 0 < 1; decide
  | x :: r, h => by
    have h1 := cd_lt (r := r) fun z hz => h z (List.mem_cons_of_mem _ hz)
    have h2 := h x List.mem_cons_self
    have h3 : (x + C).toNat ≤ 2 * C := by omega
    have h4 := Nat.mul_le_mul_right ((2 * C + 1) ^ r.length) h3
    show (x + C).toNat * (2 * C + 1) ^ r.length + cd C r < (2 * C + 1) ^ (r.length + 1)
    rw [Nat.pow_succ, Nat.mul_comm _ (2 * C + 1), Nat.add_mul]
    omega
theorem cd_lx {C : Nat} : ∀ {r s : List Int}, r.length = s.length → Bdd C r → Bdd C s → lx r s → cd C r < cd C s
  | [], [], _, _, _, h => h.elim
  | [], _ :: _, _, _, _, h => h.elim
  | _ :: _, [], _, _, _, h => h.elim
  | x :: r, y :: s, e, hr, hs, h => by
    have e' : r.length = s.length := by simpa using e
    have hr' : Bdd C r := fun z hz => hr z (List.mem_cons_of_mem _ hz)
    have hs' : Bdd C s := fun z hz => hs z (List.mem_cons_of_mem _ hz)
    show (x + C).toNat * (2 * C + 1) ^ r.length + cd C r < (y + C).toNat * (2 * C + 1) ^ s.length + cd C s
    rw [← e']
    rcases h with h | ⟨h, h'⟩
    · have h1 := hr x List.mem_cons_self
      have h2 : (x + C).toNat + 1 ≤ (y + C).toNat := by omega
      have h3 := Nat.mul_le_mul_right ((2 * C + 1) ^ r.length) h2
      have h4 := cd_lt hr'
      rw [Nat.add_mul] at h3
      omega
    · have := cd_lx e' hr' hs' h'
      rw [h]
      omega
/-- one of two rows is ahead, or they are the same -/
theorem lx_tri : ∀ {r s : List Int}, r.length = s.length → lx r s ∨ r = s ∨ lx s r
  | [], [], _ => .inr (.inl rfl)
  | x :: r, y :: s, e => by
    by_cases c : x < y
    · exact .inl (.inl c)
    by_cases c2 : y < x
    · exact .inr (.inr (.inl c2))
    have ex : x = y := by omega
    subst ex
    rcases lx_tri (r := r) (s := s) (by simpa using e) with h | h | h
    · exact .inl (.inr ⟨rfl, h⟩)
    · exact .inr (.inl (by rw [h]))
    · exact .inr (.inr (.inr ⟨rfl, h⟩))
  | [], _ :: _, e => by simp at e
  | _ :: _, [], e => by simp at e
theorem map_range_inj {g : Nat} {f h : Nat → Int} (e : (List.range g).map f = (List.range g).map h) : ∀ j, j < g → f j = h j := fun j hj => by
  have := congrArg (fun l => l[j]?) e
  simp only [List.getElem?_map] at this
  rw [List.getElem?_range hj] at this
  exact Option.some.inj this
theorem rkv_inj {k g : Nat} {w x y : Vec} (hx : Ld (k + g) x) (hy : Ld (k + g) y) (e : rkv k g w x = rkv k g w y) : x = y := by
  unfold rkv at e
  have e1 := (List.cons.inj (List.cons.inj e).2).2
  obtain ⟨e2, e3⟩ := List.append_inj e1 (by simp)
  funext i
  by_cases c1 : i < k
  · exact map_range_inj e3 i c1
  · by_cases c2 : i < k + g
    · have := map_range_inj e2 (i - k) (by omega)
      rw [show k + (i - k) = i by omega] at this
      exact this
    · rw [hx.2 i (by omega), hy.2 i (by omega)]
theorem sm_dot {k : Nat} {w x : Vec} (hw : ∀ i, -99 ≤ w i ∧ w i ≤ 99) (hx : ∀ i, 0 ≤ x i) : -(99 * sm k x) ≤ sm k (fun i => w i * x i) ∧ sm k (fun i => w i * x i) ≤ 99 * sm k x := by
  constructor
  · have e : sm k (fun i => -99 * x i) = -99 * sm k x := sm_mul
    have := sm_le (g := k) (x := fun i => -99 * x i) (y := fun i => w i * x i) fun i _ => Int.mul_le_mul_of_nonneg_right (hw i).1 (hx i)
    omega
  · have e : sm k (fun i => 99 * x i) = 99 * sm k x := sm_mul
    have := sm_le (g := k) (x := fun i => w i * x i) (y := fun i => 99 * x i) fun i _ => Int.mul_le_mul_of_nonneg_right (hw i).2 (hx i)
    omega
/-- what the whole asks: the lot, the bound, the wish -/
structure Sit (ll : List (List Int)) (g : Nat) (b w : Vec) : Prop where
  lot : Lot g ll
  wish : ∀ i, -99 ≤ w i ∧ w i ≤ 99
  few : sm g b ≤ 100000000000000000000000000000000000000
  nn : ∀ j, 0 ≤ b j
theorem ld_sum {ll : List (List Int)} {g : Nat} {b w x : Vec} (Z : Sit ll g b w) (hx : Ld (ll.length + g) x) (ho : Okv ll g b x) : sm (ll.length + g) x ≤ sm g b := by
  have h1 := sm_dg (g := g) Z.lot hx.1
  have h2 : dgv ll g x ≤ sm g b := sm_le fun j _ => ho j
  omega
theorem rk_bdd {ll : List (List Int)} {g : Nat} {b w x : Vec} (Z : Sit ll g b w) (hx : Ld (ll.length + g) x) (ho : Okv ll g b x) : Bdd 100000000000000000000000000000000000000000 (rkv ll.length g w x) := by
  have h1 := ld_sum Z hx ho
  have h2 := Z.few
  rw [sm_split] at h1
  have n1 : 0 ≤ sm ll.length x := sm_nn fun i _ => hx.1 i
  have n2 : 0 ≤ sm g (fun j => x (ll.length + j)) := sm_nn fun i _ => hx.1 _
  have h3 := sm_dot (k := ll.length) Z.wish hx.1
  intro z hz
  unfold rkv at hz
  rcases List.mem_cons.mp hz with e | hz
  · omega
  rcases List.mem_cons.mp hz with e | hz
  · omega
  rcases List.mem_append.mp hz with hz | hz
  · obtain ⟨j, hj, e⟩ := List.mem_map.mp hz
    have := sm_one (g := g) (x := fun j => x (ll.length + j)) (i := j) (fun i _ => hx.1 _) (List.mem_range.mp hj)
    have := hx.1 (ll.length + j)
    omega
  · obtain ⟨j, hj, e⟩ := List.mem_map.mp hz
    have := sm_one (g := ll.length) (x := x) (i := j) (fun i _ => hx.1 _) (List.mem_range.mp hj)
    have := hx.1 j
    omega
def muv (ll : List (List Int)) (g : Nat) (w x : Vec) : Nat := cd 100000000000000000000000000000000000000000 (rkv ll.length g w x)
/-- a change that no good feels and that is the worse first is a step -/
theorem st_of {ll : List (List Int)} {g : Nat} {b w s : Vec} (Z : Sit ll g b w) (ker : ∀ i, Bv ll g s i = 0) (sup : ∀ i, ll.length + g ≤ i → s i = 0) (fp : FP (rkv ll.length g w s)) : St (ll.length + g) (Bv ll g) (Okv ll g b) (muv ll g w) s where
  ker := ker
  sup := sup
  dec x hx ho hf := by
    have l1 : Ld (ll.length + g) (sb x s) := ⟨fun i => by have := hf i; show 0 ≤ x i - s i; omega, fun i hi => by show x i - s i = 0; rw [hx.2 i hi, sup i hi]; rfl⟩
    have o1 : Okv ll g b (sb x s) := fun j => by
      rw [Bv_sub]
      show Bv ll g x j - Bv ll g s j ≤ b j
      rw [ker j]
      have := ho j
      omega
    have e := rk_bdd Z l1 o1
    unfold muv
    refine cd_lx (by rw [rkv_len, rkv_len]) e (rk_bdd Z hx ho) ?_
    rw [rkv_sub]
    exact lx_sub (by rw [rkv_len, rkv_len]) fp
/-- the best by mu is ahead by ranks -/
theorem rk_of_mu {ll : List (List Int)} {g : Nat} {b w x y : Vec} (Z : Sit ll g b w) (hx : Ld (ll.length + g) x) (ox : Okv ll g b x) (hy : Ld (ll.length + g) y) (oy : Okv ll g b y) (h : muv ll g w x ≤ muv ll g w y) : ¬ lx (rkv ll.length g w y) (rkv ll.length g w x) := fun z => by
  have := cd_lx (by rw [rkv_len, rkv_len]) (rk_bdd Z hy oy) (rk_bdd Z hx ox) z
  unfold muv at h
  omega
end BL
end HL

namespace HL
namespace BL
/-! rows as loads and steps -/
def abv (r : List Int) : List Int := r.map fun n => if n < 0 then 0 else n
def ngR (r : List Int) : List Int := r.map fun n => -n
def askLi (s : List Int) (i : Nat) : List (List Int) := ((List.range i).filter fun j => decide (0 < s.getD j 0)).map fun (j : Nat) => [(j : Int), s.getD j 0]
def askL (s : List Int) : List (List Int) := askLi s s.length
def fitB (x : List Int) (aa : List (List Int)) : Bool := aa.all fun a => decide (a.getD 1 0 ≤ x.getD (a.getD 0 0).toNat 0)
theorem askLi_more {s : List Int} {i : Nat} : askLi s (i + 1) = askLi s i ++ if 0 < s.getD i 0 then [[(i : Int), s.getD i 0]] else [] := by
  unfold askLi
  rw [List.range_succ, List.filter_append, List.map_append]
  by_cases c : 0 < s.getD i 0
  · rw [if_pos c, List.filter_cons, if_pos (decide_eq_true c)]
    rfl
  · rw [if_neg c, List.filter_cons, if_neg (fun z => c (of_decide_eq_true z))]
    rfl
theorem askLi_len {s : List Int} {i : Nat} : (askLi s i).length ≤ i := by
  unfold askLi
  rw [List.length_map]
  exact Nat.le_trans (List.length_filter_le _ _) (by rw [List.length_range]; exact Nat.le_refl _)
theorem askL_mem {s a : List Int} : a ∈ askL s ↔ ∃ j, j < s.length ∧ 0 < s.getD j 0 ∧ a = [(j : Int), s.getD j 0] := by
  unfold askL askLi
  constructor
  · intro h
    obtain ⟨j, hj, e⟩ := List.mem_map.mp h
    obtain ⟨h1, h2⟩ := List.mem_filter.mp hj
    exact ⟨j, List.mem_range.mp h1, of_decide_eq_true h2, e.symm⟩
  · rintro ⟨j, h1, h2, e⟩
    exact List.mem_map.mpr ⟨j, List.mem_filter.mpr ⟨List.mem_range.mpr h1, decide_eq_true h2⟩, e.symm⟩
theorem fitB_iff {x s : List Int} : fitB x (askL s) = true ↔ ∀ j, j < s.length → 0 < s.getD j 0 → s.getD j 0 ≤ x.getD j 0 := by
  unfold fitB
  rw [List.all_eq_true]
  constructor
  · intro h j h1 h2
    exact of_decide_eq_true (h _ (askL_mem.mpr ⟨j, h1, h2, rfl⟩))
  · intro h a ha
    obtain ⟨j, h1, h2, rfl⟩ := askL_mem.mp ha
    exact decide_eq_true (h j h1 h2)
theorem vec_out {r : List Int} {i : Nat} (h : r.length ≤ i) : vec r i = 0 := by
  unfold vec
  rw [List.getD_eq_getElem?_getD, List.getElem?_eq_none h]
  rfl
theorem vec_sub : ∀ {r s : List Int} {k : Int}, r.length = s.length → vec (subR r s k) = fun i => vec r i - k * vec s i
  | [], [], k, _ => by
    funext i
    show ([] : List Int).getD i 0 = ([] : List Int).getD i 0 - k * ([] : List Int).getD i 0
    simp
  | x :: r, y :: s, k, e => by
    funext i
    rw [subR_cons]
    cases i with
    | zero => rfl
    | succ i => exact congrFun (vec_sub (r := r) (s := s) (k := k) (by simpa using e)) i
  | [], _ :: _, _, e => by simp at e
  | _ :: _, [], _, e => by simp at e
theorem vec_sub1 {r s : List Int} (e : r.length = s.length) : vec (subR r s 1) = sb (vec r) (vec s) := by
  rw [vec_sub e]
  funext i
  show vec r i - 1 * vec s i = vec r i - vec s i
  omega
theorem vec_ng {s : List Int} : vec (ngR s) = fun i => - vec s i := by
  funext i
  unfold vec ngR
  rw [List.getD_eq_getElem?_getD, List.getD_eq_getElem?_getD, List.getElem?_map]
  cases s[i]? <;> rfl
theorem vec_abv {s : List Int} : vec (abv s) = fun i => if vec s i < 0 then 0 else vec s i := by
  funext i
  unfold vec abv
  rw [List.getD_eq_getElem?_getD, List.getD_eq_getElem?_getD, List.getElem?_map]
  cases s[i]? <;> rfl
theorem vec_inj {r s : List Int} (e : r.length = s.length) (h : vec r = vec s) : r = s := by
  refine List.ext_getElem? fun i => ?_
  by_cases c : i < r.length
  · have := congrFun h i
    unfold vec at this
    rw [List.getD_eq_getElem?_getD, List.getD_eq_getElem?_getD, List.getElem?_eq_getElem c, List.getElem?_eq_getElem (by omega)] at this
    rw [List.getElem?_eq_getElem c, List.getElem?_eq_getElem (by omega)]
    exact congrArg some this
  · rw [List.getElem?_eq_none (by omega), List.getElem?_eq_none (by omega)]
section
variable {ll : List (List Int)} {b ws : List Int}
/-- a load within the bound -/
structure RowOk (ll : List (List Int)) (b r : List Int) : Prop where
  len : r.length = ll.length + b.length
  ld : Ld (ll.length + b.length) (vec r)
  ok : Okv ll b.length (vec b) (vec r)
structure StR (ll : List (List Int)) (b ws s : List Int) : Prop where
  len : s.length = ll.length + b.length
  sml : ∀ z ∈ s, -1000000 ≤ z ∧ z ≤ 1000000
  st : St (ll.length + b.length) (Bv ll b.length) (Okv ll b.length (vec b)) (muv ll b.length (vec ws)) (vec s)
  ndy : ∀ a, Ld (ll.length + b.length) a → Fit a (vec (abv s)) → dgv ll b.length a < dgv ll b.length (vec (abv s)) → ∀ y, Ld (ll.length + b.length) y → Bv ll b.length y = Bv ll b.length a → muv ll b.length (vec ws) a ≤ muv ll b.length (vec ws) y
def inS (ss : List (List Int)) : Vec → Prop := fun v => ∃ s ∈ ss, v = vec s
abbrev St1 (ll : List (List Int)) (b ws : List Int) : Prop := Sit ll b.length (vec b) (vec ws)
theorem RowOk.le (Z : St1 ll b ws) {r : List Int} (h : RowOk ll b r) (i : Nat) : 0 ≤ vec r i ∧ vec r i ≤ 100000000000000000000000000000000000000 := by
  refine ⟨h.ld.1 i, ?_⟩
  by_cases c : i < ll.length + b.length
  · have h1 := ld_sum Z h.ld h.ok
    have h2 := Z.few
    have h3 := sm_one (g := ll.length + b.length) (x := vec r) (i := i) (fun i _ => h.ld.1 i) c
    omega
  · rw [h.ld.2 i (by omega)]
    decide
theorem fit_iff {x s : List Int} (hx : RowOk ll b x) (hs : s.length = ll.length + b.length) : fitB x (askL s) = true ↔ Fit (vec s) (vec x) := by
  rw [fitB_iff]
  constructor
  · intro h i
    by_cases c : i < s.length
    · by_cases c2 : 0 < s.getD i 0
      · exact h i c c2
      · have := hx.ld.1 i
        show s.getD i 0 ≤ vec x i
        omega
    · rw [vec_out (by omega)]
      exact hx.ld.1 i
  · intro h j _ _
    exact h j
/-- something is taken out by a step -/
theorem step_pos (Z : St1 ll b ws) {s : List Int} (h : StR ll b ws s) : ∃ j, j < s.length ∧ 0 < s.getD j 0 := by
  by_cases c : ∃ j, j < s.length ∧ 0 < s.getD j 0
  · exact c
  · exfalso
    have A := ax (b := vec b) (mu := muv ll b.length (vec ws)) Z.lot
    have np : ∀ j, vec s j ≤ 0 := fun j => by
      by_cases cj : j < s.length
      · by_cases cp : 0 < s.getD j 0
        · exact absurd ⟨j, cj, cp⟩ c
        · show s.getD j 0 ≤ 0
          omega
      · rw [vec_out (by omega)]
        exact Int.le_refl _
    have l0 : Ld (ll.length + b.length) (fun _ => 0) := ⟨fun _ => Int.le_refl _, fun _ _ => rfl⟩
    have b0 : ∀ j, Bv ll b.length (fun _ => 0) j = 0 := fun j => by
      have := congrFun (Bv_sub (ll := ll) (g := b.length) (vec s) (vec s)) j
      have e : sb (vec s) (vec s) = fun _ => 0 := by
        funext i
        show vec s i - vec s i = 0
        omega
      rw [e] at this
      rw [this]
      show Bv ll b.length (vec s) j - Bv ll b.length (vec s) j = 0
      omega
    have ln : Ld (ll.length + b.length) (fun i => - vec s i) := ⟨fun i => by have := np i; show 0 ≤ - vec s i; omega, fun i hi => by show - vec s i = 0; rw [h.st.sup i hi]; rfl⟩
    have en : (fun i => - vec s i) = sb (fun _ => 0) (vec s) := by
      funext i
      show - vec s i = 0 - vec s i
      omega
    have dn : dgv ll b.length (fun i => - vec s i) = 0 := by
      unfold dgv
      have e : Bv ll b.length (fun i => - vec s i) = fun _ => 0 := by
        rw [en, Bv_sub]
        funext j
        show Bv ll b.length (fun _ => 0) j - Bv ll b.length (vec s) j = 0
        rw [b0, h.st.ker]
        rfl
      rw [e]
      exact sm_zero
    have z : ∀ i, vec s i = 0 := fun i => by
      by_cases ci : i < ll.length + b.length
      · have h1 := sm_dg (g := b.length) Z.lot ln.1
        have h2 := sm_one (g := ll.length + b.length) (x := fun i => - vec s i) (i := i) (fun i _ => ln.1 i) ci
        have h3 := np i
        have h4 : - vec s i ≤ _ := h2
        omega
      · exact h.st.sup i (by omega)
    -- the load of nothing can't be bettered: mu would sink without end
    have e0 : vec s = fun _ => 0 := funext z
    have st := h.st
    rw [e0] at st
    have o0 : Okv ll b.length (vec b) (fun _ => 0) := fun j => by rw [b0]; exact Z.nn j
    have := st.dec (fun _ => 0) l0 o0 (fun _ => Int.le_refl _)
    have e1 : sb (fun _ => 0) (fun _ => (0 : Int)) = (fun _ => (0 : Int)) := by
      funext i
      rfl
    rw [e1] at this
    omega
theorem okv_step {s x : Vec} (Z : St1 ll b ws) (hs : St (ll.length + b.length) (Bv ll b.length) (Okv ll b.length (vec b)) (muv ll b.length (vec ws)) s) (ho : Okv ll b.length (vec b) x) : Okv ll b.length (vec b) (sb x s) :=
  (ax (mu := muv ll b.length (vec ws)) Z.lot).okB _ _ (b_step (ax (mu := muv ll b.length (vec ws)) Z.lot) hs).symm ho
/-- a step taken many times at once -/
theorem many_steps (Z : St1 ll b ws) {s : Vec} (hs : St (ll.length + b.length) (Bv ll b.length) (Okv ll b.length (vec b)) (muv ll b.length (vec ws)) s) {S : Vec → Prop} (hS : S s) : ∀ (t : Nat) (x : Vec), Ld (ll.length + b.length) x → Okv ll b.length (vec b) x → (∀ i, (t : Int) * s i ≤ x i) →
    Rt S x (fun i => x i - (t : Int) * s i) ∧ Ld (ll.length + b.length) (fun i => x i - (t : Int) * s i) ∧ Okv ll b.length (vec b) (fun i => x i - (t : Int) * s i) ∧ muv ll b.length (vec ws) (fun i => x i - (t : Int) * s i) + t ≤ muv ll b.length (vec ws) x := by
  intro t
  induction t with
  | zero =>
    intro x hx ho _
    have e : (fun i => x i - ((0 : Nat) : Int) * s i) = x := by
      funext i
      simp
    rw [e]
    exact ⟨.refl _, hx, ho, Nat.le_refl _⟩
  | succ t ih =>
    intro x hx ho hf
    have f1 : Fit s x := fun i => by
      have h1 := hf i
      have h2 := hx.1 i
      by_cases c : 0 ≤ s i
      · have h3 := Int.mul_le_mul_of_nonneg_right (show (1 : Int) ≤ ((t + 1 : Nat) : Int) by omega) c
        omega
      · omega
    have e : (fun i => x i - ((t + 1 : Nat) : Int) * s i) = fun i => sb x s i - (t : Int) * s i := by
      funext i
      show x i - ((t + 1 : Nat) : Int) * s i = x i - s i - (t : Int) * s i
      rw [show ((t + 1 : Nat) : Int) = (t : Int) + 1 by omega, Int.add_mul]
      omega
    obtain ⟨r1, r2, r3, r4⟩ := ih (sb x s) (ld_step hs hx f1) (okv_step Z hs ho) fun i => by
      have h1 := hf i
      rw [show ((t + 1 : Nat) : Int) = (t : Int) + 1 by omega, Int.add_mul] at h1
      show (t : Int) * s i ≤ x i - s i
      omega
    rw [e]
    refine ⟨.step hS f1 r1, r2, r3, ?_⟩
    have := hs.dec x hx ho f1
    omega
theorem row_step (Z : St1 ll b ws) {x s : List Int} {t : Int} (hx : RowOk ll b x) (hs : StR ll b ws s) {S : Vec → Prop} (hS : S (vec s)) (t1 : 1 ≤ t) (hf : ∀ j, j < s.length → 0 < s.getD j 0 → t * s.getD j 0 ≤ x.getD j 0) :
    RowOk ll b (subR x s t) ∧ Rt S (vec x) (vec (subR x s t)) ∧ muv ll b.length (vec ws) (vec (subR x s t)) < muv ll b.length (vec ws) (vec x) := by
  have el : x.length = s.length := hx.len.trans hs.len.symm
  obtain ⟨n, rfl⟩ : ∃ n : Nat, t = n := ⟨t.toNat, by omega⟩
  obtain ⟨r1, r2, r3, r4⟩ := many_steps Z hs.st hS n (vec x) hx.ld hx.ok fun i => by
    have h2 := hx.ld.1 i
    by_cases c : i < s.length
    · by_cases c2 : 0 < s.getD i 0
      · exact hf i c c2
      · have h3 : vec s i ≤ 0 := by show s.getD i 0 ≤ 0; omega
        have h4 := Int.mul_le_mul_of_nonneg_left h3 (show (0 : Int) ≤ (n : Int) by omega)
        omega
    · rw [vec_out (r := s) (by omega)]
      omega
  rw [← vec_sub el] at r1 r2 r3 r4
  exact ⟨⟨by rw [subR_len el]; exact hx.len, r2, r3⟩, r1, by omega⟩
end
end BL
end HL

namespace HL
namespace BL
/-! great bills: steps that are taken in by their sizes are changes that don't part -/
section
variable {n : Nat} {B : Vec → Vec} {dg : Vec → Int} {Ok : Vec → Prop} {mu : Vec → Nat} {S : Vec → Prop}
/-- the lesser loads alone -/
theorem Ax.below (A : Ax n B dg Ok mu) (d : Int) : Ax n B dg (fun x => Ok x ∧ dg x < d) mu where
  badd := A.badd
  bsub := A.bsub
  dB := A.dB
  dadd := A.dadd
  dnn := A.dnn
  dpos := A.dpos
  okB x y e h := ⟨A.okB x y e h.1, by rw [← A.dB x y e]; exact h.2⟩
  okd x y hx hy h := ⟨A.okd x y hx hy h.1, by
    have := A.dadd x y
    have := A.dnn y hy
    omega⟩
theorem Ax.dsb (A : Ax n B dg Ok mu) (x y : Vec) : dg (sb x y) = dg x - dg y := by
  have h := A.dadd (sb x y) y
  have e : ad (sb x y) y = x := by
    funext i
    show x i - y i + y i = x i
    omega
  rw [e] at h
  omega
theorem St.below {s : Vec} (h : St n B Ok mu s) (d : Int) : St n B (fun x => Ok x ∧ dg x < d) mu s where
  ker := h.ker
  sup := h.sup
  dec x hx ho hf := h.dec x hx ho.1 hf
theorem fit_ld {a u : Vec} (ha : Ld n a) (hu : Ld n u) (h : Fit a u) : Ld n (sb u a) := ⟨fun i => by
    have := h i
    show 0 ≤ u i - a i
    omega, fun i hi => by
    show u i - a i = 0
    rw [hu.2 i hi, ha.2 i hi]
    rfl⟩
theorem ad_sb {a u : Vec} : ad a (sb u a) = u := by
  funext i
  show a i + (u i - a i) = u i
  omega
/-- what is less than a load that no step fits is the best of its bill -/
theorem below_best (A : Ax n B dg Ok mu) (hS : ∀ s, S s → St n B Ok mu s) {kinds : Nat} {hold : Nat → Vec} (M : Hm n kinds B hold) (d : Int) (F : Full n kinds (fun x => Ok x ∧ dg x < d) hold S)
    {u : Vec} (hu : Ld n u) (ho : Ok u) (hd : dg u ≤ d) (iu : ∀ s, S s → ¬ Fit s u) {a : Vec} (ha : Ld n a) (fa : Fit a u) (lt : dg a < dg u) {y : Vec} (hy : Ld n y) (e : B y = B a) : mu a ≤ mu y := by
  have oa : Ok a := A.okd a (sb u a) ha (fit_ld ha hu fa) (by rw [ad_sb]; exact ho)
  exact best_of (A.below d) (fun s h => (hS s h).below d) M F ha ⟨oa, by omega⟩ (fun s h f => iu s h fun i => by
    have := f i
    have := fa i
    omega) hy e
/-- where all lesser loads are led to their best, two loads that no step fits have no parts that could be told one for the other -/
theorem no_parts (A : Ax n B dg Ok mu) (hS : ∀ s, S s → St n B Ok mu s) {kinds : Nat} {hold : Nat → Vec} (M : Hm n kinds B hold) (d : Int) (F : Full n kinds (fun x => Ok x ∧ dg x < d) hold S)
    (inj : ∀ x y, Ld n x → Ld n y → Ok x → Ok y → mu x = mu y → x = y) {u v : Vec} (hu : Ld n u) (hv : Ld n v) (ho : Ok u) (hd : dg u ≤ d) (iu : ∀ s, S s → ¬ Fit s u) (iv : ∀ s, S s → ¬ Fit s v)
    {a b : Vec} (ha : Ld n a) (hb : Ld n b) (fa : Fit a u) (fb : Fit b v) (e : B a = B b) (lt : dg a < dg u) : a = b := by
  have oa : Ok a := A.okd a (sb u a) ha (fit_ld ha hu fa) (by rw [ad_sb]; exact ho)
  have ob : Ok b := A.okB a b e oa
  have A' := A.below d
  have hS' : ∀ s, S s → St n B (fun x => Ok x ∧ dg x < d) mu s := fun s h => (hS s h).below d
  have da : dg a < d := by omega
  have db : dg b < d := by rw [← A.dB a b e]; exact da
  have ia : ∀ s, S s → ¬ Fit s a := fun s h f => iu s h fun i => by
    have := f i
    have := fa i
    omega
  have ib : ∀ s, S s → ¬ Fit s b := fun s h f => iv s h fun i => by
    have := f i
    have := fb i
    omega
  have h1 := best_of A' hS' M F ha ⟨oa, da⟩ ia hb e.symm
  have h2 := best_of A' hS' M F hb ⟨ob, db⟩ ib ha e
  exact inj a b ha hb oa ob (by omega)
end
/-- numbers of one good: two loads alike that have no parts alike are small -/
structure Wt (n : Nat) (m : Int) (W : Vec → Int) : Prop where
  add : ∀ x y, W (ad x y) = W x + W y
  sub : ∀ x y, W (sb x y) = W x - W y
  one : ∀ i, i < n → 1 ≤ W (un i) ∧ W (un i) ≤ m
theorem sm_un1 {i : Nat} : ∀ {n : Nat}, i < n → sm n (un i) = 1 := fun {n} h => by
  have h1 : ∀ {n : Nat}, n ≤ i → sm n (un i) = 0 := fun {n} hn => by
    rw [sm_congr (y := fun _ => 0) fun j hj => by unfold un; rw [if_neg (by omega)]]
    exact sm_zero
  induction n with
  | zero => omega
  | succ n ih =>
    show sm n (un i) + un i n = 1
    by_cases c : i < n
    · rw [ih c]
      unfold un
      rw [if_neg (by omega)]
      rfl
    · have e : n = i := by omega
      rw [h1 (by omega), e]
      unfold un
      rw [if_pos rfl]
      rfl
theorem ints_few : ∀ {m : Nat} {l : List Int}, l.Nodup → (∀ w ∈ l, -(m : Int) < w ∧ w ≤ 0) → l.length ≤ m := fun {m l} nd h => by
  have : l.length ≤ ((List.range m).map fun j : Nat => -(j : Int)).length := by
    have key : ∀ {l k : List Int}, l.Nodup → (∀ x ∈ l, x ∈ k) → l.length ≤ k.length := by
      intro l
      induction l with
      | nil => exact fun _ _ => Nat.zero_le _
      | cons x l ih =>
        intro k nd hk
        obtain ⟨n1, n2⟩ := List.nodup_cons.mp nd
        have hx := hk x List.mem_cons_self
        have := ih (k := k.erase x) n2 fun y hy => (List.mem_erase_of_ne (fun e => n1 (by rw [← e]; exact hy))).mpr (hk y (List.mem_cons_of_mem _ hy))
        rw [List.length_erase_of_mem hx] at this
        have := List.length_pos_of_mem hx
        rw [List.length_cons]
        omega
    refine key nd fun w hw => ?_
    have := h w hw
    exact List.mem_map.mpr ⟨(-w).toNat, List.mem_range.mpr (by omega), by omega⟩
  rw [List.length_map, List.length_range] at this
  exact this
theorem W_nn {n : Nat} {m : Int} {W : Vec → Int} (hW : Wt n m W) : ∀ (t : Nat) (x : Vec), Ld n x → sm n x ≤ t → 0 ≤ W x ∧ ((∃ i, 0 < x i) → 0 < W x) := by
  have w0 : W (fun _ => 0) = 0 := by
    have := hW.add (fun _ => 0) (fun _ => 0)
    have e : ad (fun _ => 0) (fun _ => 0) = fun _ => 0 := by funext i; rfl
    rw [e] at this
    omega
  intro t
  induction t with
  | zero =>
    intro x hx hs
    have hz : x = fun _ => 0 := by
      funext i
      by_cases c : i < n
      · have := sm_one (g := n) (x := x) (i := i) (fun i _ => hx.1 i) c
        have := hx.1 i
        omega
      · exact hx.2 i (by omega)
    rw [hz]
    refine ⟨by rw [w0]; exact Int.le_refl _, fun ⟨i, hi⟩ => ?_⟩
    exact absurd hi (by show ¬ (0 : Int) < 0; omega)
  | succ t ih =>
    intro x hx hs
    by_cases c : ∃ i, 0 < x i
    · obtain ⟨i, hi⟩ := c
      have hin : i < n := by
        by_cases q : i < n
        · exact q
        · have := hx.2 i (by omega); omega
      have f : Fit (un i) x := fun j => by
        unfold un
        by_cases q : j = i
        · rw [if_pos q, q]; omega
        · rw [if_neg q]; exact hx.1 j
      have l := fit_ld (ld_un hin) hx f
      have h1 : sm n (sb x (un i)) = sm n x - 1 := by rw [sm_sub, sm_un1 hin]
      have h2 := (ih _ l (by omega)).1
      have h3 := hW.sub x (un i)
      have h4 := hW.one i hin
      exact ⟨by omega, fun _ => by omega⟩
    · have hz : x = fun _ => 0 := by
        funext i
        have := hx.1 i
        have : ¬ 0 < x i := fun z => c ⟨i, z⟩
        omega
      refine ⟨?_, fun z => absurd z c⟩
      rw [hz, w0]
      exact Int.le_refl _
theorem W_pos {n : Nat} {m : Int} {W : Vec → Int} (hW : Wt n m W) {x : Vec} (hx : Ld n x) : 0 ≤ W x ∧ ((∃ i, 0 < x i) → 0 < W x) := W_nn hW (sm n x).toNat x hx (by
  have := sm_nn (g := n) (x := x) fun i _ => hx.1 i
  omega)
theorem pig {n m : Nat} {W : Vec → Int} (hW : Wt n m W) {u v : Vec} (hu : Ld n u) (hv : Ld n v) (e : W u = W v)
    (np : ∀ a b, Ld n a → Ld n b → Fit a u → Fit b v → W a = W b → (∃ i, 0 < a i) → (∃ i, a i < u i) → False) : sm n u ≤ m := by
  have key : ∀ (t : Nat) (a b : Vec) (vis : List Int), (sm n u - sm n a + (sm n v - sm n b)).toNat ≤ t → Ld n a → Ld n b → Fit a u → Fit b v → -(m : Int) < W a - W b → vis.Nodup → (vis.length : Int) = sm n a →
      (∀ w ∈ vis, (-(m : Int) < w ∧ w ≤ 0) ∧ ∃ aw bw, Ld n aw ∧ Ld n bw ∧ Fit aw a ∧ Fit bw b ∧ (∃ i, aw i < a i) ∧ W aw - W bw = w) → sm n u ≤ m := by
    intro t
    induction t with
    | zero =>
      intro a b vis ht ha hb fa fb hd nd hl hv'
      have h1 : sm n a ≤ sm n u := sm_le fun i _ => fa i
      have h2 : sm n b ≤ sm n v := sm_le fun i _ => fb i
      have := ints_few nd fun w hw => (hv' w hw).1
      omega
    | succ t ih =>
      intro a b vis ht ha hb fa fb hd nd hl hv'
      have h1 : sm n a ≤ sm n u := sm_le fun i _ => fa i
      have h2 : sm n b ≤ sm n v := sm_le fun i _ => fb i
      by_cases c : ∃ i, a i < u i
      · obtain ⟨i, hi⟩ := c
        by_cases c2 : W a - W b ≤ 0
        · -- one more of u
          have hin : i < n := by
            by_cases q : i < n
            · exact q
            · have := hu.2 i (by omega)
              have := ha.1 i
              omega
          have hnv : W a - W b ∉ vis := fun hm => by
            obtain ⟨_, aw, bw, l1, l2, f1, f2, ⟨j, hj⟩, ew⟩ := hv' _ hm
            refine np (sb a aw) (sb b bw) (fit_ld l1 ha f1) (fit_ld l2 hb f2) (fun x => ?_) (fun x => ?_) ?_ ⟨j, ?_⟩ ⟨i, ?_⟩
            · have := fa x
              have := l1.1 x
              show a x - aw x ≤ u x
              omega
            · have := fb x
              have := l2.1 x
              show b x - bw x ≤ v x
              omega
            · rw [hW.sub, hW.sub]
              omega
            · show 0 < a j - aw j
              omega
            · have := l1.1 i
              show a i - aw i < u i
              omega
          have la : Ld n (ad a (un i)) := ⟨fun x => by
              have := ha.1 x
              have := (ld_un hin).1 x
              show 0 ≤ a x + un i x
              omega, fun x hx => by
              show a x + un i x = 0
              rw [ha.2 x hx, (ld_un hin).2 x hx]
              rfl⟩
          have hs : sm n (ad a (un i)) = sm n a + 1 := by rw [sm_add, sm_un1 hin]
          have hw1 := hW.one i hin
          have hwa := hW.add a (un i)
          have ui : ∀ x, un i x = if x = i then 1 else 0 := fun _ => rfl
          refine ih (ad a (un i)) b ((W a - W b) :: vis) (by omega) la hb (fun x => ?_) fb (by omega) (List.nodup_cons.mpr ⟨hnv, nd⟩) (by rw [List.length_cons]; omega) fun w hw => ?_
          · have := fa x
            show a x + un i x ≤ u x
            rw [ui]
            split
            · rename_i q
              rw [q]
              omega
            · omega
          · rcases List.mem_cons.mp hw with q | q
            · rw [q]
              refine ⟨⟨hd, c2⟩, a, b, ha, hb, fun x => ?_, fun x => Int.le_refl _, ⟨i, ?_⟩, rfl⟩
              · have := (ld_un hin).1 x
                show a x ≤ a x + un i x
                omega
              · show a i < a i + un i i
                rw [ui, if_pos rfl]
                omega
            · obtain ⟨r, aw, bw, l1, l2, f1, f2, ⟨j, hj⟩, ew⟩ := hv' _ q
              refine ⟨r, aw, bw, l1, l2, fun x => ?_, f2, ⟨j, ?_⟩, ew⟩
              · have := (ld_un hin).1 x
                have := f1 x
                show aw x ≤ a x + un i x
                omega
              · have := (ld_un hin).1 j
                show aw j < a j + un i j
                omega
        · -- one more of v
          have hlt : ∃ j, b j < v j := by
            refine Classical.byContradiction fun no => ?_
            have eb : b = v := by
              funext j
              have := fb j
              have : ¬ b j < v j := fun z => no ⟨j, z⟩
              omega
            have l := fit_ld ha hu fa
            have h3 := (W_pos hW l).1
            rw [hW.sub] at h3
            rw [eb] at c2
            omega
          obtain ⟨j, hj⟩ := hlt
          have hjn : j < n := by
            by_cases q : j < n
            · exact q
            · have := hv.2 j (by omega)
              have := hb.1 j
              omega
          have lb : Ld n (ad b (un j)) := ⟨fun x => by
              have := hb.1 x
              have := (ld_un hjn).1 x
              show 0 ≤ b x + un j x
              omega, fun x hx => by
              show b x + un j x = 0
              rw [hb.2 x hx, (ld_un hjn).2 x hx]
              rfl⟩
          have hs : sm n (ad b (un j)) = sm n b + 1 := by rw [sm_add, sm_un1 hjn]
          have hw1 := hW.one j hjn
          have hwb := hW.add b (un j)
          have uj : ∀ x, un j x = if x = j then 1 else 0 := fun _ => rfl
          refine ih a (ad b (un j)) vis (by
            have : sm n (ad b (un j)) ≤ sm n v := sm_le fun x _ => by
              have := fb x
              show b x + un j x ≤ v x
              rw [uj]
              split
              · rename_i q
                rw [q]
                omega
              · omega
            omega) ha lb fa (fun x => ?_) (by omega) nd hl fun w hw => ?_
          · have := fb x
            show b x + un j x ≤ v x
            rw [uj]
            split
            · rename_i q
              rw [q]
              omega
            · omega
          · obtain ⟨r, aw, bw, l1, l2, f1, f2, hx, ew⟩ := hv' _ hw
            refine ⟨r, aw, bw, l1, l2, f1, fun x => ?_, hx, ew⟩
            have := (ld_un hjn).1 x
            have := f2 x
            show bw x ≤ b x + un j x
            omega
      · -- all of u is used
        have ea : a = u := by
          funext i
          have := fa i
          have : ¬ a i < u i := fun z => c ⟨i, z⟩
          omega
        rw [ea] at hl
        have := ints_few nd fun w hw => (hv' w hw).1
        omega
  have w0 : W (fun _ => 0) = 0 := by
    have := hW.add (fun _ => 0) (fun _ => 0)
    have e : ad (fun _ => 0) (fun _ => 0) = fun _ => 0 := by funext i; rfl
    rw [e] at this
    omega
  by_cases m0 : m = 0
  · -- nothing can be there
    subst m0
    by_cases c : ∃ i, i < n
    · obtain ⟨i, hi⟩ := c
      have := hW.one i hi
      omega
    · have : n = 0 := by
        refine Classical.byContradiction fun z => c ⟨0, by omega⟩
      subst this
      exact Int.le_refl _
  · exact key _ (fun _ => 0) (fun _ => 0) [] (Nat.le_refl _) ⟨fun _ => Int.le_refl _, fun _ _ => rfl⟩ ⟨fun _ => Int.le_refl _, fun _ _ => rfl⟩ hu.1 hv.1 (by rw [w0]; omega) List.nodup_nil (by rw [sm_zero]; rfl) fun w hw => by cases hw
end BL
end HL

namespace HL
namespace BL
/-! one good after the other: what loads without parts are made of -/
def sumV : List Vec → Vec
  | [] => fun _ => 0
  | y :: l => ad y (sumV l)
theorem ad_comm (x y : Vec) : ad x y = ad y x := by
  funext i
  show x i + y i = y i + x i
  omega
theorem ad_assoc (x y z : Vec) : ad (ad x y) z = ad x (ad y z) := by
  funext i
  show x i + y i + z i = x i + (y i + z i)
  omega
theorem sumV_out {y : Vec} : ∀ {l : List Vec}, y ∈ l → ∃ r, (∀ w ∈ r, w ∈ l) ∧ r.length + 1 = l.length ∧ sumV l = ad y (sumV r)
  | x :: l, h => by
    rcases List.mem_cons.mp h with e | h
    · exact ⟨l, fun w hw => List.mem_cons_of_mem _ hw, rfl, by rw [e]; rfl⟩
    · obtain ⟨r, h1, h2, h3⟩ := sumV_out h
      refine ⟨x :: r, fun w hw => ?_, by rw [List.length_cons, List.length_cons, h2], ?_⟩
      · rcases List.mem_cons.mp hw with e | hw
        · rw [e]; exact List.mem_cons_self
        · exact List.mem_cons_of_mem _ (h1 w hw)
      · show ad x (sumV l) = ad y (ad x (sumV r))
        rw [h3, ← ad_assoc, ← ad_assoc, ad_comm x y]
theorem sumV_nn : ∀ {l : List Vec}, (∀ y ∈ l, ∀ i, 0 ≤ y i) → ∀ i, 0 ≤ sumV l i
  | [], _, _ => Int.le_refl _
  | y :: l, h, i => by
    have h1 := h y List.mem_cons_self i
    have h2 := sumV_nn (fun w hw => h w (List.mem_cons_of_mem _ hw)) i
    show 0 ≤ y i + sumV l i
    omega
/-- additive -/
structure Add (val : Vec → Int) : Prop where
  add : ∀ x y, val (ad x y) = val x + val y
  sub : ∀ x y, val (sb x y) = val x - val y
theorem Add.zero {val : Vec → Int} (A : Add val) : val (fun _ => 0) = 0 := by
  have := A.sub (fun _ => 0) (fun _ => 0)
  have e : sb (fun _ => 0) (fun _ => (0 : Int)) = fun _ => (0 : Int) := by funext i; rfl
  rw [e] at this
  omega
theorem val_sum {val : Vec → Int} (A : Add val) : ∀ {l : List Vec}, (∀ y ∈ l, 0 ≤ val y) → 0 ≤ val (sumV l)
  | [], _ => by
    show 0 ≤ val (fun _ => 0)
    rw [A.zero]
    exact Int.le_refl _
  | y :: l, h => by
    have h1 := h y List.mem_cons_self
    have h2 := val_sum A fun w hw => h w (List.mem_cons_of_mem _ hw)
    show 0 ≤ val (ad y (sumV l))
    rw [A.add]
    omega
theorem val_sum' {val : Vec → Int} (A : Add val) : ∀ {l : List Vec}, (∀ y ∈ l, val y ≤ 0) → val (sumV l) ≤ 0
  | [], _ => by
    show val (fun _ => 0) ≤ 0
    rw [A.zero]
    exact Int.le_refl _
  | y :: l, h => by
    have h1 := h y List.mem_cons_self
    have h2 := val_sum' A fun w hw => h w (List.mem_cons_of_mem _ hw)
    show val (ad y (sumV l)) ≤ 0
    rw [A.add]
    omega
/-- what is made of G -/
def Gen (G : Vec → Prop) (x : Vec) : Prop := ∃ l : List Vec, (∀ y ∈ l, G y) ∧ x = sumV l
/-- S: what is on the way, Z: what has come to nothing -/
structure Clo (val : Vec → Int) (G S Z : Vec → Prop) : Prop where
  nn : ∀ y, G y → ∀ i, 0 ≤ y i
  z0 : ∀ z, Z z → val z = 0
  zn : ∀ z, Z z → (∀ i, 0 ≤ z i) ∧ ∃ i, 0 < z i
  flat : ∀ y, G y → val y = 0 → Z y
  base : ∀ y, G y → val y ≠ 0 → S y
  step : ∀ s y, S s → G y → (0 < val s ∧ val y < 0) ∨ (val s < 0 ∧ 0 < val y) → (∃ z, Z z ∧ Fit z (ad s y)) ∨ (S (ad s y) ∧ val (ad s y) ≠ 0)
theorem walk {val : Vec → Int} (A : Add val) {G S Z : Vec → Prop} (C : Clo val G S Z) : ∀ (t : Nat) (s : Vec) (r : List Vec), r.length ≤ t → S s → val s ≠ 0 → (∀ y ∈ r, G y) → val (ad s (sumV r)) = 0 → ∃ z, Z z ∧ Fit z (ad s (sumV r)) := by
  intro t
  induction t with
  | zero =>
    intro s r hr hs hv hg he
    have : r = [] := List.eq_nil_of_length_eq_zero (by omega)
    subst this
    rw [A.add] at he
    have : val (sumV []) = 0 := A.zero
    omega
  | succ t ih =>
    intro s r hr hs hv hg he
    rw [A.add] at he
    have hy : ∃ y ∈ r, (0 < val s ∧ val y < 0) ∨ (val s < 0 ∧ 0 < val y) := by
      refine Classical.byContradiction fun no => ?_
      by_cases c : 0 < val s
      · have := val_sum A (l := r) fun y hy => by
          refine Classical.byContradiction fun z => no ⟨y, hy, .inl ⟨c, by omega⟩⟩
        omega
      · have := val_sum' A (l := r) fun y hy => by
          refine Classical.byContradiction fun z => no ⟨y, hy, .inr ⟨by omega, by omega⟩⟩
        omega
    obtain ⟨y, hyr, hsg⟩ := hy
    obtain ⟨r', h1, h2, h3⟩ := sumV_out hyr
    have e : ad s (sumV r) = ad (ad s y) (sumV r') := by rw [h3, ad_assoc]
    rcases C.step s y hs (hg y hyr) hsg with ⟨z, hz, f⟩ | ⟨hS, hne⟩
    · refine ⟨z, hz, fun i => ?_⟩
      have h4 := f i
      have h5 := sumV_nn (l := r') (fun w hw => C.nn w (hg w (h1 w hw))) i
      rw [e]
      show z i ≤ ad s y i + sumV r' i
      omega
    · have := ih (ad s y) r' (by omega) hS hne (fun w hw => hg w (h1 w hw)) (by rw [← e, A.add]; exact he)
      rw [e]
      exact this
/-- some part has come to nothing -/
theorem part {val : Vec → Int} (A : Add val) {G S Z : Vec → Prop} (C : Clo val G S Z) {x : Vec} (hx : Gen G x) (h0 : val x = 0) (hne : ∃ i, x i ≠ 0) : ∃ z, Z z ∧ Fit z x := by
  obtain ⟨l, hl, rfl⟩ := hx
  cases l with
  | nil =>
    obtain ⟨i, hi⟩ := hne
    exact absurd rfl hi
  | cons y r =>
    have hy := hl y List.mem_cons_self
    have hr : ∀ w ∈ r, G w := fun w hw => hl w (List.mem_cons_of_mem _ hw)
    by_cases c : val y = 0
    · refine ⟨y, C.flat y hy c, fun i => ?_⟩
      have := sumV_nn (l := r) (fun w hw => C.nn w (hr w hw)) i
      show y i ≤ y i + sumV r i
      omega
    · exact walk A C r.length y r (Nat.le_refl _) (C.base y hy c) c hr h0
/-- all that comes to nothing is made of Z -/
theorem made {n : Nat} {val : Vec → Int} (A : Add val) {G S Z M : Vec → Prop} (C : Clo val G S Z) (hM : ∀ x, M x → Ld n x ∧ Gen G x) (hs : ∀ x y, M x → M y → Fit y x → M (sb x y)) (hz : ∀ z, Z z → M z) {mu : Vec → Nat} (hmu : ∀ x z, M x → Z z → Fit z x → mu (sb x z) < mu x) :
    ∀ (t : Nat) (x : Vec), mu x ≤ t → M x → val x = 0 → Gen Z x := by
  intro t
  induction t with
  | zero =>
    intro x hx hm h0
    by_cases c : ∃ i, x i ≠ 0
    · obtain ⟨z, h1, h2⟩ := part A C (hM x hm).2 h0 c
      have := hmu x z hm h1 h2
      omega
    · refine ⟨[], (fun y hy => by cases hy), funext fun i => ?_⟩
      exact Classical.byContradiction fun z => c ⟨i, z⟩
  | succ t ih =>
    intro x hx hm h0
    by_cases c : ∃ i, x i ≠ 0
    · obtain ⟨z, h1, h2⟩ := part A C (hM x hm).2 h0 c
      have h3 := hmu x z hm h1 h2
      obtain ⟨l, hl, e⟩ := ih (sb x z) (by omega) (hs x z hm (hz z h1) h2) (by rw [A.sub, h0, C.z0 z h1]; rfl)
      refine ⟨z :: l, fun y hy => ?_, ?_⟩
      · rcases List.mem_cons.mp hy with q | q
        · rw [q]; exact h1
        · exact hl y q
      · show x = ad z (sumV l)
        rw [← e]
        funext i
        show x i = z i + (x i - z i)
        omega
    · refine ⟨[], (fun y hy => by cases hy), funext fun i => ?_⟩
      exact Classical.byContradiction fun z => c ⟨i, z⟩
end BL
end HL

namespace HL
namespace BL
/-! what loads without parts are made of: found by lists of numbers, one good after the other -/
abbrev Row := List Int
def vr (r : Row) : Vec := vec r
def addR (x y : Row) : Row := (x.zip y).map fun q => q.1 + q.2
def leR (x y : Row) : Bool := (x.zip y).all fun q => decide (q.1 ≤ q.2)
/-- the value of a row in one good: w tells each column's number, with its sign -/
def valR (w x : Row) : Int := ((w.zip x).map fun q => q.1 * q.2).sum
def opp (a b : Int) : Bool := (decide (0 < a) && decide (b < 0)) || (decide (a < 0) && decide (0 < b))
/-- all ways on from s come to something told -/
def chk (w : Row) (G Z : List Row) : Nat → Row → Bool
  | 0, _ => false
  | t + 1, s => G.all fun y => !opp (valR w s) (valR w y) || (Z.any (fun z => leR z (addR s y)) || (decide (valR w (addR s y) ≠ 0) && chk w G Z t (addR s y)))
/-- what comes to nothing, sought by size -/
def bfs (w : Row) (G : List Row) : Nat → List Row → List Row → List Row
  | 0, _, Z => Z
  | t + 1, fr, Z =>
    let nx := fr.flatMap fun s => (G.filter fun y => opp (valR w s) (valR w y)).map fun y => addR s y
    let Z' := (Z ++ nx.filter fun s => decide (valR w s = 0)).eraseDups
    let fr' := (nx.filter fun s => decide (valR w s ≠ 0) && !Z'.any fun z => leR z s).eraseDups
    if fr'.isEmpty then Z' else bfs w G t fr' Z'
def minZ (Z : List Row) : List Row := Z.filter fun z => !Z.any fun y => decide (y ≠ z) && leR y z
def nextZ (w : Row) (G : List Row) : List Row := minZ (bfs w G 20 (G.filter fun y => decide (valR w y ≠ 0)) (G.filter fun y => decide (valR w y = 0)))
def okRowN (n : Nat) (z : Row) : Bool := decide (z.length = n) && (z.all (fun x => decide (0 ≤ x)) && z.any fun x => decide (0 < x))
/-- what is told holds -/
def okZ (n : Nat) (w : Row) (ws : List Row) (G Z : List Row) : Bool :=
  Z.all (fun z => okRowN n z && (decide (valR w z = 0) && ws.all fun w' => decide (valR w' z = 0))) &&
  G.all fun y => if valR w y = 0 then Z.any (fun z => decide (z = y)) else chk w G Z 24 y
def lvls (n : Nat) : List Row → List Row → List Row → Option (List Row)
  | [], _, G => some G
  | w :: rest, ws, G => let Z := nextZ w G; if okZ n w ws G Z = true then lvls n rest (w :: ws) Z else none
def unR (i n : Nat) : Row := (List.range n).map fun j => if j = i then 1 else 0
def unitsN (n : Nat) : List Row := (List.range n).map fun i => unR i n
/-! ### as loads -/
theorem vec_add {x y : Row} (e : x.length = y.length) : vec (addR x y) = ad (vec x) (vec y) := by
  funext i
  show (addR x y).getD i 0 = x.getD i 0 + y.getD i 0
  unfold addR
  rw [List.getD_eq_getElem?_getD, List.getD_eq_getElem?_getD, List.getD_eq_getElem?_getD, List.getElem?_map]
  by_cases c : i < x.length
  · have h1 : x[i]? = some x[i] := List.getElem?_eq_getElem c
    have h2 : y[i]? = some (y[i]'(by omega)) := List.getElem?_eq_getElem (by omega)
    have h3 : (x.zip y)[i]? = some (x[i], y[i]'(by omega)) := by
      rw [List.getElem?_zip_eq_some]
      exact ⟨h1, h2⟩
    rw [h1, h2, h3]
    rfl
  · have h1 : x[i]? = none := List.getElem?_eq_none (by omega)
    have h2 : y[i]? = none := List.getElem?_eq_none (by omega)
    have h3 : (x.zip y)[i]? = none := List.getElem?_eq_none (by rw [List.length_zip]; omega)
    rw [h1, h2, h3]
    rfl
theorem add_len {x y : Row} (e : x.length = y.length) : (addR x y).length = x.length := by
  unfold addR
  rw [List.length_map, List.length_zip]
  omega
theorem le_fit {x y : Row} (e : x.length = y.length) (h : leR x y = true) : Fit (vec x) (vec y) := fun i => by
  by_cases c : i < x.length
  · have h1 : x[i]? = some x[i] := List.getElem?_eq_getElem c
    have h2 : y[i]? = some (y[i]'(by omega)) := List.getElem?_eq_getElem (by omega)
    have h3 : (x[i], y[i]'(by omega)) ∈ x.zip y := List.mem_of_getElem? (i := i) (by rw [List.getElem?_zip_eq_some]; exact ⟨h1, h2⟩)
    have := of_decide_eq_true (List.all_eq_true.mp h _ h3)
    show x.getD i 0 ≤ y.getD i 0
    rw [List.getD_eq_getElem?_getD, List.getD_eq_getElem?_getD, h1, h2]
    exact this
  · rw [vec_out (by omega), vec_out (by omega)]
    exact Int.le_refl _
/-- values, as loads have them -/
def valW (w : Row) (x : Vec) : Int := sm w.length fun i => vec w i * x i
theorem valW_add (w : Row) : Add (valW w) where
  add x y := by
    unfold valW
    rw [← sm_add]
    refine sm_congr fun i _ => ?_
    show vec w i * (x i + y i) = vec w i * x i + vec w i * y i
    rw [Int.mul_add]
  sub x y := by
    unfold valW
    rw [← sm_sub]
    refine sm_congr fun i _ => ?_
    show vec w i * (x i - y i) = vec w i * x i - vec w i * y i
    rw [Int.mul_sub]
theorem valR_eq : ∀ {w x : Row}, w.length = x.length → valR w x = valW w (vec x)
  | [], [], _ => rfl
  | a :: w, b :: x, e => by
    have ih := valR_eq (w := w) (x := x) (Nat.succ.inj e)
    unfold valR valW at *
    rw [List.zip_cons_cons, List.map_cons, List.sum_cons, ih, List.length_cons, sm_sh]
    rfl
  | [], _ :: _, e => by cases e
  | _ :: _, [], e => by cases e
def inL (n : Nat) (G : List Row) (v : Vec) : Prop := ∃ r ∈ G, r.length = n ∧ v = vec r
/-- rows on the way: all ways on from them are told -/
def onWay (n : Nat) (w : Row) (G Z : List Row) (v : Vec) : Prop := ∃ r t, r.length = n ∧ v = vec r ∧ chk w G Z t r = true
theorem opp_of {a b : Int} (h : (0 < a ∧ b < 0) ∨ (a < 0 ∧ 0 < b)) : opp a b = true := by
  unfold opp
  rcases h with ⟨h1, h2⟩ | ⟨h1, h2⟩
  · rw [decide_eq_true h1, decide_eq_true h2]; rfl
  · rw [decide_eq_true h1, decide_eq_true h2]
    simp
theorem row_ld {n : Nat} {z : Row} (h : okRowN n z = true) : z.length = n ∧ Ld n (vec z) ∧ ∃ i, 0 < vec z i := by
  unfold okRowN at h
  rw [Bool.and_eq_true, Bool.and_eq_true] at h
  obtain ⟨h1, h2, h3⟩ := h
  have h1 := of_decide_eq_true h1
  refine ⟨h1, ⟨fun i => ?_, fun i hi => vec_out (by omega)⟩, ?_⟩
  · by_cases c : i < z.length
    · have := of_decide_eq_true (List.all_eq_true.mp h2 _ (List.getElem_mem c))
      show 0 ≤ z.getD i 0
      rw [List.getD_eq_getElem?_getD, List.getElem?_eq_getElem c]
      exact this
    · rw [vec_out (by omega)]
      exact Int.le_refl _
  · obtain ⟨x, hx, hx0⟩ := List.any_eq_true.mp h3
    obtain ⟨i, hi, e⟩ := List.mem_iff_getElem.mp hx
    refine ⟨i, ?_⟩
    show 0 < z.getD i 0
    rw [List.getD_eq_getElem?_getD, List.getElem?_eq_getElem hi, e]
    exact of_decide_eq_true hx0
theorem clo_of {n : Nat} {w : Row} {ws G Z : List Row} (hw : w.length = n) (hG : ∀ y ∈ G, okRowN n y = true) (h : okZ n w ws G Z = true) : Clo (valW w) (inL n G) (onWay n w G Z) (inL n Z) := by
  unfold okZ at h
  rw [Bool.and_eq_true] at h
  obtain ⟨hZ, hY⟩ := h
  have zz : ∀ z ∈ Z, okRowN n z = true ∧ valR w z = 0 := fun z hz => by
    have := List.all_eq_true.mp hZ z hz
    rw [Bool.and_eq_true, Bool.and_eq_true] at this
    exact ⟨this.1, of_decide_eq_true this.2.1⟩
  refine ⟨?_, ?_, ?_, ?_, ?_, ?_⟩
  · rintro y ⟨r, hr, _, rfl⟩
    exact (row_ld (hG r hr)).2.1.1
  · rintro z ⟨r, hr, hl, rfl⟩
    rw [← valR_eq (hw.trans hl.symm)]
    exact (zz r hr).2
  · rintro z ⟨r, hr, hl, rfl⟩
    have := row_ld (zz r hr).1
    exact ⟨this.2.1.1, this.2.2⟩
  · rintro y ⟨r, hr, hl, rfl⟩ h0
    rw [← valR_eq (hw.trans hl.symm)] at h0
    have := List.all_eq_true.mp hY r hr
    rw [if_pos h0] at this
    obtain ⟨z, hz, e⟩ := List.any_eq_true.mp this
    have e := of_decide_eq_true e
    exact ⟨z, hz, by rw [e]; exact hl, by rw [e]⟩
  · rintro y ⟨r, hr, hl, rfl⟩ h0
    rw [← valR_eq (hw.trans hl.symm)] at h0
    have := List.all_eq_true.mp hY r hr
    rw [if_neg h0] at this
    exact ⟨r, 24, hl, rfl, this⟩
  · rintro s y ⟨r, t, hl, rfl, hc⟩ ⟨q, hq, hql, rfl⟩ ho
    rw [← valR_eq (hw.trans hl.symm), ← valR_eq (hw.trans hql.symm)] at ho
    cases t with
    | zero => cases hc
    | succ t =>
      have := List.all_eq_true.mp hc q hq
      rw [opp_of ho] at this
      have el : r.length = q.length := hl.trans hql.symm
      have al := add_len el
      rw [← vec_add el]
      rcases Bool.or_eq_true _ _ |>.mp this with h | h
      · cases h
      rcases Bool.or_eq_true _ _ |>.mp h with h | h
      · obtain ⟨z, hz, hle⟩ := List.any_eq_true.mp h
        have zl := (row_ld (zz z hz).1).1
        exact .inl ⟨vec z, ⟨z, hz, zl, rfl⟩, le_fit (by omega) hle⟩
      · rw [Bool.and_eq_true] at h
        refine .inr ⟨⟨addR r q, t, by omega, rfl, h.2⟩, ?_⟩
        rw [← valR_eq (by omega)]
        exact of_decide_eq_true h.1
/-- loads of no value in all goods told so far -/
def Nul (n : Nat) (ws : List Row) (x : Vec) : Prop := Ld n x ∧ ∀ w ∈ ws, valW w x = 0
theorem nul_sub {n : Nat} {ws : List Row} {x y : Vec} (hx : Nul n ws x) (hy : Nul n ws y) (f : Fit y x) : Nul n ws (sb x y) := ⟨fit_ld hy.1 hx.1 f, fun w hw => by rw [(valW_add w).sub, hx.2 w hw, hy.2 w hw]; rfl⟩
theorem lvl_up {n : Nat} {w : Row} {ws G Z : List Row} (hw : w.length = n) (hws : ∀ w' ∈ ws, w'.length = n) (hG : ∀ y ∈ G, okRowN n y = true) (h : okZ n w ws G Z = true) (ih : ∀ x, Nul n ws x → Gen (inL n G) x) :
    (∀ y ∈ Z, okRowN n y = true) ∧ (∀ x, Nul n (w :: ws) x → Gen (inL n Z) x) ∧ ∀ y ∈ Z, ∀ w' ∈ w :: ws, valR w' y = 0 := by
  have C := clo_of hw hG h
  have hZ : ∀ z ∈ Z, okRowN n z = true ∧ valR w z = 0 ∧ ∀ w' ∈ ws, valR w' z = 0 := fun z hz => by
    unfold okZ at h
    rw [Bool.and_eq_true] at h
    have := List.all_eq_true.mp h.1 z hz
    rw [Bool.and_eq_true, Bool.and_eq_true] at this
    exact ⟨this.1, of_decide_eq_true this.2.1, fun w' hw' => of_decide_eq_true (List.all_eq_true.mp this.2.2 w' hw')⟩
  refine ⟨fun y hy => (hZ y hy).1, fun x hx => ?_, fun y hy w' hw' => ?_⟩
  rotate_left
  · rcases List.mem_cons.mp hw' with q | q
    · rw [q]; exact (hZ y hy).2.1
    · exact (hZ y hy).2.2 w' q
  refine made (n := n) (valW_add w) C (M := Nul n ws) (fun x hx => ⟨hx.1, ih x hx⟩) (fun x y hx hy f => nul_sub hx hy f) (fun z ⟨r, hr, hl, e⟩ => ?_) (mu := fun x => (sm n x).toNat) (fun x z hx ⟨r, hr, hl, e⟩ f => ?_) _ x (Nat.le_refl _) ⟨hx.1, fun w' hw' => hx.2 w' (List.mem_cons_of_mem _ hw')⟩ (hx.2 w List.mem_cons_self)
  · subst e
    exact ⟨(row_ld (hZ r hr).1).2.1, fun w' hw' => by rw [← valR_eq ((hws w' hw').trans hl.symm)]; exact (hZ r hr).2.2 w' hw'⟩
  · subst e
    obtain ⟨_, l, i, hi⟩ := row_ld (hZ r hr).1
    have hin : i < n := by
      refine Classical.byContradiction fun c => ?_
      have := l.2 i (by omega)
      omega
    have h1 := sm_one (g := n) (x := vec r) (i := i) (fun i _ => l.1 i) hin
    have h2 : sm n (sb x (vec r)) = sm n x - sm n (vec r) := sm_sub
    have h3 : sm n (vec r) ≤ sm n x := sm_le fun i _ => f i
    show (sm n (sb x (vec r))).toNat < (sm n x).toNat
    omega
theorem lvls_ok {n : Nat} : ∀ {rest ws G Z : List Row}, (∀ w ∈ rest, w.length = n) → (∀ w ∈ ws, w.length = n) → (∀ y ∈ G, okRowN n y = true) → (∀ x, Nul n ws x → Gen (inL n G) x) → (∀ y ∈ G, ∀ w ∈ ws, valR w y = 0) → lvls n rest ws G = some Z →
    (∀ y ∈ Z, okRowN n y = true) ∧ (∀ x, Ld n x → (∀ w ∈ ws, valW w x = 0) → (∀ w ∈ rest, valW w x = 0) → Gen (inL n Z) x) ∧ ∀ y ∈ Z, (∀ w ∈ ws, valR w y = 0) ∧ ∀ w ∈ rest, valR w y = 0
  | [], ws, G, Z, _, hws, hG, ih, hv, h => by
    cases h
    exact ⟨hG, fun x hx h1 _ => ih x ⟨hx, h1⟩, fun y hy => ⟨hv y hy, fun w hw => by cases hw⟩⟩
  | w :: rest, ws, G, Z, hr, hws, hG, ih, hv, h => by
    unfold lvls at h
    by_cases c : okZ n w ws G (nextZ w G) = true
    · have h : (if okZ n w ws G (nextZ w G) = true then lvls n rest (w :: ws) (nextZ w G) else none) = some Z := h
      rw [if_pos c] at h
      obtain ⟨k1, k2, k3⟩ := lvl_up (hr w List.mem_cons_self) hws hG c ih
      obtain ⟨j1, j2, j3⟩ := lvls_ok (fun w' hw' => hr w' (List.mem_cons_of_mem _ hw')) (fun w' hw' => by
        rcases List.mem_cons.mp hw' with e | e
        · rw [e]; exact hr w List.mem_cons_self
        · exact hws w' e) k1 k2 k3 h
      refine ⟨j1, fun x hx h1 h2 => j2 x hx (fun w' hw' => ?_) fun w' hw' => h2 w' (List.mem_cons_of_mem _ hw'), fun y hy => ⟨fun w' hw' => (j3 y hy).1 w' (List.mem_cons_of_mem _ hw'), fun w' hw' => ?_⟩⟩
      rotate_left
      · rcases List.mem_cons.mp hw' with q | q
        · rw [q]; exact (j3 y hy).1 w List.mem_cons_self
        · exact (j3 y hy).2 w' q
      rcases List.mem_cons.mp hw' with e | e
      · rw [e]; exact h2 w List.mem_cons_self
      · exact h1 w' e
    · have h : (if okZ n w ws G (nextZ w G) = true then lvls n rest (w :: ws) (nextZ w G) else none) = some Z := h
      rw [if_neg c] at h
      cases h
theorem unR_len {i n : Nat} : (unR i n).length = n := by unfold unR; rw [List.length_map, List.length_range]
theorem vec_unR {i n : Nat} (h : i < n) : vec (unR i n) = un i := by
  funext j
  show (unR i n).getD j 0 = if j = i then 1 else 0
  unfold unR
  rw [List.getD_eq_getElem?_getD, List.getElem?_map]
  by_cases c : j < n
  · rw [List.getElem?_range c]
    rfl
  · rw [List.getElem?_eq_none (by rw [List.length_range]; omega), if_neg (by omega)]
    rfl
theorem unR_ok {i n : Nat} (h : i < n) : okRowN n (unR i n) = true := by
  unfold okRowN
  rw [unR_len, decide_eq_true rfl, Bool.true_and, Bool.and_eq_true]
  constructor
  · rw [List.all_eq_true]
    intro x hx
    unfold unR at hx
    obtain ⟨j, _, rfl⟩ := List.mem_map.mp hx
    exact decide_eq_true (by split <;> omega)
  · rw [List.any_eq_true]
    refine ⟨1, List.mem_map.mpr ⟨i, List.mem_range.mpr h, if_pos rfl⟩, by decide⟩
theorem gen_units {n : Nat} : ∀ (t : Nat) (x : Vec), (sm n x).toNat ≤ t → Ld n x → Gen (inL n (unitsN n)) x := by
  intro t
  induction t with
  | zero =>
    intro x ht hx
    refine ⟨[], (fun y hy => by cases hy), funext fun i => ?_⟩
    show x i = 0
    by_cases c : i < n
    · have := sm_one (g := n) (x := x) (i := i) (fun i _ => hx.1 i) c
      have := hx.1 i
      omega
    · exact hx.2 i (by omega)
  | succ t ih =>
    intro x ht hx
    by_cases c : ∃ i, 0 < x i
    · obtain ⟨i, hi⟩ := c
      have hin : i < n := by
        refine Classical.byContradiction fun z => ?_
        have := hx.2 i (by omega)
        omega
      have f : Fit (un i) x := fun j => by
        unfold un
        by_cases q : j = i
        · rw [if_pos q, q]; omega
        · rw [if_neg q]; exact hx.1 j
      have l := fit_ld (ld_un hin) hx f
      have h1 : sm n (sb x (un i)) = sm n x - 1 := by rw [sm_sub, sm_un1 hin]
      obtain ⟨r, hr, e⟩ := ih _ (by omega) l
      refine ⟨un i :: r, fun y hy => ?_, ?_⟩
      · rcases List.mem_cons.mp hy with q | q
        · rw [q]
          exact ⟨unR i n, List.mem_map.mpr ⟨i, List.mem_range.mpr hin, rfl⟩, unR_len, (vec_unR hin).symm⟩
        · exact hr y q
      · show x = ad (un i) (sumV r)
        rw [← e]
        funext j
        show x j = un i j + (x j - un i j)
        omega
    · refine ⟨[], (fun y hy => by cases hy), funext fun i => ?_⟩
      have := hx.1 i
      have : ¬ 0 < x i := fun z => c ⟨i, z⟩
      show x i = 0
      omega
/-! ### a lot's columns, with a side for each -/
def wOf : List Row → List Bool → Nat → Row
  | c :: cs, p :: ps, j => (if p = true then c.getD j 0 else -c.getD j 0) :: wOf cs ps j
  | _, _, _ => []
theorem wOf_len : ∀ {cs : List Row} {ps : List Bool} {j : Nat}, ps.length = cs.length → (wOf cs ps j).length = cs.length
  | [], [], _, _ => rfl
  | _ :: cs, _ :: ps, j, e => by
    show (wOf cs ps j).length + 1 = cs.length + 1
    rw [wOf_len (Nat.succ.inj e)]
  | [], _ :: _, _, e => by cases e
  | _ :: _, [], _, e => by cases e
theorem w_val {j : Nat} : ∀ {cs : List Row} {ps : List Bool} {u v : Vec}, ps.length = cs.length → (∀ i, i < cs.length → if ps.getD i false = true then v i = 0 else u i = 0) → valW (wOf cs ps j) (ad u v) = Lb cs u j - Lb cs v j
  | [], [], _, _, _, _ => rfl
  | c :: cs, p :: ps, u, v, e, h => by
    have e' := Nat.succ.inj e
    have ih := w_val (j := j) (cs := cs) (ps := ps) (u := sh u) (v := sh v) e' fun i hi => h (i + 1) (by show i + 1 < cs.length + 1; omega)
    have h0 := h 0 (by show 0 < cs.length + 1; omega)
    have hl := wOf_len (j := j) e'
    unfold valW at ih ⊢
    show sm ((wOf cs ps j).length + 1) _ = _
    rw [sm_sh]
    have ih' : sm (wOf cs ps j).length (sh fun i => vec (wOf (c :: cs) (p :: ps) j) i * ad u v i) = Lb cs (sh u) j - Lb cs (sh v) j := ih
    rw [ih']
    show (if p = true then c.getD j 0 else -c.getD j 0) * (u 0 + v 0) + (Lb cs (sh u) j - Lb cs (sh v) j) = (u 0 * c.getD j 0 + Lb cs (sh u) j) - (v 0 * c.getD j 0 + Lb cs (sh v) j)
    have h0' : if p = true then v 0 = 0 else u 0 = 0 := h0
    by_cases q : p = true
    · rw [if_pos q] at h0' ⊢
      rw [h0']
      grind
    · rw [if_neg q] at h0' ⊢
      rw [h0']
      grind
  | [], _ :: _, _, _, e, _ => by cases e
  | _ :: _, [], _, _, e, _ => by cases e
def upP : List Bool → Row → Int
  | p :: ps, x :: xs => (if p = true then x else 0) + upP ps xs
  | _, _ => 0
theorem up_sm : ∀ {ps : List Bool} {z : Row} {u v : Vec}, ps.length = z.length → vec z = ad u v → (∀ i, i < z.length → if ps.getD i false = true then v i = 0 else u i = 0) → upP ps z = sm z.length u
  | [], [], _, _, _, _, _ => rfl
  | p :: ps, x :: xs, u, v, e, he, h => by
    have ih := up_sm (ps := ps) (z := xs) (u := sh u) (v := sh v) (Nat.succ.inj e) (by
      funext i
      exact congrFun he (i + 1)) fun i hi => h (i + 1) (by show i + 1 < xs.length + 1; omega)
    have h0 : if p = true then v 0 = 0 else u 0 = 0 := h 0 (by show 0 < xs.length + 1; omega)
    have x0 : x = u 0 + v 0 := congrFun he 0
    show (if p = true then x else 0) + upP ps xs = sm (xs.length + 1) u
    rw [ih, sm_sh]
    by_cases q : p = true
    · rw [if_pos q] at h0 ⊢
      omega
    · rw [if_neg q] at h0 ⊢
      omega
  | [], _ :: _, _, _, e, _, _ => by cases e
  | _ :: _, [], _, _, e, _, _ => by cases e
def patN : Nat → List (List Bool)
  | 0 => [[]]
  | n + 1 => (patN n).flatMap fun p => [true :: p, false :: p]
theorem pat_mem : ∀ {n : Nat} {p : List Bool}, p.length = n → p ∈ patN n
  | 0, [], _ => List.mem_singleton.mpr rfl
  | n + 1, b :: p, e => by
    refine List.mem_flatMap.mpr ⟨p, pat_mem (Nat.succ.inj e), ?_⟩
    cases b
    · exact List.mem_cons_of_mem _ (List.mem_singleton.mpr rfl)
    · exact List.mem_cons_self
  | 0, _ :: _, e => by cases e
  | _ + 1, [], e => by cases e
/-- all loads without parts over these columns are small -/
def fewC (cs : List Row) (g D : Nat) : Bool := (patN cs.length).all fun p => match lvls cs.length ((List.range g).map (wOf cs p)) [] (unitsN cs.length) with
  | some Z => Z.all fun z => decide (upP p z ≤ (D : Int))
  | none => false
def unitsG (g : Nat) : List Row := (List.range g).map fun i => unR i g
theorem few_cols {cs : List Row} {g D : Nat} (h : fewC cs g D = true) {u v : Vec} (hu : Ld cs.length u) (hv : Ld cs.length v) (e : ∀ j, j < g → Lb cs u j = Lb cs v j) (ap : ∀ i, u i = 0 ∨ v i = 0) (hne : ∃ i, 0 < ad u v i)
    (np : ∀ a b, Ld cs.length a → Ld cs.length b → Fit a u → Fit b v → (∀ j, j < g → Lb cs a j = Lb cs b j) → (∃ i, 0 < ad a b i) → a = u ∧ b = v) : sm cs.length u ≤ D := by
  let p : List Bool := (List.range cs.length).map fun i => decide (0 < u i)
  have pl : p.length = cs.length := by simp [p]
  have side : ∀ i, i < cs.length → if p.getD i false = true then v i = 0 else u i = 0 := fun i hi => by
    have : p.getD i false = decide (0 < u i) := by
      show ((List.range cs.length).map fun i => decide (0 < u i)).getD i false = _
      rw [List.getD_eq_getElem?_getD, List.getElem?_map, List.getElem?_range hi]
      rfl
    rw [this]
    have := hu.1 i
    by_cases c : 0 < u i
    · rw [if_pos (decide_eq_true c)]
      rcases ap i with q | q
      · omega
      · exact q
    · rw [if_neg (by simpa using c)]
      omega
  have hp := List.all_eq_true.mp h p (pat_mem pl)
  cases hz : lvls cs.length ((List.range g).map (wOf cs p)) [] (unitsN cs.length) with
  | none => rw [hz] at hp; cases hp
  | some Z =>
    rw [hz] at hp
    have hp : (Z.all fun z => decide (upP p z ≤ (D : Int))) = true := hp
    have lw : ∀ w ∈ (List.range g).map (wOf cs p), w.length = cs.length := fun w hw => by
      obtain ⟨j, _, rfl⟩ := List.mem_map.mp hw
      exact wOf_len pl
    obtain ⟨k1, k2, k3⟩ := lvls_ok lw (fun w hw => by cases hw) (fun y hy => by
      obtain ⟨i, hi, rfl⟩ := List.mem_map.mp hy
      exact unR_ok (List.mem_range.mp hi)) (fun x hx => gen_units _ x (Nat.le_refl _) hx.1) (fun y _ w hw => by cases hw) hz
    have lx : Ld cs.length (ad u v) := ⟨fun i => by have := hu.1 i; have := hv.1 i; show 0 ≤ u i + v i; omega, fun i hi => by show u i + v i = 0; rw [hu.2 i hi, hv.2 i hi]; rfl⟩
    obtain ⟨l, hl, el⟩ := k2 (ad u v) lx (fun w hw => by cases hw) (fun w hw => by
      obtain ⟨j, hj, rfl⟩ := List.mem_map.mp hw
      rw [w_val pl side, e j (List.mem_range.mp hj)]
      omega)
    cases l with
    | nil =>
      obtain ⟨i, hi⟩ := hne
      rw [el] at hi
      exact absurd hi (by show ¬ (0 : Int) < 0; omega)
    | cons y r =>
      obtain ⟨z, hzm, hzl, rfl⟩ := hl y List.mem_cons_self
      have zok := row_ld (k1 z hzm)
      have fz : Fit (vec z) (ad u v) := fun i => by
        rw [el]
        have := sumV_nn (l := r) (fun w hw => by
          obtain ⟨z', hz', _, rfl⟩ := hl w (List.mem_cons_of_mem _ hw)
          exact (row_ld (k1 z' hz')).2.1.1) i
        show vec z i ≤ vec z i + sumV r i
        omega
      -- its two sides
      let a : Vec := fun i => if 0 < u i then vec z i else 0
      let b : Vec := fun i => if 0 < u i then 0 else vec z i
      have eab : vec z = ad a b := by
        funext i
        show vec z i = (if 0 < u i then vec z i else 0) + (if 0 < u i then 0 else vec z i)
        split <;> omega
      have la : Ld cs.length a := ⟨fun i => by have := zok.2.1.1 i; show 0 ≤ if 0 < u i then vec z i else 0; split <;> omega, fun i hi => by have := zok.2.1.2 i hi; show (if 0 < u i then vec z i else 0) = 0; split <;> omega⟩
      have lb : Ld cs.length b := ⟨fun i => by have := zok.2.1.1 i; show 0 ≤ if 0 < u i then 0 else vec z i; split <;> omega, fun i hi => by have := zok.2.1.2 i hi; show (if 0 < u i then 0 else vec z i) = 0; split <;> omega⟩
      have fa : Fit a u := fun i => by
        have h1 := fz i
        have h2 : vec z i ≤ u i + v i := h1
        have := hu.1 i
        show (if 0 < u i then vec z i else 0) ≤ u i
        split
        · rcases ap i with q | q <;> omega
        · omega
      have fb : Fit b v := fun i => by
        have h1 := fz i
        have h2 : vec z i ≤ u i + v i := h1
        have := hv.1 i
        have := hu.1 i
        show (if 0 < u i then 0 else vec z i) ≤ v i
        split <;> omega
      have sideZ : ∀ i, i < cs.length → if p.getD i false = true then b i = 0 else a i = 0 := fun i hi => by
        have h1 := side i hi
        have : p.getD i false = decide (0 < u i) := by
          show ((List.range cs.length).map fun i => decide (0 < u i)).getD i false = _
          rw [List.getD_eq_getElem?_getD, List.getElem?_map, List.getElem?_range hi]
          rfl
        rw [this]
        show if decide (0 < u i) = true then (if 0 < u i then 0 else vec z i) = 0 else (if 0 < u i then vec z i else 0) = 0
        by_cases c : 0 < u i
        · rw [if_pos (decide_eq_true c), if_pos c]
        · rw [if_neg (by simpa using c), if_neg c]
      have hbil : ∀ j, j < g → Lb cs a j = Lb cs b j := fun j hj => by
        have h1 := (k3 z hzm).2 (wOf cs p j) (List.mem_map.mpr ⟨j, List.mem_range.mpr hj, rfl⟩)
        rw [valR_eq ((wOf_len pl).trans hzl.symm), eab, w_val pl sideZ] at h1
        omega
      obtain ⟨i, hi⟩ := zok.2.2
      obtain ⟨ea, eb⟩ := np a b la lb fa fb hbil ⟨i, by rw [← eab]; exact hi⟩
      rw [ea, eb] at eab
      have := of_decide_eq_true (List.all_eq_true.mp hp z hzm)
      rw [up_sm (pl.trans hzl.symm) eab (by rw [hzl]; exact side), hzl] at this
      exact this
end BL
end HL

namespace HL
namespace BL
/-! columns told twice, or in another order -/
def push (f : Nat → Nat) (x : Vec) : Nat → Vec
  | 0 => fun _ => 0
  | n + 1 => ad (push f x n) fun t => x n * un (f n) t
theorem push_nn {f : Nat → Nat} {x : Vec} (hx : ∀ i, 0 ≤ x i) : ∀ n t, 0 ≤ push f x n t
  | 0, _ => Int.le_refl _
  | n + 1, t => by
    have h1 := push_nn (f := f) hx n t
    have h2 : 0 ≤ x n * un (f n) t := Int.mul_nonneg (hx n) (by unfold un; split <;> decide)
    show 0 ≤ push f x n t + x n * un (f n) t
    omega
theorem push_out {f : Nat → Nat} {x : Vec} {m : Nat} : ∀ {n : Nat}, (∀ i, i < n → f i < m) → ∀ t, m ≤ t → push f x n t = 0
  | 0, _, _, _ => rfl
  | n + 1, hf, t, ht => by
    have h1 := push_out (x := x) (n := n) (fun i hi => hf i (by omega)) t ht
    have h2 := hf n (by omega)
    show push f x n t + x n * un (f n) t = 0
    rw [h1]
    unfold un
    rw [if_neg (by omega)]
    omega
theorem push_add {f : Nat → Nat} {x y : Vec} : ∀ n, push f (ad x y) n = ad (push f x n) (push f y n)
  | 0 => by
    funext t
    rfl
  | n + 1 => by
    funext t
    have := congrFun (push_add (f := f) (x := x) (y := y) n) t
    show push f (ad x y) n t + (x n + y n) * un (f n) t = (push f x n t + x n * un (f n) t) + (push f y n t + y n * un (f n) t)
    rw [this, Int.add_mul]
    show push f x n t + push f y n t + _ = _
    omega
theorem push_un {f : Nat → Nat} {i : Nat} : ∀ n, push f (un i) n = if i < n then un (f i) else fun _ => 0
  | 0 => by
    rw [if_neg (by omega)]
    rfl
  | n + 1 => by
    funext t
    have ih := congrFun (push_un (f := f) (i := i) n) t
    show push f (un i) n t + un i n * un (f n) t = _
    rw [ih]
    by_cases c : i < n
    · rw [if_pos c, if_pos (by omega)]
      have : un i n = 0 := by unfold un; rw [if_neg (by omega)]
      rw [this]
      omega
    · rw [if_neg c]
      by_cases d : i = n
      · subst d
        rw [if_pos (by omega)]
        have : un i i = 1 := by unfold un; rw [if_pos rfl]
        rw [this]
        show 0 + 1 * un (f i) t = un (f i) t
        omega
      · rw [if_neg (by omega)]
        have : un i n = 0 := by unfold un; rw [if_neg (by omega)]
        rw [this]
        show (0 : Int) + 0 * un (f n) t = 0
        omega
theorem push_lt {f : Nat → Nat} {a u : Vec} {t : Nat} : ∀ {n : Nat}, push f a n t < push f u n t → ∃ i, i < n ∧ f i = t ∧ a i < u i
  | 0, h => by
    have h : (0 : Int) < 0 := h
    omega
  | n + 1, h => by
    by_cases c : push f a n t < push f u n t
    · obtain ⟨i, h1, h2, h3⟩ := push_lt c
      exact ⟨i, by omega, h2, h3⟩
    · have h : push f a n t + a n * un (f n) t < push f u n t + u n * un (f n) t := h
      by_cases d : t = f n
      · refine ⟨n, by omega, d.symm, ?_⟩
        have : un (f n) t = 1 := by unfold un; rw [if_pos d]
        rw [this] at h
        omega
      · have : un (f n) t = 0 := by unfold un; rw [if_neg d]
        rw [this] at h
        omega
theorem sm_cun {c : Int} {t m : Nat} (h : t < m) : sm m (fun i => c * un t i) = c := by
  rw [sm_mul, sm_un1 h, Int.mul_one]
theorem push_sm {f : Nat → Nat} {x : Vec} {m : Nat} : ∀ {n : Nat}, (∀ i, i < n → f i < m) → sm m (push f x n) = sm n x
  | 0, _ => sm_zero
  | n + 1, hf => by
    show sm m (ad (push f x n) fun t => x n * un (f n) t) = sm n x + x n
    rw [sm_add, push_sm fun i hi => hf i (by omega), sm_cun (hf n (by omega))]
theorem Lb_mul {j : Nat} {c : Int} : ∀ {ll : List (List Int)} {x : Vec}, Lb ll (fun i => c * x i) j = c * Lb ll x j
  | [], _ => by
    show (0 : Int) = c * 0
    omega
  | h :: t, x => by
    have ih := Lb_mul (j := j) (c := c) (ll := t) (x := sh x)
    show c * x 0 * h.getD j 0 + Lb t (sh fun i => c * x i) j = c * (x 0 * h.getD j 0 + Lb t (sh x) j)
    have e : (sh fun i => c * x i) = fun i => c * sh x i := rfl
    rw [e, ih, Int.mul_add, Int.mul_assoc]
theorem push_Lb {f : Nat → Nat} {x : Vec} {cs : List Row} {j : Nat} : ∀ {n : Nat}, (∀ i, i < n → f i < cs.length) → Lb cs (push f x n) j = sm n fun i => x i * (cs.getD (f i) []).getD j 0
  | 0, _ => Lb_zero fun _ _ => rfl
  | n + 1, hf => by
    show Lb cs (ad (push f x n) fun t => x n * un (f n) t) j = (sm n fun i => x i * (cs.getD (f i) []).getD j 0) + x n * (cs.getD (f n) []).getD j 0
    rw [Lb_add, push_Lb fun i hi => hf i (by omega), Lb_mul, Lb_un (hf n (by omega))]
theorem Lb_sm {j : Nat} : ∀ {cs : List Row} {x : Vec}, Lb cs x j = sm cs.length fun i => x i * (cs.getD i []).getD j 0
  | [], _ => rfl
  | h :: t, x => by
    have ih := Lb_sm (j := j) (cs := t) (x := sh x)
    show x 0 * h.getD j 0 + Lb t (sh x) j = sm (t.length + 1) _
    rw [sm_sh, ih]
    rfl
/-- a part of what is pushed comes from a part -/
theorem push_part {f : Nat → Nat} {n m : Nat} (hf : ∀ i, i < n → f i < m) {u : Vec} (hu : Ld n u) : ∀ (k : Nat) (a : Vec), (sm m a).toNat ≤ k → Ld m a → Fit a (push f u n) → ∃ a', Ld n a' ∧ Fit a' u ∧ push f a' n = a := by
  intro k
  induction k with
  | zero =>
    intro a hk ha fa
    refine ⟨fun _ => 0, ⟨fun _ => Int.le_refl _, fun _ _ => rfl⟩, hu.1, ?_⟩
    funext t
    have z : push f (fun _ => 0) n t = 0 := by
      have h1 := push_add (f := f) (x := fun _ => 0) (y := fun _ => 0) n
      have e : ad (fun _ => 0) (fun _ => (0 : Int)) = fun _ => (0 : Int) := by funext i; rfl
      rw [e] at h1
      have h2 := congrFun h1 t
      have h3 : push f (fun _ => 0) n t = push f (fun _ => 0) n t + push f (fun _ => 0) n t := h2
      omega
    rw [z]
    by_cases c : t < m
    · have := sm_one (g := m) (x := a) (i := t) (fun i _ => ha.1 i) c
      have := ha.1 t
      omega
    · exact (ha.2 t (by omega)).symm
  | succ k ih =>
    intro a hk ha fa
    by_cases c : ∃ t, 0 < a t
    · obtain ⟨t, ht⟩ := c
      have htm : t < m := by
        refine Classical.byContradiction fun z => ?_
        have := ha.2 t (by omega)
        omega
      have f1 : Fit (un t) a := fun j => by
        unfold un
        by_cases q : j = t
        · rw [if_pos q, q]; omega
        · rw [if_neg q]; exact ha.1 j
      have l := fit_ld (ld_un htm) ha f1
      have h1 : sm m (sb a (un t)) = sm m a - 1 := by rw [sm_sub, sm_un1 htm]
      obtain ⟨a', k1, k2, k3⟩ := ih (sb a (un t)) (by omega) l fun j => by
        have := fa j
        have := (ld_un htm).1 j
        show a j - un t j ≤ push f u n j
        omega
      have hlt : push f a' n t < push f u n t := by
        rw [k3]
        have h2 := fa t
        have h3 : un t t = 1 := by unfold un; rw [if_pos rfl]
        show a t - un t t < push f u n t
        omega
      obtain ⟨i, hi, hfi, hai⟩ := push_lt hlt
      refine ⟨ad a' (un i), ⟨fun j => ?_, fun j hj => ?_⟩, fun j => ?_, ?_⟩
      · have := k1.1 j
        have := (ld_un hi).1 j
        show 0 ≤ a' j + un i j
        omega
      · show a' j + un i j = 0
        rw [k1.2 j hj, (ld_un hi).2 j hj]
        rfl
      · have := k2 j
        show a' j + un i j ≤ u j
        unfold un
        by_cases q : j = i
        · rw [if_pos q, q]; omega
        · rw [if_neg q]; omega
      · rw [push_add, k3, push_un, if_pos hi, hfi]
        funext j
        show a j - un t j + un t j = a j
        omega
    · refine ⟨fun _ => 0, ⟨fun _ => Int.le_refl _, fun _ _ => rfl⟩, hu.1, ?_⟩
      funext t
      have z : push f (fun _ => 0) n t = 0 := by
        have h1 := push_add (f := f) (x := fun _ => 0) (y := fun _ => 0) n
        have e : ad (fun _ => 0) (fun _ => (0 : Int)) = fun _ => (0 : Int) := by funext i; rfl
        rw [e] at h1
        have h2 := congrFun h1 t
        have h3 : push f (fun _ => 0) n t = push f (fun _ => 0) n t + push f (fun _ => 0) n t := h2
        omega
      rw [z]
      have := ha.1 t
      have : ¬ 0 < a t := fun w => c ⟨t, w⟩
      omega
/-- what holds of a set of columns holds of columns out of it -/
theorem few_push {cols cs : List Row} {g D : Nat} (h : fewC cs g D = true) (D1 : 1 ≤ D) {f : Nat → Nat} (hf : ∀ i, i < cols.length → f i < cs.length ∧ cs.getD (f i) [] = cols.getD i []) {u v : Vec} (hu : Ld cols.length u) (hv : Ld cols.length v) (e : ∀ j, j < g → Lb cols u j = Lb cols v j) (hne : ∃ i, 0 < ad u v i)
    (np : ∀ a b, Ld cols.length a → Ld cols.length b → Fit a u → Fit b v → (∀ j, j < g → Lb cols a j = Lb cols b j) → (∃ i, 0 < ad a b i) → a = u ∧ b = v) : sm cols.length u ≤ D := by
  have hf1 : ∀ i, i < cols.length → f i < cs.length := fun i hi => (hf i hi).1
  have lb : ∀ x j, Lb cs (push f x cols.length) j = Lb cols x j := fun x j => by
    rw [push_Lb hf1, Lb_sm]
    exact sm_congr fun i hi => by rw [(hf i hi).2]
  have ldp : ∀ {x}, Ld cols.length x → Ld cs.length (push f x cols.length) := fun {x} hx => ⟨push_nn hx.1 _, push_out hf1⟩
  have z0 : ∀ t, push f (fun _ => 0) cols.length t = 0 := fun t => by
    have h1 := push_add (f := f) (x := fun _ => 0) (y := fun _ => 0) cols.length
    have e : ad (fun _ => 0) (fun _ => (0 : Int)) = fun _ => (0 : Int) := by funext i; rfl
    rw [e] at h1
    have h2 := congrFun h1 t
    have h3 : push f (fun _ => 0) cols.length t = push f (fun _ => 0) cols.length t + push f (fun _ => 0) cols.length t := h2
    omega
  have some_ : ∀ {x : Vec} {t}, 0 < push f x cols.length t → ∃ i, i < cols.length ∧ f i = t ∧ 0 < x i := fun {x t} ht => push_lt (a := fun _ => 0) (by rw [z0]; exact ht)
  by_cases c : ∃ t, 0 < push f u cols.length t ∧ 0 < push f v cols.length t
  · obtain ⟨t, h1, h2⟩ := c
    obtain ⟨i, hi, hfi, hui⟩ := some_ h1
    obtain ⟨i', hi', hfi', hvi⟩ := some_ h2
    have fu : ∀ {x : Vec} {i}, Ld cols.length x → 0 < x i → Fit (un i) x := fun {x i} hx hxi j => by
      unfold un
      by_cases c : j = i
      · rw [if_pos c, c]; omega
      · rw [if_neg c]; exact hx.1 j
    obtain ⟨e1, _⟩ := np (un i) (un i') (ld_un hi) (ld_un hi') (fu hu hui) (fu hv hvi) (fun j hj => by rw [Lb_un hi, Lb_un hi', ← (hf i hi).2, ← (hf i' hi').2, hfi, hfi']) ⟨i, by
      have := (ld_un (n := cols.length) hi').1 i
      show 0 < un i i + un i' i
      have e1 : un i i = 1 := by unfold un; rw [if_pos rfl]
      omega⟩
    rw [← e1, sm_un1 hi]
    omega
  · rw [← push_sm hf1]
    refine few_cols h (ldp hu) (ldp hv) (fun j hj => by rw [lb, lb]; exact e j hj) (fun t => ?_) ?_ fun a b ha hb fa fb eb ⟨t, ht⟩ => ?_
    · have h1 := (ldp hu).1 t
      have h2 := (ldp hv).1 t
      by_cases q : 0 < push f u cols.length t
      · right
        have : ¬ 0 < push f v cols.length t := fun w => c ⟨t, q, w⟩
        omega
      · left
        omega
    · obtain ⟨i, hi⟩ := hne
      have hi : 0 < u i + v i := hi
      have hin : i < cols.length := by
        refine Classical.byContradiction fun z => ?_
        have := hu.2 i (by omega)
        have := hv.2 i (by omega)
        omega
      refine Classical.byContradiction fun no => ?_
      have hz : ∀ t, push f (ad u v) cols.length t = 0 := fun t => by
        rw [push_add]
        have h1 := (ldp hu).1 t
        have h2 := (ldp hv).1 t
        have : ¬ 0 < ad (push f u cols.length) (push f v cols.length) t := fun w => no ⟨t, w⟩
        have h3 : ¬ 0 < push f u cols.length t + push f v cols.length t := this
        show push f u cols.length t + push f v cols.length t = 0
        omega
      have h1 := push_sm (x := ad u v) hf1
      rw [sm_congr (y := fun _ => 0) fun t _ => hz t, sm_zero] at h1
      have h2 := sm_one (g := cols.length) (x := ad u v) (i := i) (fun i _ => by have := hu.1 i; have := hv.1 i; show 0 ≤ u i + v i; omega) hin
      have h3 : u i + v i ≤ _ := h2
      omega
    · obtain ⟨a', k1, k2, k3⟩ := push_part hf1 hu _ a (Nat.le_refl _) ha fa
      obtain ⟨b', l1, l2, l3⟩ := push_part hf1 hv _ b (Nat.le_refl _) hb fb
      have hn : ∃ i, 0 < ad a' b' i := by
        have ht : 0 < a t + b t := ht
        have h1 := ha.1 t
        have h2 := hb.1 t
        by_cases q : 0 < a t
        · rw [← k3] at q
          obtain ⟨i, _, _, hi⟩ := some_ q
          have := l1.1 i
          exact ⟨i, by show 0 < a' i + b' i; omega⟩
        · have q2 : 0 < b t := by omega
          rw [← l3] at q2
          obtain ⟨i, _, _, hi⟩ := some_ q2
          have := k1.1 i
          exact ⟨i, by show 0 < a' i + b' i; omega⟩
      obtain ⟨e1, e2⟩ := np a' b' k1 l1 k2 l2 (fun j hj => by rw [← lb, ← lb, k3, l3]; exact eb j hj) hn
      rw [← k3, ← l3, e1, e2]
      exact ⟨rfl, rfl⟩
end BL
end HL

namespace HL
namespace BL
/-! the laws' plain lots: loads without parts are small -/
theorem Lb_app {j : Nat} : ∀ {ll us : List Row} {x : Vec}, Lb (ll ++ us) x j = Lb ll x j + Lb us (fun i => x (ll.length + i)) j
  | [], us, x => by
    have e : (fun i => x (([] : List Row).length + i)) = x := by
      funext i
      show x (0 + i) = x i
      rw [Nat.zero_add]
    rw [e]
    show Lb us x j = 0 + Lb us x j
    omega
  | h :: t, us, x => by
    have ih := Lb_app (j := j) (ll := t) (us := us) (x := sh x)
    have e : (fun i => sh x (t.length + i)) = fun i => x ((h :: t).length + i) := by
      funext i
      show x (t.length + i + 1) = x (t.length + 1 + i)
      congr 1
      omega
    rw [e] at ih
    show x 0 * h.getD j 0 + Lb (t ++ us) (sh x) j = (x 0 * h.getD j 0 + Lb t (sh x) j) + _
    rw [ih]
    omega
theorem Lb_unit {g j : Nat} (hj : j < g) (x : Vec) : Lb (unitsG g) x j = x j := by
  have hl : (unitsG g).length = g := by unfold unitsG; rw [List.length_map, List.length_range]
  rw [Lb_sm, hl]
  rw [sm_congr (y := fun i => x j * un j i) fun i hi => ?_]
  · exact sm_cun hj
  · have : (unitsG g).getD i [] = unR i g := by
      unfold unitsG
      rw [List.getD_eq_getElem?_getD, List.getElem?_map, List.getElem?_range hi]
      rfl
    rw [this]
    have h2 : (unR i g).getD j 0 = un i j := congrFun (vec_unR hi) j
    rw [h2]
    unfold un
    by_cases c : j = i
    · rw [if_pos c, if_pos c.symm, c]
    · rw [if_neg c, if_neg fun q => c q.symm]
      omega
theorem units_len {g : Nat} : (unitsG g).length = g := by unfold unitsG; rw [List.length_map, List.length_range]
theorem Lb_cols {ll : List Row} {g j : Nat} (hj : j < g) (x : Vec) : Lb (ll ++ unitsG g) x j = Bv ll g x j := by
  rw [Lb_app, Lb_unit hj]
  unfold Bv
  rw [if_pos hj]
def subsK : List Row → Nat → List (List Row)
  | [], _ => [[]]
  | _ :: ks, 0 => subsK ks 0
  | k :: ks, n + 1 => subsK ks (n + 1) ++ (subsK ks n).map fun c => k :: c
theorem subsK_all {p : Row → Bool} : ∀ {ks : List Row} {n : Nat}, (ks.filter p).length ≤ n → ks.filter p ∈ subsK ks n
  | [], n, _ => by
    cases n <;> exact List.mem_singleton.mpr rfl
  | k :: ks, 0, h => by
    by_cases c : p k = true
    · rw [List.filter_cons_of_pos c, List.length_cons] at h
      omega
    · rw [List.filter_cons_of_neg c] at h ⊢
      exact subsK_all h
  | k :: ks, n + 1, h => by
    by_cases c : p k = true
    · rw [List.filter_cons_of_pos c] at h ⊢
      exact List.mem_append_right _ (List.mem_map.mpr ⟨_, subsK_all (by rw [List.length_cons] at h; omega), rfl⟩)
    · rw [List.filter_cons_of_neg c] at h ⊢
      exact List.mem_append_left _ (subsK_all h)
def chkF (g : Nat) (ks : List Row) (n D : Nat) : Bool := (subsK ks n).all fun s => fewC (s ++ unitsG g) g D
theorem nd_le {α : Type} [DecidableEq α] : ∀ {l k : List α}, l.Nodup → (∀ x ∈ l, x ∈ k) → l.length ≤ k.length
  | [], _, _, _ => Nat.zero_le _
  | x :: l, k, nd, h => by
    obtain ⟨n1, n2⟩ := List.nodup_cons.mp nd
    have hx := h x List.mem_cons_self
    have := nd_le (l := l) (k := k.erase x) n2 fun y hy => (List.mem_erase_of_ne (fun e => n1 (by rw [← e]; exact hy))).mpr (h y (List.mem_cons_of_mem _ hy))
    rw [List.length_erase_of_mem hx] at this
    have := List.length_pos_of_mem hx
    rw [List.length_cons]
    omega
/-- a load of something has an amount -/
theorem dg_pos {ll : List Row} {g : Nat} (L : Lot g ll) {x : Vec} (hx : Ld (ll.length + g) x) : 0 ≤ dgv ll g x ∧ (dgv ll g x ≤ 0 → ∀ i, x i = 0) := by
  have h1 := sm_dg (g := g) L hx.1
  have h2 := sm_nn (g := ll.length + g) (x := x) fun i _ => hx.1 i
  refine ⟨by omega, fun h i => ?_⟩
  by_cases c : i < ll.length + g
  · have := sm_one (g := ll.length + g) (x := x) (i := i) (fun i _ => hx.1 i) c
    have := hx.1 i
    omega
  · exact hx.2 i (by omega)
theorem few_lot {ll ks : List Row} {g nk D : Nat} (hk : chkF g ks nk D = true) (knd : ks.Nodup) (D1 : 1 ≤ D) (hlen : ll.length ≤ nk) (hin : ∀ h ∈ ll, h ∈ ks ∨ h ∈ unitsG g) (L : Lot g ll) {u v : Vec} (hu : Ld (ll.length + g) u) (hv : Ld (ll.length + g) v) (e : Bv ll g u = Bv ll g v) (ne : u ≠ v)
    (np : ∀ a b, Ld (ll.length + g) a → Ld (ll.length + g) b → Fit a u → Fit b v → Bv ll g a = Bv ll g b → dgv ll g a < dgv ll g u → a = b) : sm (ll.length + g) u ≤ D := by
  have hfl : (ks.filter fun h => decide (h ∈ ll)).length ≤ nk := Nat.le_trans (nd_le (knd.filter _) fun x hx => of_decide_eq_true (List.mem_filter.mp hx).2) hlen
  have hc := List.all_eq_true.mp hk _ (subsK_all hfl)
  have A := ax (b := fun _ => 0) (mu := fun _ => 0) L
  generalize hcs : (ks.filter fun h => decide (h ∈ ll)) ++ unitsG g = cs at hc
  have cl : (ll ++ unitsG g).length = ll.length + g := by rw [List.length_append, units_len]
  have mem : ∀ h ∈ ll ++ unitsG g, h ∈ cs := fun h hh => by
    rw [← hcs]
    rcases List.mem_append.mp hh with q | q
    · rcases hin h q with k | k
      · exact List.mem_append_left _ (List.mem_filter.mpr ⟨k, decide_eq_true q⟩)
      · exact List.mem_append_right _ k
    · exact List.mem_append_right _ q
  have pick : ∀ i, ∃ t, i < (ll ++ unitsG g).length → t < cs.length ∧ cs.getD t [] = (ll ++ unitsG g).getD i [] := fun i => by
    by_cases c : i < (ll ++ unitsG g).length
    · obtain ⟨t, ht, et⟩ := List.mem_iff_getElem.mp (mem _ (List.getElem_mem c))
      refine ⟨t, fun _ => ⟨ht, ?_⟩⟩
      rw [List.getD_eq_getElem?_getD, List.getD_eq_getElem?_getD, List.getElem?_eq_getElem ht, List.getElem?_eq_getElem c, et]
    · exact ⟨0, fun q => absurd q c⟩
  have hf := fun i => (Classical.choose_spec (pick i))
  rw [← cl] at hu hv np ⊢
  refine few_push (cols := ll ++ unitsG g) (g := g) hc D1 (f := fun i => Classical.choose (pick i)) (fun i hi => hf i hi) hu hv (fun j hj => by rw [Lb_cols hj, Lb_cols hj, e]) ?_ fun a b ha hb fa fb eb hab => ?_
  · refine Classical.byContradiction fun no => ne (funext fun i => ?_)
    have h1 := hu.1 i
    have h2 := hv.1 i
    have : ¬ 0 < ad u v i := fun z => no ⟨i, z⟩
    have h3 : ¬ 0 < u i + v i := this
    omega
  · have eB : Bv ll g a = Bv ll g b := by
      funext j
      by_cases c : j < g
      · rw [← Lb_cols c, ← Lb_cols c]
        exact eb j c
      · unfold Bv
        rw [if_neg c, if_neg c]
    have eda := A.dB _ _ eB
    have edu := A.dB _ _ e
    have la := fit_ld ha hu fa
    have lb := fit_ld hb hv fb
    have d1 := A.dsb u a
    have d2 := A.dsb v b
    rw [cl] at ha hb la lb
    by_cases lt : dgv ll g a < dgv ll g u
    · exfalso
      rw [cl] at np
      have e1 := np a b ha hb fa fb eB lt
      have p1 : 0 < dgv ll g a := by
        refine Classical.byContradiction fun z => ?_
        have z1 := (dg_pos L ha).2 (by omega)
        have z2 := (dg_pos L hb).2 (by omega)
        obtain ⟨i, hi⟩ := hab
        have hi : 0 < a i + b i := hi
        rw [z1 i, z2 i] at hi
        omega
      have e2 := np (sb u a) (sb v b) la lb (fun x => by have := ha.1 x; show u x - a x ≤ u x; omega) (fun x => by have := hb.1 x; show v x - b x ≤ v x; omega) (by rw [Bv_sub, Bv_sub, e, eB]) (by omega)
      refine ne (funext fun x => ?_)
      have h1 : u x - a x = v x - b x := congrFun e2 x
      have h2 := congrFun e1 x
      omega
    · have z1 := (dg_pos L la).2 (by omega)
      have z2 := (dg_pos L lb).2 (by omega)
      refine ⟨funext fun x => ?_, funext fun x => ?_⟩
      · have h1 : u x - a x = 0 := z1 x
        omega
      · have h1 : v x - b x = 0 := z2 x
        omega
end BL
end HL

namespace HL
namespace GR
open BL (Vec ad sb un sumV)
/-! the least rows of a lattice, place by place: sums of opposite pairs, by size -/
def Cf (P : Nat) (y x : Vec) : Prop := ∀ i, i < P → (0 ≤ y i ∧ y i ≤ x i) ∨ (x i ≤ y i ∧ y i ≤ 0)
def EqP (P : Nat) (x y : Vec) : Prop := ∀ i, i < P → x i = y i
def Nz (P : Nat) (x : Vec) : Prop := ∃ i, i < P ∧ x i ≠ 0
/-- the size of the first p numbers -/
def sz : Nat → Vec → Nat
  | 0, _ => 0
  | p + 1, x => sz p x + (x p).natAbs
def ng (x : Vec) : Vec := fun i => -x i
def Orth (s : Vec) (p : Nat) (x : Vec) : Prop := ∀ i, i < p → 0 ≤ s i * x i
def Sgn (s : Vec) : Prop := ∀ i, s i = 1 ∨ s i = -1
def msr (p : Nat) : List Vec → Nat
  | [] => 0
  | h :: l => (h p).natAbs + msr p l
theorem Cf.mono {P Q : Nat} {y x : Vec} (h : Cf P y x) (le : Q ≤ P) : Cf Q y x := fun i hi => h i (by omega)
theorem Cf.trans {P : Nat} {z y x : Vec} (h : Cf P z y) (g : Cf P y x) : Cf P z x := fun i hi => by
  have := h i hi
  have := g i hi
  omega
theorem Cf.congr {P : Nat} {y x x' : Vec} (h : Cf P y x) (e : EqP P x x') : Cf P y x' := fun i hi => by
  rw [← e i hi]
  exact h i hi
theorem sz_congr {x y : Vec} : ∀ {p : Nat}, EqP p x y → sz p x = sz p y
  | 0, _ => rfl
  | p + 1, e => by
    unfold sz
    rw [sz_congr (p := p) fun i hi => e i (by omega), e p (by omega)]
theorem sz_cf {y x : Vec} : ∀ {p : Nat}, Cf p y x → sz p y + sz p (sb x y) = sz p x
  | 0, _ => rfl
  | p + 1, h => by
    have ih := sz_cf (p := p) (h.mono (by omega))
    have := h p (by omega)
    unfold sz
    have e : (sb x y) p = x p - y p := rfl
    rw [e]
    omega
theorem sz_zero {x : Vec} : ∀ {p : Nat}, sz p x = 0 → ∀ i, i < p → x i = 0
  | 0, _, i, hi => by omega
  | p + 1, h, i, hi => by
    unfold sz at h
    by_cases c : i = p
    · subst c
      omega
    · exact sz_zero (p := p) (by omega) i (by omega)
theorem sz_none {x : Vec} : ∀ {p : Nat}, (∀ i, i < p → x i = 0) → sz p x = 0
  | 0, _ => rfl
  | p + 1, h => by
    unfold sz
    rw [sz_none (p := p) fun i hi => h i (by omega), h p (by omega)]
    rfl
theorem sgn_mul {s : Vec} (S : Sgn s) {i : Nat} {x : Int} : 0 ≤ s i * x ↔ (s i = 1 ∧ 0 ≤ x) ∨ (s i = -1 ∧ x ≤ 0) := by
  rcases S i with h | h <;> rw [h] <;> omega
theorem Orth.ad {s : Vec} (S : Sgn s) {p : Nat} {x y : Vec} (hx : Orth s p x) (hy : Orth s p y) : Orth s p (ad x y) := fun i hi => by
  have h1 := (sgn_mul S).mp (hx i hi)
  have h2 := (sgn_mul S).mp (hy i hi)
  refine (sgn_mul S).mpr ?_
  show _ ∧ 0 ≤ x i + y i ∨ _ ∧ x i + y i ≤ 0
  omega
theorem Orth.cf {s : Vec} (S : Sgn s) {p : Nat} {x y : Vec} (hx : Orth s p x) (h : Cf p y x) : Orth s p y ∧ Orth s p (sb x y) := by
  refine ⟨fun i hi => ?_, fun i hi => ?_⟩
  · have h1 := (sgn_mul S).mp (hx i hi)
    have h2 := h i hi
    refine (sgn_mul S).mpr ?_
    omega
  · have h1 := (sgn_mul S).mp (hx i hi)
    have h2 := h i hi
    refine (sgn_mul S).mpr ?_
    show _ ∧ 0 ≤ x i - y i ∨ _ ∧ x i - y i ≤ 0
    omega
theorem Orth.congr {s : Vec} {p : Nat} {x y : Vec} (hx : Orth s p x) (e : EqP p x y) : Orth s p y := fun i hi => by
  rw [← e i hi]
  exact hx i hi
theorem sz_orth {s : Vec} (S : Sgn s) {x y : Vec} : ∀ {p : Nat}, Orth s p x → Orth s p y → sz p (ad x y) = sz p x + sz p y
  | 0, _, _ => rfl
  | p + 1, hx, hy => by
    have ih := sz_orth S (p := p) (fun i hi => hx i (by omega)) fun i hi => hy i (by omega)
    have h1 := (sgn_mul S).mp (hx p (by omega))
    have h2 := (sgn_mul S).mp (hy p (by omega))
    unfold sz
    have e : (ad x y) p = x p + y p := rfl
    rw [ih, e]
    omega
theorem Orth.sum {s : Vec} (S : Sgn s) {p : Nat} : ∀ {l : List Vec}, (∀ h ∈ l, Orth s p h) → Orth s p (sumV l)
  | [], _ => fun i _ => by show 0 ≤ s i * 0; omega
  | h :: l, hh => (hh h List.mem_cons_self).ad S (Orth.sum S fun w hw => hh w (List.mem_cons_of_mem _ hw))
/-! ### lists of rows -/
theorem sum_perm {l r : List Vec} (h : l.Perm r) : sumV l = sumV r := by
  induction h with
  | nil => rfl
  | cons x _ ih => show ad x _ = ad x _; rw [ih]
  | swap x y l =>
    show ad y (ad x (sumV l)) = ad x (ad y (sumV l))
    rw [← BL.ad_assoc, ← BL.ad_assoc, BL.ad_comm x y]
  | trans _ _ h1 h2 => exact h1.trans h2
theorem msr_perm {p : Nat} {l r : List Vec} (h : l.Perm r) : msr p l = msr p r := by
  induction h with
  | nil => rfl
  | cons x _ ih => show _ + _ = _ + _; rw [ih]
  | swap x y l => show (y p).natAbs + ((x p).natAbs + msr p l) = (x p).natAbs + ((y p).natAbs + msr p l); omega
  | trans _ _ h1 h2 => exact h1.trans h2
theorem perm_mem {α : Type} {a : α} {l : List α} (h : a ∈ l) : ∃ r, l.Perm (a :: r) := by
  obtain ⟨s, t, rfl⟩ := List.append_of_mem h
  exact ⟨s ++ t, List.perm_middle⟩
theorem sum_app : ∀ {l r : List Vec}, sumV (l ++ r) = ad (sumV l) (sumV r)
  | [], r => by
    funext i
    show sumV r i = 0 + sumV r i
    omega
  | x :: l, r => by
    show ad x (sumV (l ++ r)) = ad (ad x (sumV l)) (sumV r)
    rw [sum_app, BL.ad_assoc]
theorem msr_app {p : Nat} : ∀ {l r : List Vec}, msr p (l ++ r) = msr p l + msr p r
  | [], r => by
    show msr p r = 0 + msr p r
    omega
  | x :: l, r => by
    show (x p).natAbs + msr p (l ++ r) = (x p).natAbs + msr p l + msr p r
    rw [msr_app]
    omega
theorem sum_rep {v : Vec} {i : Nat} : ∀ {n : Nat}, sumV (List.replicate n v) i = (n : Int) * v i
  | 0 => by
    show (0 : Int) = ((0 : Nat) : Int) * v i
    simp
  | n + 1 => by
    show v i + sumV (List.replicate n v) i = _
    rw [sum_rep, Int.natCast_add, Int.add_mul]
    omega
theorem msr_rep {v : Vec} {p : Nat} : ∀ {n : Nat}, msr p (List.replicate n v) = n * (v p).natAbs
  | 0 => by
    show 0 = 0 * _
    omega
  | n + 1 => by
    show (v p).natAbs + msr p (List.replicate n v) = _
    rw [msr_rep, Nat.add_mul]
    omega
/-- all on one side of a place: each conforms to the sum there -/
theorem side_up {i : Nat} : ∀ {l : List Vec}, (∀ h ∈ l, 0 ≤ h i) → 0 ≤ sumV l i ∧ msr i l = (sumV l i).natAbs ∧ ∀ h ∈ l, h i ≤ sumV l i
  | [], _ => ⟨Int.le_refl _, rfl, fun h hh => by cases hh⟩
  | x :: l, hh => by
    obtain ⟨h1, h2, h3⟩ := side_up (l := l) fun w hw => hh w (List.mem_cons_of_mem _ hw)
    have hx := hh x List.mem_cons_self
    have e : sumV (x :: l) i = x i + sumV l i := rfl
    rw [e]
    refine ⟨by omega, ?_, fun h hm => ?_⟩
    · show (x i).natAbs + msr i l = _
      omega
    · rcases List.mem_cons.mp hm with q | q
      · rw [q]; omega
      · have := h3 h q
        omega
theorem side_dn {i : Nat} : ∀ {l : List Vec}, (∀ h ∈ l, h i ≤ 0) → sumV l i ≤ 0 ∧ msr i l = (sumV l i).natAbs ∧ ∀ h ∈ l, sumV l i ≤ h i
  | [], _ => ⟨Int.le_refl _, rfl, fun h hh => by cases hh⟩
  | x :: l, hh => by
    obtain ⟨h1, h2, h3⟩ := side_dn (l := l) fun w hw => hh w (List.mem_cons_of_mem _ hw)
    have hx := hh x List.mem_cons_self
    have e : sumV (x :: l) i = x i + sumV l i := rfl
    rw [e]
    refine ⟨by omega, ?_, fun h hm => ?_⟩
    · show (x i).natAbs + msr i l = _
      omega
    · rcases List.mem_cons.mp hm with q | q
      · rw [q]; omega
      · have := h3 h q
        omega
/-- rows that conform to their sum: their size at a place is the sum's -/
theorem msr_cf {p : Nat} {x : Vec} {l : List Vec} (h : ∀ w ∈ l, Cf (p + 1) w x) (e : EqP (p + 1) x (sumV l)) : msr p l = (x p).natAbs := by
  have ep := e p (by omega)
  by_cases c : 0 ≤ x p
  · have := side_up (i := p) (l := l) fun w hw => by
      have := h w hw p (by omega)
      omega
    rw [ep]
    exact this.2.1
  · have := side_dn (i := p) (l := l) fun w hw => by
      have := h w hw p (by omega)
      omega
    rw [ep]
    exact this.2.1
/-! ### what is completed -/
structure Sys (L : Vec → Prop) (p : Nat) (f s : Vec) (F : Vec → Prop) : Prop where
  sg : Sgn s
  add : ∀ x y, L x → L y → L (ad x y)
  sub : ∀ x y, L x → L y → L (sb x y)
  fL : L f
  f0 : ∀ i, i < p → f i = 0
  fp : 0 ≤ f p
  fdv : ∀ x, L x → (∀ i, i < p → x i = 0) → f p ∣ x p
  FL : ∀ h, F h → L h ∧ Orth s p h ∧ Nz (p + 1) h
  Ff : 0 < f p → F f ∧ F (ng f)
  mem : ∀ x, L x → Orth s p x → Nz p x → ∃ r, F r ∧ Cf p r x ∧ Nz p r
/-- a pair's sum, trimmed, is nought or has a told row in it -/
def Han (p : Nat) (f : Vec) (F : Vec → Prop) (a b : Vec) : Prop := ∃ (c : Int) (t : Vec), (∀ i, t i = a i + b i - c * f i) ∧ (0 < f p → (t p).natAbs < (f p).natAbs) ∧ (t p).natAbs + c.natAbs * (f p).natAbs = (a p + b p).natAbs ∧ (¬ Nz (p + 1) t ∨ ∃ r, F r ∧ Cf (p + 1) r t)
def ConfS (p : Nat) (F : Vec → Prop) (x : Vec) : Prop := ∃ l : List Vec, (∀ h ∈ l, F h ∧ Cf (p + 1) h x) ∧ EqP (p + 1) x (sumV l)
section
variable {L : Vec → Prop} {p : Nat} {f s : Vec} {F : Vec → Prop}
/-- so many times the fresh row -/
theorem cop (Y : Sys L p f s F) (c : Int) : ∃ l : List Vec, (∀ h ∈ l, F h) ∧ (∀ i, i < p + 1 → sumV l i = c * f i) ∧ msr p l = c.natAbs * (f p).natAbs := by
  by_cases h0 : 0 < f p
  · obtain ⟨F1, F2⟩ := Y.Ff h0
    by_cases hc : 0 ≤ c
    · refine ⟨List.replicate c.toNat f, fun h hh => by rw [List.eq_of_mem_replicate hh]; exact F1, fun i _ => ?_, ?_⟩
      · rw [sum_rep, Int.toNat_of_nonneg hc]
      · rw [msr_rep, show c.toNat = c.natAbs by omega]
    · refine ⟨List.replicate (-c).toNat (ng f), fun h hh => by rw [List.eq_of_mem_replicate hh]; exact F2, fun i _ => ?_, ?_⟩
      · rw [sum_rep, Int.toNat_of_nonneg (by omega)]
        show -c * -f i = c * f i
        rw [Int.neg_mul_neg]
      · rw [msr_rep, show (-c).toNat = c.natAbs by omega]
        show _ * (-f p).natAbs = _
        rw [Int.natAbs_neg]
  · have e : f p = 0 := by have := Y.fp; omega
    refine ⟨[], (fun h hh => by cases hh), fun i hi => ?_, ?_⟩
    · have : f i = 0 := by
        by_cases c : i = p
        · rw [c]; exact e
        · exact Y.f0 i (by omega)
      rw [this]
      show (0 : Int) = c * 0
      omega
    · rw [e]
      show 0 = c.natAbs * 0
      omega
/-- each row of the lattice is a sum of what was there -/
theorem rep (Y : Sys L p f s F) : ∀ (n : Nat) (x : Vec), sz p x ≤ n → L x → Orth s p x → ∃ l : List Vec, (∀ h ∈ l, F h) ∧ EqP (p + 1) x (sumV l)
  | n, x, hn, hL, hO => by
    by_cases c : Nz p x
    · obtain ⟨r, hr, cf, nz⟩ := Y.mem x hL hO c
      have h1 := sz_cf cf
      have h2 : sz p r ≠ 0 := fun z => by
        obtain ⟨i, hi, hx⟩ := nz
        exact hx (sz_zero z i hi)
      match n, hn with
      | 0, hn => omega
      | n + 1, hn =>
        obtain ⟨l, l1, l2⟩ := rep Y n (sb x r) (by omega) (Y.sub _ _ hL (Y.FL r hr).1) (hO.cf Y.sg cf).2
        refine ⟨r :: l, fun h hh => ?_, fun i hi => ?_⟩
        · rcases List.mem_cons.mp hh with e | e
          · rw [e]; exact hr
          · exact l1 h e
        · have := l2 i hi
          have e : sb x r i = x i - r i := rfl
          show x i = r i + sumV l i
          omega
    · have z : ∀ i, i < p → x i = 0 := fun i hi => Classical.byContradiction fun h => c ⟨i, hi, h⟩
      obtain ⟨c, hc⟩ := Y.fdv x hL z
      obtain ⟨l, l1, l2, _⟩ := cop Y c
      refine ⟨l, l1, fun i hi => ?_⟩
      rw [l2 i hi]
      by_cases q : i = p
      · rw [q, hc, Int.mul_comm]
      · rw [z i (by omega), Y.f0 i (by omega)]
        omega
theorem inner (Y : Sys L p f s F) {k : Nat} (H : ∀ a b, F a → F b → 0 < a p → b p < 0 → sz p a + sz p b < k → Han p f F a b) {x : Vec} (hk : sz p x < k) (ih : ∀ y, L y → Orth s p y → sz p y < sz p x → ConfS p F y) : ∀ (m : Nat) (l : List Vec), (∀ h ∈ l, F h) → EqP (p + 1) x (sumV l) → msr p l ≤ m → ConfS p F x
  | m, l, hF, he, hm => by
    have hOl : ∀ h ∈ l, Orth s p h := fun h hh => (Y.FL h (hF h hh)).2.1
    by_cases opp : ∃ a b, a ∈ l ∧ b ∈ l ∧ 0 < a p ∧ b p < 0
    · obtain ⟨a, b, ha, hb, a0, b0⟩ := opp
      obtain ⟨l1, p1⟩ := perm_mem ha
      have hb1 : b ∈ l1 := by
        rcases List.mem_cons.mp (p1.mem_iff.mp hb) with e | e
        · rw [e] at b0; omega
        · exact e
      obtain ⟨r, p2⟩ := perm_mem hb1
      have pp : l.Perm (a :: b :: r) := p1.trans (p2.cons a)
      have hr : ∀ h ∈ r, F h := fun h hh => hF h (pp.mem_iff.mpr (List.mem_cons_of_mem _ (List.mem_cons_of_mem _ hh)))
      have Oa := hOl a ha
      have Ob := hOl b hb
      have Or_ : Orth s p (sumV r) := Orth.sum Y.sg fun h hh => (Y.FL h (hr h hh)).2.1
      have es : ∀ i, sumV l i = a i + b i + sumV r i := fun i => by
        rw [sum_perm pp]
        show a i + (b i + sumV r i) = _
        omega
      have em : msr p l = (a p).natAbs + ((b p).natAbs + msr p r) := by rw [msr_perm pp]; rfl
      have sab : sz p (ad a b) = sz p a + sz p b := sz_orth Y.sg Oa Ob
      have sx : sz p x = sz p a + sz p b + sz p (sumV r) := by
        rw [sz_congr (p := p) (x := x) (y := ad (ad a b) (sumV r)) fun i hi => by
          rw [he i (by omega), es i]
          rfl]
        rw [sz_orth Y.sg (Oa.ad Y.sg Ob) Or_, sab]
      obtain ⟨c, t, ht, htf, htm, hcase⟩ := H a b (hF a ha) (hF b hb) a0 b0 (by omega)
      obtain ⟨lc, c1, c2, c3⟩ := cop Y c
      have hlt : (t p).natAbs + c.natAbs * (f p).natAbs < (a p).natAbs + (b p).natAbs := by omega
      have tab : EqP p t (ad a b) := fun i hi => by
        rw [ht i, Y.f0 i hi]
        show a i + b i - c * 0 = a i + b i
        omega
      match m, hm with
      | 0, hm => omega
      | m + 1, hm =>
        rcases hcase with hz | ⟨r0, hr0, cf0⟩
        · have tz : ∀ i, i < p + 1 → t i = 0 := fun i hi => Classical.byContradiction fun h => hz ⟨i, hi, h⟩
          refine inner Y H hk ih m (lc ++ r) (fun h hh => (List.mem_append.mp hh).elim (c1 h) (hr h)) (fun i hi => ?_) ?_
          · rw [he i hi, es i, sum_app]
            show _ = sumV lc i + sumV r i
            have h1 := c2 i hi
            have h2 := ht i
            have h3 := tz i hi
            omega
          · rw [msr_app, c3]
            omega
        · have O0 : Orth s p t := (Oa.ad Y.sg Ob).congr fun i hi => (tab i hi).symm
          have Lt : L t := by
            have hcf : ∀ n : Nat, L (fun i => ((n : Nat) : Int) * f i) := fun n => by
              induction n with
              | zero =>
                have := Y.sub _ _ Y.fL Y.fL
                have e : sb f f = fun i => ((0 : Nat) : Int) * f i := funext fun i => by
                  show f i - f i = ((0 : Nat) : Int) * f i
                  simp
                rwa [e] at this
              | succ n ihn =>
                have := Y.add _ _ ihn Y.fL
                have e : ad (fun i => ((n : Nat) : Int) * f i) f = fun i => ((n + 1 : Nat) : Int) * f i := funext fun i => by
                  show ((n : Nat) : Int) * f i + f i = ((n + 1 : Nat) : Int) * f i
                  rw [Int.natCast_add, Int.add_mul]
                  omega
                rwa [e] at this
            have hab := Y.add _ _ (Y.FL a (hF a ha)).1 (Y.FL b (hF b hb)).1
            by_cases hc : 0 ≤ c
            · have := Y.sub _ _ hab (hcf c.toNat)
              have e : sb (ad a b) (fun i => ((c.toNat : Nat) : Int) * f i) = t := funext fun i => by
                show a i + b i - ((c.toNat : Nat) : Int) * f i = t i
                rw [Int.toNat_of_nonneg hc, ht i]
              rwa [e] at this
            · have := Y.add _ _ hab (hcf (-c).toNat)
              have e : ad (ad a b) (fun i => (((-c).toNat : Nat) : Int) * f i) = t := funext fun i => by
                show a i + b i + (((-c).toNat : Nat) : Int) * f i = t i
                rw [Int.toNat_of_nonneg (by omega), ht i, Int.neg_mul]
                omega
              rwa [e] at this
          have F0 := Y.FL r0 hr0
          have s0 : sz p r0 ≠ 0 := fun z => by
            have z0 := sz_zero z
            obtain ⟨i, hi, hx⟩ := F0.2.2
            have ei : i = p := Classical.byContradiction fun q => hx (z0 i (by omega))
            subst ei
            have hd := Y.fdv r0 F0.1 z0
            have h1 := cf0 i (by omega)
            have fpos : 0 < f i := by
              have := Y.fp
              refine Classical.byContradiction fun q => ?_
              have : f i = 0 := by omega
              rw [this] at hd
              exact hx (Int.zero_dvd.mp hd)
            have h2 := htf fpos
            have h3 : (f i).natAbs ≤ (r0 i).natAbs := Nat.le_of_dvd (by omega) (Int.natAbs_dvd_natAbs.mpr hd)
            omega
          have cf0' := cf0.mono (Nat.le_succ p)
          have h1 := sz_cf cf0'
          have h2 : sz p t = sz p a + sz p b := by rw [sz_congr tab, sab]
          obtain ⟨l2, q1, q2⟩ := ih (sb t r0) (Y.sub _ _ Lt F0.1) (O0.cf Y.sg cf0').2 (by omega)
          have hm2 := msr_cf (fun w hw => (q1 w hw).2) q2
          have e2 : (sb t r0) p = t p - r0 p := rfl
          rw [e2] at hm2
          refine inner Y H hk ih m (r0 :: (l2 ++ (lc ++ r))) (fun h hh => ?_) (fun i hi => ?_) ?_
          · rcases List.mem_cons.mp hh with e | e
            · rw [e]; exact hr0
            · rcases List.mem_append.mp e with e | e
              · exact (q1 h e).1
              · exact (List.mem_append.mp e).elim (c1 h) (hr h)
          · rw [he i hi, es i]
            show _ = r0 i + sumV (l2 ++ (lc ++ r)) i
            rw [sum_app, sum_app]
            show _ = r0 i + (sumV l2 i + (sumV lc i + sumV r i))
            have h3 := q2 i hi
            have e3 : sb t r0 i = t i - r0 i := rfl
            have h4 := c2 i hi
            have h5 := ht i
            omega
          · show (r0 p).natAbs + msr p (l2 ++ (lc ++ r)) ≤ m
            rw [msr_app, msr_app, hm2, c3]
            have := cf0 p (by omega)
            omega
    · refine ⟨l, fun h hh => ⟨hF h hh, fun i hi => ?_⟩, he⟩
      rw [he i hi]
      by_cases q : i = p
      · subst q
        by_cases up : ∃ a ∈ l, 0 < a i
        · obtain ⟨a, ha, a0⟩ := up
          have h0 : ∀ w ∈ l, 0 ≤ w i := fun w hw => by
            refine Classical.byContradiction fun z => opp ⟨a, w, ha, hw, a0, by omega⟩
          exact .inl ⟨h0 h hh, (side_up h0).2.2 h hh⟩
        · have h0 : ∀ w ∈ l, w i ≤ 0 := fun w hw => by
            refine Classical.byContradiction fun z => up ⟨w, hw, by omega⟩
          exact .inr ⟨(side_dn h0).2.2 h hh, h0 h hh⟩
      · have hi' : i < p := by omega
        rcases Y.sg i with h1 | h1
        · have h0 : ∀ w ∈ l, 0 ≤ w i := fun w hw => by
            have := hOl w hw i hi'
            rw [h1] at this
            omega
          exact .inl ⟨h0 h hh, (side_up h0).2.2 h hh⟩
        · have h0 : ∀ w ∈ l, w i ≤ 0 := fun w hw => by
            have := hOl w hw i hi'
            rw [h1] at this
            omega
          exact .inr ⟨(side_dn h0).2.2 h hh, h0 h hh⟩
/-- where all opposite pairs up to a size are handled, all rows below that size are conforming sums -/
theorem comp (Y : Sys L p f s F) {k : Nat} (H : ∀ a b, F a → F b → 0 < a p → b p < 0 → sz p a + sz p b < k → Han p f F a b) : ∀ (n : Nat) (x : Vec), sz p x ≤ n → L x → Orth s p x → sz p x < k → ConfS p F x
  | n, x, hn, hL, hO, hk => by
    obtain ⟨l, l1, l2⟩ := rep Y _ x (Nat.le_refl _) hL hO
    refine inner Y H hk (fun y hy hOy hs => ?_) _ l l1 l2 (Nat.le_refl _)
    match n, hn with
    | 0, hn => omega
    | n + 1, hn => exact comp Y H n y (by omega) hy hOy (by omega)
theorem ConfS.has {x : Vec} (h : ConfS p F x) (nz : Nz (p + 1) x) : ∃ r, F r ∧ Cf (p + 1) r x := by
  obtain ⟨l, h1, h2⟩ := h
  obtain ⟨i, hi, hx⟩ := nz
  cases l with
  | nil =>
    have := h2 i hi
    exact absurd this hx
  | cons a l => exact ⟨a, h1 a List.mem_cons_self⟩
/-- a row is least: what conforms to it is it, up to the place -/
def Least (L : Vec → Prop) (P : Nat) (x : Vec) : Prop := ∀ y, L y → Nz P y → Cf P y x → EqP P y x
/-- a new sum is least -/
theorem new_least (Y : Sys L p f s F) {k : Nat} (H : ∀ a b, F a → F b → 0 < a p → b p < 0 → sz p a + sz p b < k → Han p f F a b) {t : Vec} (hL : L t) (hO : Orth s p t) (hk : sz p t ≤ k) (htf : 0 < f p → (t p).natAbs < (f p).natAbs) (hn : ∀ r, F r → ¬ Cf (p + 1) r t) : Least L (p + 1) t := by
  intro y hy nz cf
  have cfp := cf.mono (Nat.le_succ p)
  have h1 := sz_cf cfp
  have Oy := hO.cf Y.sg cfp
  by_cases c : sz p y < k
  · obtain ⟨r, hr, cr⟩ := (comp Y H _ y (Nat.le_refl _) hy Oy.1 c).has nz
    exact absurd (cr.trans cf) (hn r hr)
  · have z := sz_zero (show sz p (sb t y) = 0 by omega)
    have hd := Y.fdv _ (Y.sub _ _ hL hy) z
    have e : sb t y p = t p - y p := rfl
    rw [e] at hd
    intro i hi
    by_cases q : i = p
    · subst q
      have hc := cf i (by omega)
      by_cases fz : f i = 0
      · rw [fz] at hd
        have := Int.zero_dvd.mp hd
        omega
      · have h2 := htf (by have := Y.fp; omega)
        refine Classical.byContradiction fun ne => ?_
        have h3 : (f i).natAbs ≤ (t i - y i).natAbs := Nat.le_of_dvd (by omega) (Int.natAbs_dvd_natAbs.mpr hd)
        omega
    · have := z i (by omega)
      have e2 : sb t y i = t i - y i := rfl
      omega
/-- what was least ahead of the place, taken below the fresh row there, is least -/
theorem old_least (Y : Sys L p f s F) {r : Vec} (hL : L r) (h0 : Least L p r) (hr : 0 < f p → (r p).natAbs < (f p).natAbs) : Least L (p + 1) r := by
  intro y hy nz cf
  have cfp := cf.mono (Nat.le_succ p)
  have hc := cf p (by omega)
  by_cases c : Nz p y
  · have e := h0 y hy c cfp
    have z : ∀ i, i < p → sb r y i = 0 := fun i hi => by
      have := e i hi
      show r i - y i = 0
      omega
    have hd := Y.fdv _ (Y.sub _ _ hL hy) z
    have e1 : sb r y p = r p - y p := rfl
    rw [e1] at hd
    intro i hi
    by_cases q : i = p
    · subst q
      by_cases fz : f i = 0
      · rw [fz] at hd
        have := Int.zero_dvd.mp hd
        omega
      · have h2 := hr (by have := Y.fp; omega)
        refine Classical.byContradiction fun ne => ?_
        have h3 : (f i).natAbs ≤ (r i - y i).natAbs := Nat.le_of_dvd (by omega) (Int.natAbs_dvd_natAbs.mpr hd)
        omega
    · exact e i (by omega)
  · exfalso
    have z : ∀ i, i < p → y i = 0 := fun i hi => Classical.byContradiction fun h => c ⟨i, hi, h⟩
    obtain ⟨i, hi, hx⟩ := nz
    have ei : i = p := Classical.byContradiction fun q => hx (z i (by omega))
    subst ei
    have hd := Y.fdv y hy z
    by_cases fz : f i = 0
    · rw [fz] at hd
      exact hx (Int.zero_dvd.mp hd)
    · have h2 := hr (by have := Y.fp; omega)
      have h3 : (f i).natAbs ≤ (y i).natAbs := Nat.le_of_dvd (by omega) (Int.natAbs_dvd_natAbs.mpr hd)
      omega
/-- the fresh row is least -/
theorem fresh_least (Y : Sys L p f s F) (h : 0 < f p) : Least L (p + 1) f := by
  intro y hy nz cf
  have z : ∀ i, i < p → y i = 0 := fun i hi => by
    have := cf i (by omega)
    have := Y.f0 i hi
    omega
  obtain ⟨i, hi, hx⟩ := nz
  have ei : i = p := Classical.byContradiction fun q => hx (z i (by omega))
  subst ei
  have hd := Y.fdv y hy z
  have h3 : (f i).natAbs ≤ (y i).natAbs := Nat.le_of_dvd (by omega) (Int.natAbs_dvd_natAbs.mpr hd)
  have hc := cf i (by omega)
  intro j hj
  by_cases q : j = i
  · subst q
    omega
  · rw [z j (by omega), Y.f0 j (by omega)]
end
end GR
end HL

namespace HL
namespace GR
open BL (Vec ad sb un sumV)
/-! one place more: from what is least ahead of a place to what is least up to it -/
theorem ng_ng (x : Vec) : ng (ng x) = x := funext fun i => by
  show - -x i = x i
  omega
theorem Cf.ng {P : Nat} {y x : Vec} (h : Cf P y x) : Cf P (ng y) (ng x) := fun i hi => by
  have := h i hi
  show (0 ≤ -y i ∧ -y i ≤ -x i) ∨ (-x i ≤ -y i ∧ -y i ≤ 0)
  omega
theorem Nz.ng {P : Nat} {x : Vec} (h : Nz P x) : Nz P (ng x) := by
  obtain ⟨i, hi, e⟩ := h
  exact ⟨i, hi, by show -x i ≠ 0; omega⟩
theorem Nz.congr {P : Nat} {x y : Vec} (h : Nz P x) (e : EqP P x y) : Nz P y := by
  obtain ⟨i, hi, hx⟩ := h
  exact ⟨i, hi, by rw [← e i hi]; exact hx⟩
theorem Nz.mono {P Q : Nat} {x : Vec} (h : Nz P x) (le : P ≤ Q) : Nz Q x := by
  obtain ⟨i, hi, hx⟩ := h
  exact ⟨i, by omega, hx⟩
theorem EqP.symm {P : Nat} {x y : Vec} (h : EqP P x y) : EqP P y x := fun i hi => (h i hi).symm
theorem EqP.trans {P : Nat} {x y z : Vec} (h : EqP P x y) (g : EqP P y z) : EqP P x z := fun i hi => (h i hi).trans (g i hi)
theorem EqP.ng {P : Nat} {x y : Vec} (h : EqP P x y) : EqP P (ng x) (ng y) := fun i hi => by
  show -x i = -y i
  rw [h i hi]
theorem EqP.cf {P : Nat} {x y : Vec} (h : EqP P x y) : Cf P x y := fun i hi => by
  have := h i hi
  omega
/-- a lattice -/
structure Latt (L : Vec → Prop) : Prop where
  add : ∀ x y, L x → L y → L (ad x y)
  sub : ∀ x y, L x → L y → L (sb x y)
theorem Latt.ng {L : Vec → Prop} (T : Latt L) {x : Vec} (h : L x) : L (ng x) := by
  have := T.sub _ _ (T.sub _ _ h h) h
  have e : sb (sb x x) x = GR.ng x := funext fun i => by
    show x i - x i - x i = -x i
    omega
  rwa [e] at this
theorem Latt.mul {L : Vec → Prop} (T : Latt L) {x f : Vec} (h : L x) (hf : L f) (c : Int) : L (fun i => x i - c * f i) := by
  have pos : ∀ (n : Nat) {y : Vec}, L y → L (fun i => y i - ((n : Nat) : Int) * f i) := fun n => by
    induction n with
    | zero =>
      intro y hy
      have e : (fun i => y i - ((0 : Nat) : Int) * f i) = y := funext fun i => by simp
      rw [e]
      exact hy
    | succ n ih =>
      intro y hy
      have := T.sub _ _ (ih hy) hf
      have e : sb (fun i => y i - ((n : Nat) : Int) * f i) f = fun i => y i - ((n + 1 : Nat) : Int) * f i := funext fun i => by
        show y i - ((n : Nat) : Int) * f i - f i = y i - ((n + 1 : Nat) : Int) * f i
        rw [Int.natCast_add, Int.add_mul]
        omega
      rwa [e] at this
  by_cases hc : 0 ≤ c
  · have := pos c.toNat h
    rwa [Int.toNat_of_nonneg hc] at this
  · have := T.ng (pos (-c).toNat (T.ng h))
    have e : GR.ng (fun i => GR.ng x i - (((-c).toNat : Nat) : Int) * f i) = fun i => x i - c * f i := funext fun i => by
      show -(-x i - (((-c).toNat : Nat) : Int) * f i) = x i - c * f i
      rw [Int.toNat_of_nonneg (by omega), Int.neg_mul]
      omega
    rwa [e] at this
theorem Least.ng {L : Vec → Prop} (T : Latt L) {P : Nat} {x : Vec} (h : Least L P x) : Least L P (ng x) := fun y hy nz cf => by
  have := h (GR.ng y) (T.ng hy) nz.ng (by
    have := cf.ng
    rwa [ng_ng] at this)
  have := this.ng
  rwa [ng_ng] at this
theorem Least.congr {L : Vec → Prop} {P : Nat} {x y : Vec} (h : Least L P x) (e : EqP P x y) : Least L P y := fun z hz nz cf => (h z hz nz (cf.congr e.symm)).trans e
theorem eq_of_sz {y x : Vec} : ∀ {P : Nat}, Cf P y x → sz P x ≤ sz P y → EqP P y x := fun {P} h le => by
  have h1 := sz_cf h
  have z := sz_zero (show sz P (sb x y) = 0 by omega)
  intro i hi
  have := z i hi
  have e : sb x y i = x i - y i := rfl
  omega
/-- in each row there is a least one -/
theorem descend {L : Vec → Prop} {P : Nat} : ∀ (n : Nat) (x : Vec), sz P x ≤ n → L x → Nz P x → ∃ y, L y ∧ Nz P y ∧ Least L P y ∧ Cf P y x
  | n, x, hn, hL, nz => by
    by_cases c : Least L P x
    · exact ⟨x, hL, nz, c, fun i _ => by omega⟩
    · obtain ⟨y, hy⟩ := Classical.not_forall.mp c
      obtain ⟨hy1, hy⟩ := Classical.not_imp.mp hy
      obtain ⟨hy2, hy⟩ := Classical.not_imp.mp hy
      obtain ⟨hy3, hy4⟩ := Classical.not_imp.mp hy
      have h1 := sz_cf hy3
      have h2 : ¬ sz P x ≤ sz P y := fun z => hy4 (eq_of_sz hy3 z)
      match n, hn with
      | 0, hn => omega
      | n + 1, hn =>
        obtain ⟨z, z1, z2, z3, z4⟩ := descend n y (by omega) hy1 hy2
        exact ⟨z, z1, z2, z3, z4.trans hy3⟩
/-- the least rows up to a place, each or its opposite once -/
structure Grb (L : Vec → Prop) (P : Nat) (R : List Vec) : Prop where
  ok : ∀ r ∈ R, L r ∧ Nz P r ∧ Least L P r
  all : ∀ x, L x → Nz P x → Least L P x → ∃ r ∈ R, EqP P x r ∨ EqP P x (ng r)
  dif : R.Pairwise fun a b => ¬ EqP P a b ∧ ¬ EqP P a (ng b)
theorem Grb.has {L : Vec → Prop} (T : Latt L) {P : Nat} {R : List Vec} (G : Grb L P R) {x : Vec} (hL : L x) (nz : Nz P x) : ∃ r ∈ R, Cf P r x ∨ Cf P (ng r) x := by
  obtain ⟨y, y1, y2, y3, y4⟩ := descend _ x (Nat.le_refl _) hL nz
  obtain ⟨r, hr, e | e⟩ := G.all y y1 y2 y3
  · exact ⟨r, hr, .inl (e.symm.cf.trans y4)⟩
  · exact ⟨r, hr, .inr (e.symm.cf.trans y4)⟩
/-- what begins at a place: all rows of the lattice that are nought ahead of it are multiples of it there -/
structure Fresh (L : Vec → Prop) (p : Nat) (f : Vec) : Prop where
  fL : L f
  f0 : ∀ i, i < p → f i = 0
  fp : 0 ≤ f p
  fdv : ∀ x, L x → (∀ i, i < p → x i = 0) → f p ∣ x p
/-- the rows, made small at the place -/
structure Small (L : Vec → Prop) (p : Nat) (f : Vec) (R : List Vec) : Prop where
  g : Grb L p R
  sm : 0 < f p → ∀ r ∈ R, (r p).natAbs < (f p).natAbs
/-- what a sign's members are -/
structure Mem (p : Nat) (f s : Vec) (R : List Vec) (M : List Vec) : Prop where
  mem : ∀ x, x ∈ M ↔ Orth s p x ∧ ((∃ r ∈ R, x = r ∨ x = ng r) ∨ (0 < f p ∧ (x = f ∨ x = ng f)))
theorem orth_none {s : Vec} {p : Nat} {x : Vec} (h : ∀ i, i < p → x i = 0) : Orth s p x := fun i hi => by
  rw [h i hi]
  omega
section
variable {L : Vec → Prop} {p : Nat} {f s : Vec}
theorem sys_start (T : Latt L) (Fr : Fresh L p f) (S : Sgn s) {R M : List Vec} (G : Small L p f R) (hM : Mem p f s R M) : Sys L p f s (· ∈ M) where
  sg := S
  add := T.add
  sub := T.sub
  fL := Fr.fL
  f0 := Fr.f0
  fp := Fr.fp
  fdv := Fr.fdv
  FL h hh := by
    obtain ⟨hO, ⟨r, hr, e⟩ | ⟨h0, e⟩⟩ := (hM.mem h).mp hh
    · obtain ⟨g1, g2, _⟩ := G.g.ok r hr
      rcases e with e | e
      · rw [e] at hO ⊢
        exact ⟨g1, hO, g2.mono (Nat.le_succ p)⟩
      · rw [e] at hO ⊢
        exact ⟨T.ng g1, hO, (g2.mono (Nat.le_succ p)).ng⟩
    · have nf : Nz (p + 1) f := ⟨p, by omega, by omega⟩
      rcases e with e | e
      · rw [e] at hO ⊢
        exact ⟨Fr.fL, hO, nf⟩
      · rw [e] at hO ⊢
        exact ⟨T.ng Fr.fL, hO, nf.ng⟩
  Ff h0 := ⟨(hM.mem f).mpr ⟨orth_none Fr.f0, .inr ⟨h0, .inl rfl⟩⟩, (hM.mem (ng f)).mpr ⟨orth_none fun i hi => by show -f i = 0; rw [Fr.f0 i hi]; rfl, .inr ⟨h0, .inr rfl⟩⟩⟩
  mem x hL hO nz := by
    obtain ⟨r, hr, e | e⟩ := G.g.has T hL nz
    · exact ⟨r, (hM.mem r).mpr ⟨(hO.cf S e).1, .inl ⟨r, hr, .inl rfl⟩⟩, e, (G.g.ok r hr).2.1⟩
    · exact ⟨ng r, (hM.mem _).mpr ⟨(hO.cf S e).1, .inl ⟨r, hr, .inr rfl⟩⟩, e, (G.g.ok r hr).2.1.ng⟩
theorem start_least (T : Latt L) (Fr : Fresh L p f) (S : Sgn s) {R M : List Vec} (G : Small L p f R) (hM : Mem p f s R M) : ∀ h ∈ M, Least L (p + 1) h := fun h hh => by
  have Y := sys_start T Fr S G hM
  obtain ⟨_, ⟨r, hr, e⟩ | ⟨h0, e⟩⟩ := (hM.mem h).mp hh
  · have g := G.g.ok r hr
    have hl := old_least Y g.1 g.2.2 fun h0 => G.sm h0 r hr
    rcases e with e | e
    · rw [e]; exact hl
    · rw [e]; exact hl.ng T
  · have hl := fresh_least Y h0
    rcases e with e | e
    · rw [e]; exact hl
    · rw [e]; exact hl.ng T
theorem Sys.more {F : Vec → Prop} (Y : Sys L p f s F) {t : Vec} (hL : L t) (hO : Orth s p t) (nz : Nz (p + 1) t) {F' : Vec → Prop} (hF : ∀ x, F' x ↔ F x ∨ x = t) : Sys L p f s F' where
  sg := Y.sg
  add := Y.add
  sub := Y.sub
  fL := Y.fL
  f0 := Y.f0
  fp := Y.fp
  fdv := Y.fdv
  FL h hh := by
    rcases (hF h).mp hh with e | e
    · exact Y.FL h e
    · rw [e]; exact ⟨hL, hO, nz⟩
  Ff h0 := ⟨(hF _).mpr (.inl (Y.Ff h0).1), (hF _).mpr (.inl (Y.Ff h0).2)⟩
  mem x h1 h2 h3 := by
    obtain ⟨r, hr, e⟩ := Y.mem x h1 h2 h3
    exact ⟨r, (hF r).mpr (.inl hr), e⟩
theorem Han.more {F F' : Vec → Prop} {a b : Vec} (h : Han p f F a b) (hF : ∀ x, F x → F' x) : Han p f F' a b := by
  obtain ⟨c, t, h1, h2, h3, h4⟩ := h
  refine ⟨c, t, h1, h2, h3, h4.imp id fun ⟨r, hr, e⟩ => ⟨r, hF r hr, e⟩⟩
/-- trimmed: times the fresh row that are taken -/
def trimC (f q : Int) : Int := if 0 < f then (if 0 ≤ q then (q.natAbs : Int) / f else -((q.natAbs : Int) / f)) else 0
theorem trim_ok {f q : Int} (h : 0 ≤ f) : (0 < f → (q - trimC f q * f).natAbs < f.natAbs) ∧ (q - trimC f q * f).natAbs + (trimC f q).natAbs * f.natAbs = q.natAbs := by
  unfold trimC
  by_cases c : 0 < f
  · rw [if_pos c]
    have h1 := Int.emod_add_mul_ediv (q.natAbs : Int) f
    have h2 := Int.emod_nonneg (q.natAbs : Int) (show f ≠ 0 by omega)
    have h3 := Int.emod_lt_of_pos (q.natAbs : Int) c
    have h4 : 0 ≤ (q.natAbs : Int) / f := Int.ediv_nonneg (by omega) h
    obtain ⟨k, hk⟩ : ∃ k : Nat, (q.natAbs : Int) / f = (k : Int) := ⟨((q.natAbs : Int) / f).toNat, by omega⟩
    obtain ⟨g, rfl⟩ : ∃ g : Nat, f = (g : Int) := ⟨f.toNat, by omega⟩
    rw [hk] at h1 h4 ⊢
    have e : (g : Int) * (k : Int) = ((k * g : Nat) : Int) := by rw [Int.natCast_mul, Int.mul_comm]
    rw [e] at h1
    have e2 : (k : Int) * (g : Int) = ((k * g : Nat) : Int) := by rw [Int.natCast_mul]
    by_cases hq : 0 ≤ q
    · rw [if_pos hq, e2]
      have e3 : ((k : Int)).natAbs * ((g : Int)).natAbs = k * g := rfl
      rw [e3]
      exact ⟨fun _ => by omega, by omega⟩
    · rw [if_neg hq, Int.neg_mul, e2]
      have e3 : (-(k : Int)).natAbs * ((g : Int)).natAbs = k * g := by rw [Int.natAbs_neg]; rfl
      rw [e3]
      exact ⟨fun _ => by omega, by omega⟩
  · rw [if_neg c]
    exact ⟨fun h => absurd h c, by simp⟩
/-- a pair's sum, trimmed -/
def pairT (p : Nat) (f a b : Vec) : Vec := fun i => a i + b i - trimC (f p) (a p + b p) * f i
theorem pairT_ok {F : Vec → Prop} (Y : Sys L p f s F) (T : Latt L) {a b : Vec} (ha : F a) (hb : F b) : L (pairT p f a b) ∧ EqP p (pairT p f a b) (ad a b) ∧ Orth s p (pairT p f a b) ∧ sz p (pairT p f a b) = sz p a + sz p b ∧ (0 < f p → (pairT p f a b p).natAbs < (f p).natAbs) := by
  obtain ⟨a1, a2, _⟩ := Y.FL a ha
  obtain ⟨b1, b2, _⟩ := Y.FL b hb
  have e : EqP p (pairT p f a b) (ad a b) := fun i hi => by
    show a i + b i - _ * f i = a i + b i
    rw [Y.f0 i hi, Int.mul_zero]
    omega
  exact ⟨T.mul (T.add _ _ a1 b1) Y.fL _, e, (a2.ad Y.sg b2).congr e.symm, by rw [sz_congr e, sz_orth Y.sg a2 b2], (trim_ok Y.fp).1⟩
/-- handled: by what is told, or by itself -/
theorem han_of {F : Vec → Prop} (Y : Sys L p f s F) {a b : Vec} (h : ¬ Nz (p + 1) (pairT p f a b) ∨ ∃ r, F r ∧ Cf (p + 1) r (pairT p f a b)) : Han p f F a b :=
  ⟨trimC (f p) (a p + b p), pairT p f a b, fun _ => rfl, (trim_ok Y.fp).1, (trim_ok Y.fp).2, h⟩
/-- at the end, each least row is told -/
theorem all_told {F : Vec → Prop} (Y : Sys L p f s F) (H : ∀ a b, F a → F b → 0 < a p → b p < 0 → Han p f F a b) {x : Vec} (hL : L x) (hO : Orth s p x) (nz : Nz (p + 1) x) (hx : Least L (p + 1) x) : ∃ r, F r ∧ EqP (p + 1) x r := by
  obtain ⟨r, hr, cf⟩ := (comp Y (k := sz p x + 1) (fun a b ha hb h1 h2 _ => H a b ha hb h1 h2) _ x (Nat.le_refl _) hL hO (by omega)).has nz
  have g := Y.FL r hr
  exact ⟨r, hr, (hx r g.1 g.2.2 cf).symm⟩
end
/-! ### the rows made small at a place -/
theorem small_of {L : Vec → Prop} (T : Latt L) {p : Nat} {f : Vec} (Fr : Fresh L p f) {R : List Vec} (G : Grb L p R) (m : Vec → Int) (hm : 0 < f p → ∀ r ∈ R, 0 ≤ r p - m r * f p ∧ r p - m r * f p < f p) : Small L p f (R.map fun r => fun i => r i - m r * f i) := by
  have e : ∀ r, EqP p (fun i => r i - m r * f i) r := fun r i hi => by
    show r i - m r * f i = r i
    rw [Fr.f0 i hi, Int.mul_zero]
    omega
  refine ⟨⟨fun x hx => ?_, fun x h1 h2 h3 => ?_, ?_⟩, fun h0 x hx => ?_⟩
  · obtain ⟨r, hr, rfl⟩ := List.mem_map.mp hx
    obtain ⟨g1, g2, g3⟩ := G.ok r hr
    exact ⟨T.mul g1 Fr.fL _, g2.congr (e r).symm, g3.congr (e r).symm⟩
  · obtain ⟨r, hr, q⟩ := G.all x h1 h2 h3
    refine ⟨_, List.mem_map.mpr ⟨r, hr, rfl⟩, q.imp (fun q => q.trans (e r).symm) fun q => q.trans (e r).symm.ng⟩
  · rw [List.pairwise_map]
    refine G.dif.imp fun {a b} ⟨h1, h2⟩ => ⟨fun q => h1 ((e a).symm.trans (q.trans (e b))), fun q => h2 ((e a).symm.trans (q.trans (e b).ng))⟩
  · obtain ⟨r, hr, rfl⟩ := List.mem_map.mp hx
    have := hm h0 r hr
    show (r p - m r * f p).natAbs < _
    omega
theorem small_none {L : Vec → Prop} {p : Nat} {f : Vec} {R : List Vec} (G : Grb L p R) (h : f p = 0) : Small L p f R := ⟨G, fun h0 => by omega⟩
/-- up to no place there is nothing -/
theorem grb_zero {L : Vec → Prop} : Grb L 0 [] := ⟨(fun r hr => by cases hr), (fun x _ nz _ => by obtain ⟨i, hi, _⟩ := nz; omega), List.Pairwise.nil⟩
/-- one place more -/
theorem grb_up {L : Vec → Prop} (T : Latt L) {p : Nat} {R' : List Vec} (h1 : ∀ r ∈ R', L r ∧ Nz (p + 1) r ∧ Least L (p + 1) r) (h2 : ∀ s, Sgn s → (∃ F : Vec → Prop, (∀ x, L x → Orth s p x → Nz (p + 1) x → Least L (p + 1) x → ∃ r, F r ∧ EqP (p + 1) x r) ∧ ∀ r, F r → ∃ r' ∈ R', EqP (p + 1) r r' ∨ EqP (p + 1) r (ng r')) ∨ ∃ F : Vec → Prop, (∀ x, L x → Orth (ng s) p x → Nz (p + 1) x → Least L (p + 1) x → ∃ r, F r ∧ EqP (p + 1) x r) ∧ ∀ r, F r → ∃ r' ∈ R', EqP (p + 1) r r' ∨ EqP (p + 1) r (ng r'))
    (h3 : R'.Pairwise fun a b => ¬ EqP (p + 1) a b ∧ ¬ EqP (p + 1) a (ng b)) : Grb L (p + 1) R' := by
  refine ⟨h1, fun x hL nz hx => ?_, h3⟩
  let s : Vec := fun i => if 0 ≤ x i then 1 else -1
  have S : Sgn s := fun i => by
    show (if 0 ≤ x i then (1 : Int) else -1) = 1 ∨ (if 0 ≤ x i then (1 : Int) else -1) = -1
    split
    · exact .inl rfl
    · exact .inr rfl
  have hO : Orth s p x := fun i _ => by
    show 0 ≤ (if 0 ≤ x i then (1 : Int) else -1) * x i
    split <;> omega
  rcases h2 s S with ⟨F, f1, f2⟩ | ⟨F, f1, f2⟩
  · obtain ⟨r, hr, e⟩ := f1 x hL hO nz hx
    obtain ⟨r', hr', q⟩ := f2 r hr
    exact ⟨r', hr', q.imp (fun q => e.trans q) fun q => e.trans q⟩
  · obtain ⟨r, hr, e⟩ := f1 (ng x) (T.ng hL) (fun i hi => by
      have := hO i hi
      show 0 ≤ -s i * -x i
      rw [Int.neg_mul_neg]
      exact this) nz.ng (hx.ng T)
    obtain ⟨r', hr', q⟩ := f2 r hr
    have e' : EqP (p + 1) x (ng r) := by
      have := e.ng
      rwa [ng_ng] at this
    refine ⟨r', hr', q.elim (fun q => .inr (e'.trans q.ng)) fun q => .inl ?_⟩
    have := q.ng
    rw [ng_ng] at this
    exact e'.trans this
end GR
end HL

set_option maxHeartbeats 0
namespace HL
namespace GR
open BL (Row subsK fewC)
/-! swaps of the laws' lots: least rows are small -/
def chkW (g : Nat) (ks : List Row) (n D : Nat) : Bool := (subsK ks n).all fun s => fewC s g D
def kw1 : List Row := [[1], [2], [3], [4]]
def kw2 : List Row := [[0, 1], [0, 2], [1, 0], [1, 1], [1, 2], [2, 0], [2, 1], [2, 2]]
theorem kw1_ok : chkW 1 kw1 4 4 = true := by decide +kernel
theorem kw2_ok : chkW 2 kw2 4 5 = true := by decide +kernel
end GR
end HL

namespace HL
namespace GR
open BL (Vec ad sb un sumV Ld Fit Lb Row Lot sm subsK fewC)
/-- the swaps of a lot -/
def Kr (ll : List Row) (g : Nat) (x : Vec) : Prop := (∀ i, ll.length ≤ i → x i = 0) ∧ ∀ j, j < g → Lb ll x j = 0
theorem Lb_ad {j : Nat} : ∀ {ll : List Row} {x y : Vec}, Lb ll (ad x y) j = Lb ll x j + Lb ll y j
  | [], _, _ => rfl
  | h :: t, x, y => by
    have ih := Lb_ad (j := j) (ll := t) (x := BL.sh x) (y := BL.sh y)
    show (x 0 + y 0) * h.getD j 0 + Lb t (ad (BL.sh x) (BL.sh y)) j = (x 0 * h.getD j 0 + Lb t (BL.sh x) j) + (y 0 * h.getD j 0 + Lb t (BL.sh y) j)
    rw [ih, Int.add_mul]
    omega
theorem Lb_sb {j : Nat} : ∀ {ll : List Row} {x y : Vec}, Lb ll (sb x y) j = Lb ll x j - Lb ll y j
  | [], _, _ => rfl
  | h :: t, x, y => by
    have ih := Lb_sb (j := j) (ll := t) (x := BL.sh x) (y := BL.sh y)
    show (x 0 - y 0) * h.getD j 0 + Lb t (sb (BL.sh x) (BL.sh y)) j = (x 0 * h.getD j 0 + Lb t (BL.sh x) j) - (y 0 * h.getD j 0 + Lb t (BL.sh y) j)
    rw [ih, Int.sub_mul]
    omega
theorem kr_latt {ll : List Row} {g : Nat} : Latt (Kr ll g) where
  add x y hx hy := ⟨fun i hi => by show x i + y i = 0; rw [hx.1 i hi, hy.1 i hi]; rfl, fun j hj => by rw [Lb_ad, hx.2 j hj, hy.2 j hj]; rfl⟩
  sub x y hx hy := ⟨fun i hi => by show x i - y i = 0; rw [hx.1 i hi, hy.1 i hi]; rfl, fun j hj => by rw [Lb_sb, hx.2 j hj, hy.2 j hj]; rfl⟩
def posV (x : Vec) : Vec := fun i => if 0 < x i then x i else 0
theorem pos_sub (x : Vec) : x = sb (posV x) (posV (ng x)) := funext fun i => by
  show x i = (if 0 < x i then x i else 0) - (if 0 < -x i then -x i else 0)
  split <;> split <;> omega
/-- the numbers of a least swap are small -/
theorem kr_bound {ll ks : List Row} {g n D : Nat} (hk : chkW g ks n D = true) (knd : ks.Nodup) (D1 : 1 ≤ D) (hlen : ll.length ≤ n) (hin : ∀ h ∈ ll, h ∈ ks) {x : Vec} (hx : Kr ll g x) (nz : Nz ll.length x) (hl : Least (Kr ll g) ll.length x) : sm ll.length (posV x) ≤ D := by
  have hfl : (ks.filter fun h => decide (h ∈ ll)).length ≤ n := Nat.le_trans (BL.nd_le (knd.filter _) fun x hx => of_decide_eq_true (List.mem_filter.mp hx).2) hlen
  have hc := List.all_eq_true.mp hk _ (BL.subsK_all hfl)
  generalize hcs : (ks.filter fun h => decide (h ∈ ll)) = cs at hc
  have mem : ∀ h ∈ ll, h ∈ cs := fun h hh => by
    rw [← hcs]
    exact List.mem_filter.mpr ⟨hin h hh, decide_eq_true hh⟩
  have pick : ∀ i, ∃ t, i < ll.length → t < cs.length ∧ cs.getD t [] = ll.getD i [] := fun i => by
    by_cases c : i < ll.length
    · obtain ⟨t, ht, et⟩ := List.mem_iff_getElem.mp (mem _ (List.getElem_mem c))
      refine ⟨t, fun _ => ⟨ht, ?_⟩⟩
      rw [List.getD_eq_getElem?_getD, List.getD_eq_getElem?_getD, List.getElem?_eq_getElem ht, List.getElem?_eq_getElem c, et]
    · exact ⟨0, fun q => absurd q c⟩
  have hf := fun i => (Classical.choose_spec (pick i))
  have lu : ∀ {y : Vec}, (∀ i, ll.length ≤ i → y i = 0) → Ld ll.length (posV y) := fun {y} hy => ⟨fun i => by show 0 ≤ if 0 < y i then y i else 0; split <;> omega, fun i hi => by show (if 0 < y i then y i else 0) = 0; rw [hy i hi]; rfl⟩
  have hu := lu hx.1
  have hv := lu (y := ng x) fun i hi => by show -x i = 0; rw [hx.1 i hi]; rfl
  have bal : ∀ j, j < g → Lb ll (posV x) j = Lb ll (posV (ng x)) j := fun j hj => by
    have := hx.2 j hj
    rw [pos_sub x, Lb_sb] at this
    omega
  refine BL.few_push (cols := ll) (g := g) hc D1 (f := fun i => Classical.choose (pick i)) (fun i hi => hf i hi) hu hv bal ?_ fun a b ha hb fa fb eb hab => ?_
  · obtain ⟨i, hi, h0⟩ := nz
    refine ⟨i, ?_⟩
    show 0 < (if 0 < x i then x i else 0) + (if 0 < -x i then -x i else 0)
    split <;> split <;> omega
  · have ya : ∀ i, (0 ≤ a i ∧ a i ≤ if 0 < x i then x i else 0) ∧ (0 ≤ b i ∧ b i ≤ if 0 < -x i then -x i else 0) := fun i => ⟨⟨ha.1 i, fa i⟩, hb.1 i, fb i⟩
    have e := hl (sb a b) ⟨fun i hi => by show a i - b i = 0; rw [ha.2 i hi, hb.2 i hi]; rfl, fun j hj => by rw [Lb_sb, eb j hj]; omega⟩ (by
      obtain ⟨i, hi⟩ := hab
      have hi : 0 < a i + b i := hi
      refine ⟨i, ?_, ?_⟩
      · refine Classical.byContradiction fun c => ?_
        rw [ha.2 i (by omega), hb.2 i (by omega)] at hi
        omega
      · show a i - b i ≠ 0
        have := ya i
        split at this <;> split at this <;> omega) (fun i _ => by
      have := ya i
      show (0 ≤ a i - b i ∧ a i - b i ≤ x i) ∨ (x i ≤ a i - b i ∧ a i - b i ≤ 0)
      split at this <;> split at this <;> omega)
    have e2 : ∀ i, a i - b i = x i := fun i => by
      by_cases c : i < ll.length
      · exact e i c
      · rw [ha.2 i (by omega), hb.2 i (by omega), hx.1 i (by omega)]
        rfl
    refine ⟨funext fun i => ?_, funext fun i => ?_⟩
    · have h1 := ya i
      have h2 := e2 i
      show a i = if 0 < x i then x i else 0
      split at h1 <;> split at h1 <;> split <;> omega
    · have h1 := ya i
      have h2 := e2 i
      show b i = if 0 < -x i then -x i else 0
      split at h1 <;> split at h1 <;> split <;> omega
theorem kr_small {ll ks : List Row} {g n D : Nat} (hk : chkW g ks n D = true) (knd : ks.Nodup) (D1 : 1 ≤ D) (hlen : ll.length ≤ n) (hin : ∀ h ∈ ll, h ∈ ks) {x : Vec} (hx : Kr ll g x) (nz : Nz ll.length x) (hl : Least (Kr ll g) ll.length x) (i : Nat) : -(D : Int) ≤ x i ∧ x i ≤ D := by
  have one : ∀ {y : Vec}, Kr ll g y → Nz ll.length y → Least (Kr ll g) ll.length y → y i ≤ D := fun {y} hy ny ly => by
    have h := kr_bound hk knd D1 hlen hin hy ny ly
    by_cases c : i < ll.length
    · have := BL.sm_one (g := ll.length) (x := posV y) (i := i) (fun i _ => by show 0 ≤ if 0 < y i then y i else 0; split <;> omega) c
      have e : y i ≤ posV y i := by show y i ≤ if 0 < y i then y i else 0; split <;> omega
      omega
    · rw [hy.1 i (by omega)]
      omega
  have h1 := one hx nz hl
  have h2 := one (kr_latt.ng hx) nz.ng (hl.ng kr_latt)
  have e : ng x i = -x i := rfl
  omega
/-- a row that is least up to a place is, up to it, a least row -/
theorem least_lift {L : Vec → Prop} (T : Latt L) {P n : Nat} (le : P ≤ n) {x : Vec} (nz : Nz P x) (hx : Least L P x) : ∀ (k : Nat) (y : Vec), sz n y ≤ k → L y → EqP P y x → ∃ z, L z ∧ Nz n z ∧ Least L n z ∧ EqP P z x
  | k, y, hk, hy, e => by
    have nzy : Nz n y := (nz.congr e.symm).mono le
    obtain ⟨z, z1, z2, z3, z4⟩ := descend _ y (Nat.le_refl _) hy nzy
    by_cases c : Nz P z
    · exact ⟨z, z1, z2, z3, hx z z1 c ((z4.mono le).congr e)⟩
    · have h1 := sz_cf z4
      have h2 : sz n z ≠ 0 := fun q => by
        obtain ⟨i, hi, hx⟩ := z2
        exact hx (sz_zero q i hi)
      match k, hk with
      | 0, hk => omega
      | k + 1, hk =>
        refine least_lift T le nz hx k (sb y z) (by omega) (T.sub _ _ hy z1) fun i hi => ?_
        have : z i = 0 := Classical.byContradiction fun q => c ⟨i, hi, q⟩
        show y i - z i = x i
        rw [e i hi, this]
        omega
end GR
end HL

namespace HL
namespace GR
open BL (Vec ad sb un sumV)
/-! rows that span a lattice, each beginning behind the one ahead of it: fresh rows, and how many rows there are -/
def SpanV : List Vec → Vec → Prop
  | [], x => ∀ i, x i = 0
  | r :: R, x => ∃ (c : Int) (y : Vec), SpanV R y ∧ ∀ i, x i = c * r i + y i
structure EchV (B : List (Nat × Vec)) : Prop where
  rise : B.Pairwise fun a b => a.1 < b.1
  ok : ∀ q ∈ B, q.2 q.1 ≠ 0 ∧ ∀ j, j < q.1 → q.2 j = 0
theorem EchV.tail {q : Nat × Vec} {B : List (Nat × Vec)} (h : EchV (q :: B)) : EchV B := ⟨(List.pairwise_cons.mp h.rise).2, fun x hx => h.ok x (List.mem_cons_of_mem _ hx)⟩
theorem span_zero {k : Nat} : ∀ {B : List (Nat × Vec)} {x : Vec}, EchV B → SpanV (B.map (·.2)) x → (∀ q ∈ B, k < q.1) → x k = 0
  | [], x, _, h, _ => h k
  | q :: B, x, E, ⟨c, y, hy, e⟩, hk => by
    have e : ∀ i, x i = c * q.2 i + y i := e
    rw [e k, (E.ok q List.mem_cons_self).2 k (hk q List.mem_cons_self), span_zero E.tail hy fun q hq => hk q (List.mem_cons_of_mem _ hq)]
    omega
/-- what is nought ahead of a place is there a multiple of what begins there -/
theorem fresh_of {p : Nat} : ∀ {B : List (Nat × Vec)} {x : Vec}, EchV B → SpanV (B.map (·.2)) x → (∀ i, i < p → x i = 0) → (∃ q ∈ B, q.1 = p ∧ q.2 p ∣ x p) ∨ ((∀ q ∈ B, q.1 ≠ p) ∧ x p = 0)
  | [], x, _, h, _ => .inr ⟨(fun q hq => by cases hq), h p⟩
  | q :: B, x, E, ⟨c, y, hy, e⟩, hx => by
    have e : ∀ i, x i = c * q.2 i + y i := e
    have hlt : ∀ q' ∈ B, q.1 < q'.1 := (List.pairwise_cons.mp E.rise).1
    by_cases c1 : p < q.1
    · refine .inr ⟨fun q' hq' => ?_, span_zero E ⟨c, y, hy, e⟩ fun q' hq' => ?_⟩
      · rcases List.mem_cons.mp hq' with h | h
        · rw [h]; omega
        · have := hlt q' h
          omega
      · rcases List.mem_cons.mp hq' with h | h
        · rw [h]; exact c1
        · have := hlt q' h
          omega
    · by_cases c2 : q.1 = p
      · refine .inl ⟨q, List.mem_cons_self, c2, ?_⟩
        have y0 : y p = 0 := span_zero E.tail hy fun q' hq' => by
          have := hlt q' hq'
          omega
        rw [e p, y0, Int.add_zero]
        exact Int.dvd_mul_left _ _
      · have hq := hx q.1 (by omega)
        have y0 : y q.1 = 0 := span_zero E.tail hy hlt
        rw [e q.1, y0, Int.add_zero] at hq
        have c0 : c = 0 := (Int.mul_eq_zero.mp hq).resolve_right (E.ok q List.mem_cons_self).1
        have ex : ∀ i, x i = y i := fun i => by
          rw [e i, c0]
          omega
        rcases fresh_of E.tail hy (fun i hi => by rw [← ex i]; exact hx i hi) with ⟨q', h1, h2, h3⟩ | ⟨h1, h2⟩
        · exact .inl ⟨q', List.mem_cons_of_mem _ h1, h2, by rw [ex p]; exact h3⟩
        · refine .inr ⟨fun q' hq' => ?_, by rw [ex p]; exact h2⟩
          rcases List.mem_cons.mp hq' with h | h
          · rw [h]; exact c2
          · exact h1 q' h
/-- a row is told by its numbers where the spanning rows begin -/
theorem told_of : ∀ {B : List (Nat × Vec)} {x : Vec}, EchV B → SpanV (B.map (·.2)) x → (∀ q ∈ B, x q.1 = 0) → ∀ i, x i = 0
  | [], x, _, h, _, i => h i
  | q :: B, x, E, ⟨c, y, hy, e⟩, hx, i => by
    have e : ∀ i, x i = c * q.2 i + y i := e
    have hlt : ∀ q' ∈ B, q.1 < q'.1 := (List.pairwise_cons.mp E.rise).1
    have y0 : y q.1 = 0 := span_zero E.tail hy hlt
    have hq := hx q List.mem_cons_self
    rw [e q.1, y0, Int.add_zero] at hq
    have c0 : c = 0 := (Int.mul_eq_zero.mp hq).resolve_right (E.ok q List.mem_cons_self).1
    have ex : ∀ i, x i = y i := fun i => by
      rw [e i, c0]
      omega
    rw [ex i]
    exact told_of E.tail hy (fun q' hq' => by rw [← ex q'.1]; exact hx q' (List.mem_cons_of_mem _ hq')) i
/-! ### how many there are -/
def boxL (m : Nat) : Nat → List (List Nat)
  | 0 => [[]]
  | d + 1 => (List.range m).flatMap fun x => (boxL m d).map fun l => x :: l
theorem flat_len {α β : Type} {f : α → List β} {k : Nat} : ∀ {l : List α}, (∀ x ∈ l, (f x).length = k) → (l.flatMap f).length = l.length * k
  | [], _ => by simp
  | x :: l, h => by
    rw [List.flatMap_cons, List.length_append, h x List.mem_cons_self, flat_len fun y hy => h y (List.mem_cons_of_mem _ hy), List.length_cons, Nat.add_mul]
    omega
theorem box_len {m : Nat} : ∀ {d : Nat}, (boxL m d).length = m ^ d
  | 0 => rfl
  | d + 1 => by
    unfold boxL
    rw [flat_len (k := (boxL m d).length) fun x _ => by rw [List.length_map], List.length_range, box_len, Nat.pow_succ, Nat.mul_comm]
theorem box_mem {m : Nat} : ∀ {l : List Nat}, (∀ x ∈ l, x < m) → l ∈ boxL m l.length
  | [], _ => List.mem_singleton.mpr rfl
  | x :: l, h => by
    unfold boxL
    exact List.mem_flatMap.mpr ⟨x, List.mem_range.mpr (h x List.mem_cons_self), List.mem_map.mpr ⟨l, box_mem fun y hy => h y (List.mem_cons_of_mem _ hy), rfl⟩⟩
theorem nd_len {α : Type} [DecidableEq α] : ∀ {l k : List α}, l.Nodup → (∀ x ∈ l, x ∈ k) → l.length ≤ k.length
  | [], _, _, _ => Nat.zero_le _
  | x :: l, k, nd, h => by
    obtain ⟨n1, n2⟩ := List.nodup_cons.mp nd
    have hx := h x List.mem_cons_self
    have := nd_len (l := l) (k := k.erase x) n2 fun y hy => (List.mem_erase_of_ne (fun e => n1 (by rw [← e]; exact hy))).mpr (h y (List.mem_cons_of_mem _ hy))
    rw [List.length_erase_of_mem hx] at this
    have := List.length_pos_of_mem hx
    rw [List.length_cons]
    omega
/-- rows of which no two are alike up to a place, each the beginning of a small row of the lattice: as many as small numbers where the spanning rows begin -/
theorem few_rows {L : Vec → Prop} {P D : Nat} {piv : List Nat} (det : ∀ x y, L x → L y → (∀ i ∈ piv, x i = y i) → ∀ i, x i = y i) {G : List Vec} (hz : ∀ g ∈ G, ∃ z, L z ∧ EqP P z g ∧ ∀ i, -(D : Int) ≤ z i ∧ z i ≤ D) (nd : G.Pairwise fun a b => ¬ EqP P a b) : G.length ≤ (2 * D + 1) ^ piv.length := by
  classical
  let φ : Vec → Vec := fun g => if h : ∃ z, L z ∧ EqP P z g ∧ ∀ i, -(D : Int) ≤ z i ∧ z i ≤ D then Classical.choose h else g
  have hφ : ∀ g ∈ G, L (φ g) ∧ EqP P (φ g) g ∧ ∀ i, -(D : Int) ≤ φ g i ∧ φ g i ≤ D := fun g hg => by
    have h := hz g hg
    have e : φ g = Classical.choose h := dif_pos h
    rw [e]
    exact Classical.choose_spec h
  let key : Vec → List Nat := fun g => piv.map fun i => (φ g i + D).toNat
  have inj : ∀ a ∈ G, ∀ b ∈ G, key a = key b → EqP P a b := fun a ha b hb e => by
    obtain ⟨a1, a2, a3⟩ := hφ a ha
    obtain ⟨b1, b2, b3⟩ := hφ b hb
    have he : ∀ i ∈ piv, φ a i = φ b i := fun i hi => by
      have := List.map_inj_left.mp e i hi
      have h1 := a3 i
      have h2 := b3 i
      omega
    have := det _ _ a1 b1 he
    intro i hi
    rw [← a2 i hi, ← b2 i hi]
    exact this i
  have kn : (G.map key).Nodup := by
    rw [List.nodup_iff_pairwise_ne, List.pairwise_map]
    exact nd.imp_of_mem fun {a b} ha hb h e => h (inj a ha b hb e)
  have hl := nd_len (k := boxL (2 * D + 1) piv.length) kn fun k hk => by
    obtain ⟨g, hg, rfl⟩ := List.mem_map.mp hk
    have h := box_mem (m := 2 * D + 1) (l := key g) fun x hx => by
      obtain ⟨i, _, rfl⟩ := List.mem_map.mp hx
      have := (hφ g hg).2.2 i
      omega
    have e : (key g).length = piv.length := List.length_map _
    rw [e] at h
    exact h
  rw [List.length_map, box_len] at hl
  exact hl
end GR
end HL

namespace HL
namespace GR
open BL (Vec ad sb un sumV)
/-! swaps are sums of the rows that spanning tells -/
theorem span_nil : ∀ {R : List Vec}, SpanV R fun _ => 0
  | [] => fun _ => rfl
  | r :: R => ⟨0, fun _ => 0, span_nil, fun i => by show (0 : Int) = 0 * r i + 0; omega⟩
theorem span_congr {x y : Vec} (e : ∀ i, x i = y i) : ∀ {R : List Vec}, SpanV R x → SpanV R y
  | [], h => fun i => by rw [← e i]; exact h i
  | r :: R, ⟨c, z, hz, h⟩ => ⟨c, z, hz, fun i => by rw [← e i]; exact h i⟩
/-- so many times one, and another -/
theorem span_add {k : Int} : ∀ {R : List Vec} {x y : Vec}, SpanV R x → SpanV R y → SpanV R fun i => k * x i + y i
  | [], x, y, hx, hy => fun i => by
    show k * x i + y i = 0
    rw [hx i, hy i]
    omega
  | r :: R, x, y, ⟨c, z, hz, e⟩, ⟨d, w, hw, f⟩ => by
    refine ⟨k * c + d, fun i => k * z i + w i, span_add hz hw, fun i => ?_⟩
    show k * x i + y i = (k * c + d) * r i + (k * z i + w i)
    rw [e i, f i]
    grind
theorem span_mem {r : Vec} : ∀ {R : List Vec}, r ∈ R → SpanV R r
  | a :: R, h => by
    rcases List.mem_cons.mp h with e | h
    · exact ⟨1, fun _ => 0, span_nil, fun i => by rw [e]; show a i = 1 * a i + 0; omega⟩
    · exact ⟨0, r, span_mem h, fun i => by show r i = 0 * a i + r i; omega⟩
/-- a sum of so many rows, each so many times -/
def sumW (c : Vec) (W : Nat → Vec) : Nat → Vec
  | 0 => fun _ => 0
  | k + 1 => fun t => c k * W k t + sumW c W k t
theorem span_sumW {R : List Vec} {c : Vec} {W : Nat → Vec} : ∀ {k : Nat}, (∀ i, i < k → SpanV R (W i)) → SpanV R (sumW c W k)
  | 0, _ => span_nil
  | k + 1, h => span_add (h k (by omega)) (span_sumW fun i hi => h i (by omega))
/-- what is nought at all first rows' places is a sum of the others -/
theorem span_drop {B : List (Nat × Vec)} : ∀ {A : List (Nat × Vec)} {x : Vec}, EchV (A ++ B) → SpanV ((A ++ B).map (·.2)) x → (∀ q ∈ A, x q.1 = 0) → SpanV (B.map (·.2)) x
  | [], _, _, h, _ => h
  | q :: A, x, E, ⟨c, y, hy, e⟩, hx => by
    have e : ∀ i, x i = c * q.2 i + y i := e
    have E' : EchV (A ++ B) := E.tail
    have hlt : ∀ q' ∈ A ++ B, q.1 < q'.1 := (List.pairwise_cons.mp E.rise).1
    have y0 : y q.1 = 0 := span_zero E' hy hlt
    have hq := hx q List.mem_cons_self
    rw [e q.1, y0, Int.add_zero] at hq
    have c0 : c = 0 := (Int.mul_eq_zero.mp hq).resolve_right (E.ok q List.mem_cons_self).1
    have ex : ∀ i, y i = x i := fun i => by
      rw [e i, c0]
      omega
    exact span_congr ex (span_drop E' hy fun q' hq' => by rw [ex q'.1]; exact hx q' (List.mem_cons_of_mem _ hq'))
theorem span_of {g k : Nat} {W : Nat → Vec} {A B : List (Nat × Vec)} (E : EchV (A ++ B)) (hA : ∀ q ∈ A, q.1 < g) (to : ∀ i, i < k → SpanV ((A ++ B).map (·.2)) (W i)) {c : Vec} (h0 : ∀ t, t < g → sumW c W k t = 0) : SpanV (B.map (·.2)) (sumW c W k) :=
  span_drop E (span_sumW to) fun q hq => h0 _ (hA q hq)
/-- places are told from behind the goods on -/
theorem span_shift {g : Nat} : ∀ {R : List Vec} {x : Vec}, SpanV R x → SpanV (R.map fun r => fun i => r (g + i)) fun i => x (g + i)
  | [], x, h => fun i => h (g + i)
  | r :: R, x, ⟨c, y, hy, e⟩ => ⟨c, fun i => y (g + i), span_shift hy, fun i => e (g + i)⟩
theorem ech_shift {g : Nat} {B : List (Nat × Vec)} (E : EchV B) (hB : ∀ q ∈ B, g ≤ q.1) : EchV (B.map fun q => (q.1 - g, fun i => q.2 (g + i))) where
  rise := by
    rw [List.pairwise_map]
    refine E.rise.imp_of_mem fun {a b} ha hb h => ?_
    have := hB a ha
    have := hB b hb
    show a.1 - g < b.1 - g
    omega
  ok q hq := by
    obtain ⟨q', hq', rfl⟩ := List.mem_map.mp hq
    obtain ⟨h1, h2⟩ := E.ok q' hq'
    have hg := hB q' hq'
    refine ⟨?_, fun j hj => h2 (g + j) ?_⟩
    · show q'.2 (g + (q'.1 - g)) ≠ 0
      rw [show g + (q'.1 - g) = q'.1 by omega]
      exact h1
    · have hj : j < q'.1 - g := hj
      omega
end GR
end HL

namespace HL
namespace GR
open BL (Vec ad sb un sumV)
/-! a lattice told by spanning rows: its fresh rows, and how many rows it has up to a place -/
structure Spn (L : Vec → Prop) (B : List (Nat × Vec)) : Prop where
  ech : EchV B
  inL : ∀ q ∈ B, L q.2
  to : ∀ x, L x → SpanV (B.map (·.2)) x
section
variable {L : Vec → Prop} {B : List (Nat × Vec)}
theorem Spn.fresh (Y : Spn L B) (T : Latt L) {q : Nat × Vec} (hq : q ∈ B) {f : Vec} (hf : f = q.2 ∨ f = ng q.2) (hp : 0 < f q.1) : Fresh L q.1 f where
  fL := by
    rcases hf with e | e
    · rw [e]; exact Y.inL q hq
    · rw [e]; exact T.ng (Y.inL q hq)
  f0 i hi := by
    have h := (Y.ech.ok q hq).2 i hi
    rcases hf with e | e
    · rw [e]; exact h
    · rw [e]; show -q.2 i = 0; rw [h]; rfl
  fp := by omega
  fdv x hx h0 := by
    rcases fresh_of Y.ech (Y.to x hx) h0 with ⟨q', h1, h2, h3⟩ | ⟨h1, _⟩
    · have e : q' = q := by
        refine Classical.byContradiction fun ne => ?_
        obtain ⟨i, hi, ei⟩ := List.mem_iff_getElem.mp h1
        obtain ⟨j, hj, ej⟩ := List.mem_iff_getElem.mp hq
        have pw := List.pairwise_iff_getElem.mp Y.ech.rise
        by_cases c : i < j
        · have := pw i j hi hj c
          rw [ei, ej] at this
          omega
        · by_cases c2 : j < i
          · have := pw j i hj hi c2
            rw [ei, ej] at this
            omega
          · have eij : i = j := by omega
            subst eij
            exact ne (ei.symm.trans ej)
      rw [e] at h3
      rcases hf with e | e
      · rw [e]; exact h3
      · rw [e]
        show -q.2 q.1 ∣ x q.1
        exact Int.neg_dvd.mpr h3
    · exact absurd rfl (h1 q hq)
theorem Spn.fresh0 (Y : Spn L B) (T : Latt L) (hL : L fun _ => 0) {p : Nat} (no : ∀ q ∈ B, q.1 ≠ p) : Fresh L p fun _ => 0 where
  fL := hL
  f0 _ _ := rfl
  fp := Int.le_refl _
  fdv x hx h0 := by
    rcases fresh_of Y.ech (Y.to x hx) h0 with ⟨q, h1, h2, _⟩ | ⟨_, h2⟩
    · exact absurd h2 (no q h1)
    · rw [h2]
      exact Int.dvd_refl _
theorem Spn.det (Y : Spn L B) (T : Latt L) (x y : Vec) (hx : L x) (hy : L y) (h : ∀ i ∈ B.map (·.1), x i = y i) (i : Nat) : x i = y i := by
  have := told_of Y.ech (Y.to _ (T.sub _ _ hx hy)) (fun q hq => by
    have := h q.1 (List.mem_map.mpr ⟨q, hq, rfl⟩)
    show x q.1 - y q.1 = 0
    omega) i
  have e : sb x y i = x i - y i := rfl
  omega
/-- rows that are least up to a place, no two alike up to it, are few -/
theorem Spn.few (Y : Spn L B) (T : Latt L) {P n D : Nat} (le : P ≤ n) (small : ∀ z, L z → Nz n z → Least L n z → ∀ i, -(D : Int) ≤ z i ∧ z i ≤ D) {G : List Vec} (hG : ∀ g ∈ G, L g ∧ Nz P g ∧ Least L P g) (lift : ∀ g ∈ G, ∃ z, L z ∧ Nz n z ∧ Least L n z ∧ EqP P z g) (nd : G.Pairwise fun a b => ¬ EqP P a b) : G.length ≤ (2 * D + 1) ^ B.length := by
  have := few_rows (L := L) (P := P) (D := D) (piv := B.map (·.1)) (Y.det T) (G := G) (fun g hg => by
    obtain ⟨z, z1, z2, z3, z4⟩ := lift g hg
    exact ⟨z, z1, z4, small z z1 z2 z3⟩) nd
  rwa [List.length_map] at this
end
end GR
end HL

namespace HL
namespace GR
open BL (Vec ad sb un sumV Ld Fit Lb Row Lot sm)
/-! three goods, three kinds: what some swap leaves of the goods -/
/-- a lot as seen through some goods -/
def prj (ll : List Row) (js : List Nat) : List Row := ll.map fun h => js.map fun j => h.getD j 0
theorem Lb_prj {js : List Nat} {k : Nat} (hk : k < js.length) : ∀ {ll : List Row} {x : Vec}, Lb (prj ll js) x k = Lb ll x (js.getD k 0)
  | [], _ => rfl
  | h :: t, x => by
    have ih := Lb_prj hk (ll := t) (x := BL.sh x)
    show x 0 * (js.map fun j => h.getD j 0).getD k 0 + Lb (prj t js) (BL.sh x) k = x 0 * h.getD (js.getD k 0) 0 + Lb t (BL.sh x) (js.getD k 0)
    rw [ih]
    have e : (js.map fun j => h.getD j 0).getD k 0 = h.getD (js.getD k 0) 0 := by
      rw [List.getD_eq_getElem?_getD, List.getElem?_map, List.getD_eq_getElem?_getD (l := js), List.getElem?_eq_getElem hk]
      rfl
    rw [e]
theorem prj_len {ll : List Row} {js : List Nat} : (prj ll js).length = ll.length := by unfold prj; rw [List.length_map]
/-- where the other goods follow from those seen, the swaps are the same -/
theorem kr_prj {ll : List Row} {g : Nat} {js : List Nat} (h1 : ∀ j ∈ js, j < g) (h2 : ∀ y, (∀ i, ll.length ≤ i → y i = 0) → (∀ j ∈ js, Lb ll y j = 0) → ∀ j, j < g → Lb ll y j = 0) (y : Vec) : Kr ll g y ↔ Kr (prj ll js) js.length y := by
  constructor
  · rintro ⟨a, b⟩
    refine ⟨fun i hi => a i (by rw [prj_len] at hi; exact hi), fun k hk => ?_⟩
    rw [Lb_prj hk]
    refine b _ (h1 _ ?_)
    rw [List.getD_eq_getElem?_getD, List.getElem?_eq_getElem hk]
    exact List.getElem_mem _
  · rintro ⟨a, b⟩
    rw [prj_len] at a
    refine ⟨a, h2 y a fun j hj => ?_⟩
    obtain ⟨k, hk, e⟩ := List.mem_iff_getElem.mp hj
    have := b k hk
    rw [Lb_prj hk, List.getD_eq_getElem?_getD, List.getElem?_eq_getElem hk, e] at this
    exact this
theorem least_iff {L L' : Vec → Prop} (h : ∀ y, L y ↔ L' y) {P : Nat} {x : Vec} (hx : Least L P x) : Least L' P x := fun y hy nz cf => hx y ((h y).mpr hy) nz cf
/-- two rows upright on two rows that aren't on a line are on a line -/
theorem on_line {a1 a2 a3 b1 b2 b3 x1 x2 x3 y1 y2 y3 r1 r2 r3 : Int} (ha : a1 * x1 + a2 * x2 + a3 * x3 = 0) (hb : b1 * x1 + b2 * x2 + b3 * x3 = 0) (hr : r1 * x1 + r2 * x2 + r3 * x3 = 0)
    (ya : a1 * y1 + a2 * y2 + a3 * y3 = 0) (yb : b1 * y1 + b2 * y2 + b3 * y3 = 0) (hc : a2 * b3 - a3 * b2 ≠ 0 ∨ a3 * b1 - a1 * b3 ≠ 0 ∨ a1 * b2 - a2 * b1 ≠ 0) (hx : x1 ≠ 0 ∨ x2 ≠ 0 ∨ x3 ≠ 0) : r1 * y1 + r2 * y2 + r3 * y3 = 0 := by
  -- both are multiples of what stands upright
  have p12 : (a2 * b3 - a3 * b2) * x2 = (a3 * b1 - a1 * b3) * x1 := by grind
  have p13 : (a2 * b3 - a3 * b2) * x3 = (a1 * b2 - a2 * b1) * x1 := by grind
  have p23 : (a3 * b1 - a1 * b3) * x3 = (a1 * b2 - a2 * b1) * x2 := by grind
  have q12 : (a2 * b3 - a3 * b2) * y2 = (a3 * b1 - a1 * b3) * y1 := by grind
  have q13 : (a2 * b3 - a3 * b2) * y3 = (a1 * b2 - a2 * b1) * y1 := by grind
  have q23 : (a3 * b1 - a1 * b3) * y3 = (a1 * b2 - a2 * b1) * y2 := by grind
  generalize a2 * b3 - a3 * b2 = c1 at *
  generalize a3 * b1 - a1 * b3 = c2 at *
  generalize a1 * b2 - a2 * b1 = c3 at *
  have key : ∀ c : Int, c ≠ 0 → c * (r1 * y1 + r2 * y2 + r3 * y3) = 0 → r1 * y1 + r2 * y2 + r3 * y3 = 0 := fun c hc h => (Int.mul_eq_zero.mp h).resolve_left hc
  rcases hc with h | h | h
  · have x10 : x1 ≠ 0 := fun z => by
      rw [z] at p12 p13
      have e2 : x2 = 0 := (Int.mul_eq_zero.mp (show c1 * x2 = 0 by rw [p12]; simp)).resolve_left h
      have e3 : x3 = 0 := (Int.mul_eq_zero.mp (show c1 * x3 = 0 by rw [p13]; simp)).resolve_left h
      omega
    refine key (c1 * x1) (fun z => (Int.mul_eq_zero.mp z).elim h x10) ?_
    have : c1 * x1 * (r1 * y1 + r2 * y2 + r3 * y3) = y1 * (c1 * (r1 * x1 + r2 * x2 + r3 * x3)) := by grind
    rw [this, hr]
    simp
  · have x20 : x2 ≠ 0 := fun z => by
      rw [z] at p12 p23
      have e1 : x1 = 0 := (Int.mul_eq_zero.mp (show c2 * x1 = 0 by rw [← p12]; simp)).resolve_left h
      have e3 : x3 = 0 := (Int.mul_eq_zero.mp (show c2 * x3 = 0 by rw [p23]; simp)).resolve_left h
      omega
    refine key (c2 * x2) (fun z => (Int.mul_eq_zero.mp z).elim h x20) ?_
    have : c2 * x2 * (r1 * y1 + r2 * y2 + r3 * y3) = y2 * (c2 * (r1 * x1 + r2 * x2 + r3 * x3)) := by grind
    rw [this, hr]
    simp
  · have x30 : x3 ≠ 0 := fun z => by
      rw [z] at p13 p23
      have e1 : x1 = 0 := (Int.mul_eq_zero.mp (show c3 * x1 = 0 by rw [← p13]; simp)).resolve_left h
      have e2 : x2 = 0 := (Int.mul_eq_zero.mp (show c3 * x2 = 0 by rw [← p23]; simp)).resolve_left h
      omega
    refine key (c3 * x3) (fun z => (Int.mul_eq_zero.mp z).elim h x30) ?_
    have : c3 * x3 * (r1 * y1 + r2 * y2 + r3 * y3) = y3 * (c3 * (r1 * x1 + r2 * x2 + r3 * x3)) := by grind
    rw [this, hr]
    simp
end GR
end HL

namespace HL
namespace GR
open BL (Vec ad sb un sumV Ld Fit Lb Row Lot sm)
/-- a good's amount in a kind -/
def am (ll : List Row) (j i : Nat) : Int := (ll.getD i []).getD j 0
theorem lb3 {ll : List Row} (h : ll.length ≤ 3) (y : Vec) (j : Nat) : Lb ll y j = am ll j 0 * y 0 + am ll j 1 * y 1 + am ll j 2 * y 2 := by
  have z : ∀ {i : Nat}, (([] : List Row).getD i []).getD j 0 = 0 := fun {i} => by simp
  match ll, h with
  | [], _ => show (0 : Int) = 0 * y 0 + 0 * y 1 + 0 * y 2; omega
  | [a], _ =>
    show y 0 * a.getD j 0 + 0 = a.getD j 0 * y 0 + 0 * y 1 + 0 * y 2
    rw [Int.mul_comm]
    omega
  | [a, b], _ =>
    show y 0 * a.getD j 0 + (y 1 * b.getD j 0 + 0) = a.getD j 0 * y 0 + b.getD j 0 * y 1 + 0 * y 2
    rw [Int.mul_comm (y 0), Int.mul_comm (y 1)]
    omega
  | [a, b, c], _ =>
    show y 0 * a.getD j 0 + (y 1 * b.getD j 0 + (y 2 * c.getD j 0 + 0)) = a.getD j 0 * y 0 + b.getD j 0 * y 1 + c.getD j 0 * y 2
    rw [Int.mul_comm (y 0), Int.mul_comm (y 1), Int.mul_comm (y 2)]
    omega
  | _ :: _ :: _ :: _ :: _, h => simp at h
def Cross (ll : List Row) (j k : Nat) : Prop := am ll j 1 * am ll k 2 - am ll j 2 * am ll k 1 ≠ 0 ∨ am ll j 2 * am ll k 0 - am ll j 0 * am ll k 2 ≠ 0 ∨ am ll j 0 * am ll k 1 - am ll j 1 * am ll k 0 ≠ 0
structure Lot3 (ll : List Row) : Prop where
  n1 : 1 ≤ ll.length
  n3 : ll.length ≤ 3
  am : ∀ i, i < ll.length → ∀ j, 0 ≤ am ll j i ∧ am ll j i ≤ 2
  some : ∀ i, i < ll.length → ∃ j, j < 3 ∧ GR.am ll j i ≠ 0
theorem un_am {ll : List Row} (h3 : ll.length ≤ 3) {i j : Nat} (hi : i < ll.length) : am ll j 0 * un i 0 + am ll j 1 * un i 1 + am ll j 2 * un i 2 = am ll j i := by
  have c : i = 0 ∨ i = 1 ∨ i = 2 := by omega
  rcases c with e | e | e <;> subst e <;> simp [un]
theorem mem_idx {ll : List Row} {h : Row} (hh : h ∈ ll) : ∃ i, i < ll.length ∧ ∀ j, h.getD j 0 = am ll j i := by
  obtain ⟨i, hi, e⟩ := List.mem_iff_getElem.mp hh
  refine ⟨i, hi, fun j => ?_⟩
  unfold am
  rw [List.getD_eq_getElem?_getD (l := ll), List.getElem?_eq_getElem hi, e]
  rfl
theorem in_kw2 {a b : Int} (ha : 0 ≤ a ∧ a ≤ 2) (hb : 0 ≤ b ∧ b ≤ 2) (h : a ≠ 0 ∨ b ≠ 0) : [a, b] ∈ kw2 := by
  have c : a = 0 ∨ a = 1 ∨ a = 2 := by omega
  have d : b = 0 ∨ b = 1 ∨ b = 2 := by omega
  rcases c with rfl | rfl | rfl <;> rcases d with rfl | rfl | rfl <;> first | omega | decide
theorem in_kw1 {a : Int} (ha : 1 ≤ a ∧ a ≤ 2) : [a] ∈ kw1 := by
  have c : a = 1 ∨ a = 2 := by omega
  rcases c with rfl | rfl <;> decide
section
variable {ll : List Row} {x : Vec}
theorem pair_case (T : Lot3 ll) {j k l : Nat} (hj : j < 3) (hk : k < 3) (cov : ∀ t, t < 3 → t = j ∨ t = k ∨ t = l) (hl : l < 3) (hc : Cross ll j k) (hx : Kr ll 3 x) (nz : Nz ll.length x) (least : Least (Kr ll 3) ll.length x) (i : Nat) : -5 ≤ x i ∧ x i ≤ 5 := by
  have x3 : x 0 ≠ 0 ∨ x 1 ≠ 0 ∨ x 2 ≠ 0 := by
    obtain ⟨t, ht, h⟩ := nz
    have := T.n3
    have c : t = 0 ∨ t = 1 ∨ t = 2 := by omega
    rcases c with e | e | e <;> subst e
    · exact .inl h
    · exact .inr (.inl h)
    · exact .inr (.inr h)
  have up : ∀ t, t < 3 → am ll t 0 * x 0 + am ll t 1 * x 1 + am ll t 2 * x 2 = 0 := fun t ht => by rw [← lb3 T.n3]; exact hx.2 t ht
  have fol : ∀ y : Vec, am ll j 0 * y 0 + am ll j 1 * y 1 + am ll j 2 * y 2 = 0 → am ll k 0 * y 0 + am ll k 1 * y 1 + am ll k 2 * y 2 = 0 → am ll l 0 * y 0 + am ll l 1 * y 1 + am ll l 2 * y 2 = 0 := fun y h1 h2 => on_line (up j hj) (up k hk) (up l hl) h1 h2 hc x3
  have eqk := kr_prj (ll := ll) (g := 3) (js := [j, k]) (fun t ht => by
    simp at ht
    omega) (fun y _ hy t ht => by
    have h1 := hy j (by simp)
    have h2 := hy k (by simp)
    rw [lb3 T.n3] at h1 h2
    rcases cov t ht with e | e | e
    · rw [e, lb3 T.n3]; exact h1
    · rw [e, lb3 T.n3]; exact h2
    · rw [e, lb3 T.n3]; exact fol y h1 h2)
  have hin : ∀ h ∈ prj ll [j, k], h ∈ kw2 := fun h hh => by
    obtain ⟨h', hh', rfl⟩ := List.mem_map.mp hh
    obtain ⟨t, ht, e⟩ := mem_idx hh'
    show [h'.getD j 0, h'.getD k 0] ∈ kw2
    rw [e, e]
    refine in_kw2 (T.am t ht j) (T.am t ht k) ?_
    refine Classical.byContradiction fun no => ?_
    have z1 : am ll j t = 0 := Classical.byContradiction fun z => no (.inl z)
    have z2 : am ll k t = 0 := Classical.byContradiction fun z => no (.inr z)
    have z3 := fol (un t) (by rw [un_am T.n3 ht]; exact z1) (by rw [un_am T.n3 ht]; exact z2)
    rw [un_am T.n3 ht] at z3
    obtain ⟨q, hq, hne⟩ := T.some t ht
    rcases cov q hq with e | e | e
    · rw [e] at hne; exact hne z1
    · rw [e] at hne; exact hne z2
    · rw [e] at hne; exact hne z3
  have := kr_small (ll := prj ll [j, k]) (g := 2) kw2_ok (by decide) (by decide) (by rw [prj_len]; have := T.n3; omega) hin ((eqk x).mp hx) (by rw [prj_len]; exact nz) (by rw [prj_len]; exact least_iff eqk least) i
  exact this
theorem line_case (T : Lot3 ll) (h0 : ¬ Cross ll 0 1 ∧ ¬ Cross ll 1 2 ∧ ¬ Cross ll 0 2) (hx : Kr ll 3 x) (nz : Nz ll.length x) (least : Least (Kr ll 3) ll.length x) (i : Nat) : -5 ≤ x i ∧ x i ≤ 5 := by
  obtain ⟨j, hj, hne⟩ := T.some 0 T.n1
  have flat : ∀ {a b : Nat}, ¬ Cross ll a b → am ll a 0 * am ll b 1 = am ll b 0 * am ll a 1 ∧ am ll a 0 * am ll b 2 = am ll b 0 * am ll a 2 := fun {a b} h => by
    unfold Cross at h
    have h1 : am ll a 2 * am ll b 0 - am ll a 0 * am ll b 2 = 0 := Classical.byContradiction fun z => h (.inr (.inl z))
    have h2 : am ll a 0 * am ll b 1 - am ll a 1 * am ll b 0 = 0 := Classical.byContradiction fun z => h (.inr (.inr z))
    rw [Int.mul_comm (am ll b 0), Int.mul_comm (am ll b 0)]
    omega
  have all : ∀ l, l < 3 → ∀ t, t < 3 → am ll j 0 * am ll l t = am ll l 0 * am ll j t := fun l hl t ht => by
    obtain ⟨f1, f2⟩ := flat h0.1
    obtain ⟨g1, g2⟩ := flat h0.2.1
    obtain ⟨k1, k2⟩ := flat h0.2.2
    have cj : j = 0 ∨ j = 1 ∨ j = 2 := by omega
    have cl : l = 0 ∨ l = 1 ∨ l = 2 := by omega
    have ct : t = 0 ∨ t = 1 ∨ t = 2 := by omega
    rcases cj with e | e | e <;> subst e <;> rcases cl with e | e | e <;> subst e <;> rcases ct with e | e | e <;> subst e <;> first | rfl | exact Int.mul_comm _ _ | exact f1 | exact f2 | exact g1 | exact g2 | exact k1 | exact k2 | exact f1.symm | exact f2.symm | exact g1.symm | exact g2.symm | exact k1.symm | exact k2.symm
  have fol : ∀ l, l < 3 → ∀ y : Vec, am ll j 0 * y 0 + am ll j 1 * y 1 + am ll j 2 * y 2 = 0 → am ll l 0 * y 0 + am ll l 1 * y 1 + am ll l 2 * y 2 = 0 := fun l hl y h => by
    have a0 := all l hl 0 (by decide)
    have a1 := all l hl 1 (by decide)
    have a2 := all l hl 2 (by decide)
    refine (Int.mul_eq_zero.mp ?_).resolve_left hne
    have : am ll j 0 * (am ll l 0 * y 0 + am ll l 1 * y 1 + am ll l 2 * y 2) = am ll l 0 * (am ll j 0 * y 0 + am ll j 1 * y 1 + am ll j 2 * y 2) := by grind
    rw [this, h]
    simp
  have eqk := kr_prj (ll := ll) (g := 3) (js := [j]) (fun t ht => by
    simp at ht
    omega) (fun y _ hy t ht => by
    have h1 := hy j (by simp)
    rw [lb3 T.n3] at h1
    rw [lb3 T.n3]
    exact fol t ht y h1)
  have hin : ∀ h ∈ prj ll [j], h ∈ kw1 := fun h hh => by
    obtain ⟨h', hh', rfl⟩ := List.mem_map.mp hh
    obtain ⟨t, ht, e⟩ := mem_idx hh'
    show [h'.getD j 0] ∈ kw1
    rw [e]
    have b := T.am t ht j
    refine in_kw1 ⟨?_, b.2⟩
    refine Classical.byContradiction fun z => ?_
    have z0 : am ll j t = 0 := by omega
    obtain ⟨q, hq, hqn⟩ := T.some t ht
    have := all q hq t (by have := T.n3; omega)
    rw [z0, Int.mul_zero] at this
    exact hqn ((Int.mul_eq_zero.mp this).resolve_left hne)
  have := kr_small (ll := prj ll [j]) (g := 1) kw1_ok (by decide) (by decide) (by rw [prj_len]; have := T.n3; omega) hin ((eqk x).mp hx) (by rw [prj_len]; exact nz) (by rw [prj_len]; exact least_iff eqk least) i
  omega
/-- three goods to 2, three kinds: the numbers of least swaps are small -/
theorem three_small (T : Lot3 ll) (hx : Kr ll 3 x) (nz : Nz ll.length x) (least : Least (Kr ll 3) ll.length x) (i : Nat) : -5 ≤ x i ∧ x i ≤ 5 := by
  by_cases c1 : Cross ll 0 1
  · exact pair_case T (l := 2) (by decide) (by decide) (fun t ht => by omega) (by decide) c1 hx nz least i
  · by_cases c2 : Cross ll 1 2
    · exact pair_case T (l := 0) (by decide) (by decide) (fun t ht => by omega) (by decide) c2 hx nz least i
    · by_cases c3 : Cross ll 0 2
      · exact pair_case T (l := 1) (by decide) (by decide) (fun t ht => by omega) (by decide) c3 hx nz least i
      · exact line_case T ⟨c1, c2, c3⟩ hx nz least i
end
end GR
end HL

namespace HL
namespace GR
open BL (Vec ad sb un sumV Lb)
/-! from rows of numbers to vectors -/
def vzR (r : List Int) : Vec := fun i => r.getD i 0
theorem sub_getD {k : Int} : ∀ {v r : List Int}, v.length = r.length → ∀ i, (subR v r k).getD i 0 = v.getD i 0 - k * r.getD i 0
  | [], [], _, i => by
    show ([] : List Int).getD i 0 = ([] : List Int).getD i 0 - k * ([] : List Int).getD i 0
    simp
  | x :: v, y :: r, h, 0 => rfl
  | x :: v, y :: r, h, i + 1 => sub_getD (v := v) (r := r) (by simpa using h) i
  | [], _ :: _, h, _ => by simp at h
  | _ :: _, [], h, _ => by simp at h
theorem lat_span {n : Nat} {rows : List (List Int)} {v : List Int} (hL : Len n rows) (h : Lat n rows v) : SpanV (rows.map vzR) (vzR v) := by
  induction h with
  | nil =>
    refine span_congr (fun i => ?_) span_nil
    show (0 : Int) = (List.replicate n 0).getD i 0
    rw [List.getD_eq_getElem?_getD, List.getElem?_replicate]
    split <;> rfl
  | @more v r k hv hr ih =>
    have el : v.length = r.length := by rw [hv.len hL, hL r hr]
    refine span_congr (fun i => ?_) (span_add (k := -k) (span_mem (List.mem_map.mpr ⟨r, hr, rfl⟩)) ih)
    show -k * r.getD i 0 + v.getD i 0 = (subR v r k).getD i 0
    rw [sub_getD el, Int.neg_mul]
    omega
theorem ech_v {n : Nat} {st : List (Nat × List Int)} (E : Ech n st) : EchV (st.map fun q => (q.1, vzR q.2)) where
  rise := by
    rw [List.pairwise_map]
    exact E.rise
  ok q hq := by
    obtain ⟨q', hq', rfl⟩ := List.mem_map.mp hq
    obtain ⟨_, _, h1, h2⟩ := E.ok q' hq'
    exact ⟨h1, h2⟩
theorem split_st {g : Nat} : ∀ {st : List (Nat × List Int)}, st.Pairwise (fun a b => a.1 < b.1) → st = st.filter (fun q => decide (q.1 < g)) ++ st.filter (fun q => decide (g ≤ q.1))
  | [], _ => rfl
  | q :: st, h => by
    obtain ⟨h1, h2⟩ := List.pairwise_cons.mp h
    have ih := split_st (g := g) h2
    by_cases c : q.1 < g
    · rw [List.filter_cons, List.filter_cons, if_pos (show decide (q.1 < g) = true from decide_eq_true c), if_neg (show ¬ decide (g ≤ q.1) = true from fun z => absurd (of_decide_eq_true z) (by omega)), List.cons_append, ← ih]
    · have e : st.filter (fun q => decide (q.1 < g)) = [] := by
        rw [List.filter_eq_nil_iff]
        intro x hx
        have := h1 x hx
        rw [decide_eq_false (by omega)]
        decide
      rw [List.filter_cons, List.filter_cons, if_neg (show ¬ decide (q.1 < g) = true from fun z => c (of_decide_eq_true z)), if_pos (show decide (g ≤ q.1) = true from decide_eq_true (by omega)), e, List.nil_append]
      rw [e, List.nil_append] at ih
      rw [← ih]
/-- the counts behind the goods -/
def behind (g k : Nat) (v : List Int) : Vec := fun i => if i < k then v.getD (g + i) 0 else 0
/-- what wide rows come to: the goods are those of the counts -/
theorem lat_goods {g k : Nat} {ll : List (List Int)} {W : List (List Int)} (hW : Len (g + k) W) (h0 : ∀ w ∈ W, ∀ j, j < g → w.getD j 0 = Lb ll (behind g k w) j) {v : List Int} (h : Lat (g + k) W v) : ∀ j, j < g → v.getD j 0 = Lb ll (behind g k v) j := by
  induction h with
  | nil =>
    intro j hj
    have e : behind g k (List.replicate (g + k) 0) = fun _ => 0 := funext fun i => by
      unfold behind
      split
      · rw [List.getD_eq_getElem?_getD, List.getElem?_replicate]
        split <;> rfl
      · rfl
    rw [e, BL.Lb_zero fun _ _ => rfl, List.getD_eq_getElem?_getD, List.getElem?_replicate]
    split <;> rfl
  | @more v r c hv hr ih =>
    intro j hj
    have el : v.length = r.length := by rw [hv.len hW, hW r hr]
    have e : behind g k (subR v r c) = sb (behind g k v) (fun i => c * behind g k r i) := funext fun i => by
      show (if i < k then (subR v r c).getD (g + i) 0 else 0) = (if i < k then v.getD (g + i) 0 else 0) - c * (if i < k then r.getD (g + i) 0 else 0)
      split
      · rw [sub_getD el]
      · simp
    rw [sub_getD el, e, Lb_sb, BL.Lb_mul, ih j hj, h0 r hr j hj]
end GR
end HL

namespace HL
namespace GR
open BL (Vec ad sb un sumV Lb sm)
/-! a lot's swaps are spanned by what the wide rows' stairs have behind the goods -/
theorem sumW_sm {c : Vec} {W : Nat → Vec} {t : Nat} : ∀ {k : Nat}, sumW c W k t = sm k fun i => c i * W i t
  | 0 => rfl
  | k + 1 => by
    show c k * W k t + sumW c W k t = sm k (fun i => c i * W i t) + c k * W k t
    rw [sumW_sm]
    omega
/-- the stairs behind the goods -/
def backSt (g : Nat) (st : List (Nat × List Int)) : List (Nat × Vec) := ((st.filter fun q => decide (g ≤ q.1)).map fun q => (q.1, vzR q.2)).map fun q => (q.1 - g, fun i => q.2 (g + i))
theorem spn_of {g k : Nat} {ll W : List (List Int)} {st : List (Nat × List Int)} (hk : ll.length = k) (hWl : W.length = k) (hL : Len (g + k) W) (hg : ∀ i, i < k → ∀ j, j < g → (W.getD i []).getD j 0 = (ll.getD i []).getD j 0) (hu : ∀ i, i < k → ∀ t, t < k → (W.getD i []).getD (g + t) 0 = un i t)
    (E : Ech (g + k) st) (S : SameLat (g + k) W (st.map (·.2))) : Spn (Kr ll g) (backSt g st) := by
  have hS : Len (g + k) (st.map (·.2)) := lenS E
  have h0 : ∀ w ∈ W, ∀ j, j < g → w.getD j 0 = Lb ll (behind g k w) j := fun w hw j hj => by
    obtain ⟨i, hi, rfl⟩ := List.mem_iff_getElem.mp hw
    have ew : W.getD i [] = W[i] := by rw [List.getD_eq_getElem?_getD, List.getElem?_eq_getElem hi]; rfl
    have eb : behind g k W[i] = un i := funext fun t => by
      unfold behind
      by_cases c : t < k
      · rw [if_pos c, ← ew]
        exact hu i (by omega) t c
      · rw [if_neg c]
        unfold un
        rw [if_neg (by omega)]
    rw [eb, BL.Lb_un (by omega), ← ew]
    exact hg i (by omega) j hj
  have EB : Ech (g + k) (st.filter fun q => decide (g ≤ q.1)) := ⟨E.rise.filter _, fun q hq => E.ok q (List.mem_filter.mp hq).1⟩
  refine ⟨ech_shift (ech_v EB) fun q hq => ?_, fun q hq => ?_, fun x hx => ?_⟩
  · obtain ⟨q', hq', rfl⟩ := List.mem_map.mp hq
    exact of_decide_eq_true (List.mem_filter.mp hq').2
  · obtain ⟨q1, hq1, rfl⟩ := List.mem_map.mp hq
    obtain ⟨q2, hq2, rfl⟩ := List.mem_map.mp hq1
    obtain ⟨m2, c2⟩ := List.mem_filter.mp hq2
    have hge : g ≤ q2.1 := of_decide_eq_true c2
    obtain ⟨_, e2, _, e4⟩ := E.ok q2 m2
    have hlat := S.2 q2.2 (List.mem_map.mpr ⟨q2, m2, rfl⟩)
    have eb : behind g k q2.2 = fun i => vzR q2.2 (g + i) := funext fun i => by
      unfold behind
      by_cases c : i < k
      · rw [if_pos c]; rfl
      · rw [if_neg c]
        show 0 = q2.2.getD (g + i) 0
        rw [List.getD_eq_getElem?_getD, List.getElem?_eq_none (by omega)]
        rfl
    refine ⟨fun i hi => ?_, fun j hj => ?_⟩
    · show q2.2.getD (g + i) 0 = 0
      rw [List.getD_eq_getElem?_getD, List.getElem?_eq_none (by omega)]
      rfl
    · have := lat_goods hL h0 hlat j hj
      rw [eb] at this
      show Lb ll (fun i => vzR q2.2 (g + i)) j = 0
      rw [← this]
      exact e4 j (by omega)
  · have es : (st.map (·.2)).map vzR = (((st.filter fun q => decide (q.1 < g)).map fun q => (q.1, vzR q.2)) ++ ((st.filter fun q => decide (g ≤ q.1)).map fun q => (q.1, vzR q.2))).map (·.2) := by
      rw [← List.map_append, ← split_st E.rise, List.map_map, List.map_map]
      rfl
    have EA : EchV (((st.filter fun q => decide (q.1 < g)).map fun q => (q.1, vzR q.2)) ++ ((st.filter fun q => decide (g ≤ q.1)).map fun q => (q.1, vzR q.2))) := by
      rw [← List.map_append, ← split_st E.rise]
      exact ech_v E
    have low : ∀ t, t < g → sumW x (fun i => vzR (W.getD i [])) k t = 0 := fun t ht => by
      rw [sumW_sm, ← hx.2 t ht, BL.Lb_sm, hk]
      refine BL.sm_congr fun i hi => ?_
      show x i * (W.getD i []).getD t 0 = x i * (ll.getD i []).getD t 0
      rw [hg i hi t ht]
    have sp := span_of (g := g) (k := k) (W := fun i => vzR (W.getD i [])) (c := x) EA (fun q hq => by
      obtain ⟨q', hq', rfl⟩ := List.mem_map.mp hq
      exact of_decide_eq_true (List.mem_filter.mp hq').2) (fun i hi => by
      rw [← es]
      refine lat_span hS (S.1 _ ?_)
      rw [List.getD_eq_getElem?_getD, List.getElem?_eq_getElem (by omega)]
      exact List.getElem_mem _) low
    have sh := span_shift (g := g) sp
    have el : (((st.filter fun q => decide (g ≤ q.1)).map fun q => (q.1, vzR q.2)).map (·.2)).map (fun r => fun i => r (g + i)) = (backSt g st).map (·.2) := by
      unfold backSt
      rw [List.map_map, List.map_map, List.map_map, List.map_map]
      rfl
    rw [el] at sh
    refine span_congr (fun t => ?_) sh
    by_cases c : t < k
    · rw [sumW_sm, BL.sm_congr (y := fun i => x t * un t i) fun i hi => ?_]
      · exact BL.sm_cun c
      · show x i * (W.getD i []).getD (g + t) 0 = x t * un t i
        rw [hu i hi t c]
        unfold un
        by_cases q : t = i
        · rw [if_pos q, if_pos q.symm, q]
        · rw [if_neg q, if_neg fun z => q z.symm]
          omega
    · rw [hx.1 t (by omega), sumW_sm, BL.sm_congr (y := fun _ => 0) fun i hi => ?_]
      · exact BL.sm_zero
      · show x i * (W.getD i []).getD (g + t) 0 = 0
        have hlen : (W.getD i []).length = g + k := by
          rw [List.getD_eq_getElem?_getD, List.getElem?_eq_getElem (by omega)]
          exact hL _ (List.getElem_mem _)
        rw [List.getD_eq_getElem?_getD (l := W.getD i []), List.getElem?_eq_none (by omega)]
        show x i * 0 = 0
        omega
end GR
end HL

namespace HL
/-! ### fillings as the program lists them: begun kind by kind, each left with what can still be filled -/
def begF (t : List (List Int)) (h : List Int) (q : List Int × List Int) : List (List Int × List Int) :=
  ((takes q.2 h).filter fun (k : Nat) => decide (0 < cnt t (subR q.2 h (k : Int)))).map fun (k : Nat) => (q.1 ++ [(k : Int)], subR q.2 h (k : Int))
def begAt (ll : List (List Int)) (S : List (List Int × List Int)) : Nat → List (List Int × List Int)
  | 0 => S
  | i + 1 => (begAt ll S i).flatMap (begF (ll.drop (i + 1)) (ll.getD i []))
theorem fils_nil {l : List (List Int)} {b : List Int} (h : cnt l b = 0) : fils l b = [] := by
  have := fils_len l b
  rw [h] at this
  exact List.eq_nil_of_length_eq_zero this
theorem begF_fils {g : Nat} {t : List (List Int)} {h : List Int} {q : List Int × List Int} (hl : ∀ x ∈ h :: t, Kd g x) (hq : q.2.length = g) : (begF t h q).flatMap (fun q' => (fils t q'.2).map fun c => q'.1 ++ c) = (fils (h :: t) q.2).map fun c => q.1 ++ c := by
  have kh := hl h List.mem_cons_self
  have hlen : ∀ k : Nat, (subR q.2 h (k : Int)).length = g := fun k => by rw [subR_len (by rw [hq, kh.1]), hq]
  unfold begF
  rw [List.flatMap_map, flat_filter fun k _ hk => ?_]
  · unfold takes
    rw [flat_filter fun k _ hk => ?_]
    · show _ = ((List.range (q.2.sum.toNat + 1)).flatMap fun (k : Nat) => (fils t (subR q.2 h (k : Int))).map fun c => (k : Int) :: c).map fun c => q.1 ++ c
      rw [List.map_flatMap]
      congr 1
      funext k
      rw [List.map_map]
      congr 1
      funext c
      show (q.1 ++ [(k : Int)]) ++ c = q.1 ++ ((k : Int) :: c)
      rw [List.append_assoc]
      rfl
    · show (fils t (subR q.2 h (k : Int))).map _ = []
      rw [fils_nil (cnt_neg (fun x hx => hl x (List.mem_cons_of_mem _ hx)) (hlen k) hk)]
      rfl
  · have hk' : cnt t (subR q.2 h (k : Int)) = 0 := by
      have := of_decide_eq_false hk
      omega
    show (fils t (subR q.2 h (k : Int))).map _ = []
    rw [fils_nil hk']
    rfl
theorem begAt_len {g : Nat} {ll : List (List Int)} {S : List (List Int × List Int)} (hl : ∀ x ∈ ll, Kd g x) (hS : ∀ q ∈ S, q.2.length = g) : ∀ {i : Nat}, i ≤ ll.length → ∀ q ∈ begAt ll S i, q.2.length = g
  | 0, _, q, hq => hS q hq
  | i + 1, hi, q, hq => by
    obtain ⟨q0, h0, h1⟩ := List.mem_flatMap.mp hq
    unfold begF at h1
    obtain ⟨k, _, rfl⟩ := List.mem_map.mp h1
    have e0 := begAt_len hl hS (i := i) (by omega) q0 h0
    have hm : ll.getD i [] ∈ ll := by
      rw [List.getD_eq_getElem?_getD, List.getElem?_eq_getElem (by omega)]
      exact List.getElem_mem _
    show (subR q0.2 (ll.getD i []) (k : Int)).length = g
    rw [subR_len (by rw [e0, (hl _ hm).1]), e0]
theorem begAt_fils {g : Nat} {ll : List (List Int)} {S : List (List Int × List Int)} (hl : ∀ x ∈ ll, Kd g x) (hS : ∀ q ∈ S, q.2.length = g) : ∀ {i : Nat}, i ≤ ll.length →
    (begAt ll S i).flatMap (fun q => (fils (ll.drop i) q.2).map fun c => q.1 ++ c) = S.flatMap fun q => (fils ll q.2).map fun c => q.1 ++ c
  | 0, _ => rfl
  | i + 1, hi => by
    have ih := begAt_fils hl hS (i := i) (by omega)
    have ed : ll.drop i = ll.getD i [] :: ll.drop (i + 1) := by
      rw [List.drop_eq_getElem_cons (by omega), List.getD_eq_getElem?_getD, List.getElem?_eq_getElem (by omega)]
      rfl
    rw [← ih]
    show ((begAt ll S i).flatMap (begF (ll.drop (i + 1)) (ll.getD i []))).flatMap _ = _
    rw [List.flatMap_assoc]
    have hd : ∀ x ∈ ll.getD i [] :: ll.drop (i + 1), Kd g x := fun x hx => hl x (by rw [← ed] at hx; exact List.mem_of_mem_drop hx)
    have : ∀ q ∈ begAt ll S i, (begF (ll.drop (i + 1)) (ll.getD i []) q).flatMap (fun q' => (fils (ll.drop (i + 1)) q'.2).map fun c => q'.1 ++ c) = (fils (ll.drop i) q.2).map fun c => q.1 ++ c := fun q hq => by
      rw [begF_fils hd (begAt_len hl hS (by omega) q hq), ed]
    generalize begAt ll S i = l at this
    induction l with
    | nil => rfl
    | cons q l ih2 => rw [List.flatMap_cons, List.flatMap_cons, this q List.mem_cons_self, ih2 fun x hx => this x (List.mem_cons_of_mem _ hx)]
theorem begAt_some {ll : List (List Int)} {S : List (List Int × List Int)} (hS : ∀ q ∈ S, 0 < cnt ll q.2) : ∀ {i : Nat}, ∀ q ∈ begAt ll S i, 0 < cnt (ll.drop i) q.2
  | 0, q, hq => hS q hq
  | i + 1, q, hq => by
    obtain ⟨q0, h0, h1⟩ := List.mem_flatMap.mp hq
    unfold begF at h1
    obtain ⟨k, hk, rfl⟩ := List.mem_map.mp h1
    exact of_decide_eq_true (List.mem_filter.mp hk).2
/-- the last kind takes all that is left -/
theorem fils_last {g : Nat} {h b : List Int} (kh : Kd g h) (hb : b.length = g) (hc : 0 < cnt [h] b) : fils [h] b = [[b.sum / h.sum]] := by
  have hk : ∀ x ∈ [h], Kd g x := fun x hx => by rw [List.mem_singleton.mp hx]; exact kh
  have key : ∀ c ∈ fils [h] b, c = [b.sum / h.sum] := fun c hm => by
    have hC := (fils_mem hk hb).mp hm
    match c, hC with
    | [], hC => exact hC.elim
    | [k], hC =>
      have hz : zeroB (subR b h k) = true := hC.2
      have h0 : (subR b h k).sum = 0 := by
        have hall := zeroB_iff.mp hz
        generalize subR b h k = z at hall
        induction z with
        | nil => rfl
        | cons x z ih => rw [List.sum_cons, hall x List.mem_cons_self, ih fun n hn => hall n (List.mem_cons_of_mem _ hn)]; rfl
      rw [subR_sum (by rw [hb, kh.1])] at h0
      have hs := sum_kd kh
      have : b.sum / h.sum = k := by
        have e : b.sum = k * h.sum := by omega
        rw [e]
        exact Int.mul_ediv_cancel k (by omega)
      rw [this]
    | _ :: _ :: _, hC => exact hC.2.elim
  have hl := fils_len [h] b
  match e : fils [h] b with
  | [] => rw [e] at hl; simp at hl; omega
  | [c] => rw [key c (by rw [e]; exact List.mem_cons_self)]
  | c :: d :: r =>
    have P := fils_rise [h] b
    rw [e] at P
    have h1 := (List.pairwise_cons.mp P).1 d List.mem_cons_self
    rw [key c (by rw [e]; exact List.mem_cons_self), key d (by rw [e]; exact List.mem_cons_of_mem _ List.mem_cons_self)] at h1
    exact (lx_asymm h1 h1).elim
/-- fillings as told -/
theorem beg_told {g n : Nat} {ll : List (List Int)} {b h : List Int} (hl : ∀ x ∈ ll, Kd g x) (hb : b.length = g) (hn : ll.length = n + 1) (hh : ll[n]? = some h) :
    (begAt ll (if 0 < cnt ll b then [([], b)] else []) n).map (fun q => q.1 ++ [q.2.sum / h.sum]) = fils ll b := by
  have hS : ∀ q ∈ (if 0 < cnt ll b then [(([] : List Int), b)] else []), q.2.length = g ∧ 0 < cnt ll q.2 := fun q hq => by
    by_cases c : 0 < cnt ll b
    · rw [if_pos c] at hq
      rw [List.mem_singleton.mp hq]
      exact ⟨hb, c⟩
    · rw [if_neg c] at hq
      cases hq
  have e1 := begAt_fils hl (fun q hq => (hS q hq).1) (i := n) (by omega)
  have e2 : ((if 0 < cnt ll b then [(([] : List Int), b)] else []).flatMap fun q => (fils ll q.2).map fun c => q.1 ++ c) = fils ll b := by
    by_cases c : 0 < cnt ll b
    · rw [if_pos c, List.flatMap_cons, List.flatMap_nil, List.append_nil]
      show (fils ll b).map (fun c => [] ++ c) = _
      simp
    · rw [if_neg c, fils_nil (by omega)]
      rfl
  rw [← e2, ← e1]
  have ed : ll.drop n = [h] := by
    rw [List.drop_eq_getElem_cons (by omega), List.drop_eq_nil_of_le (by omega)]
    rw [(List.getElem?_eq_some_iff.mp hh).2]
  have hlen := begAt_len hl (fun q hq => (hS q hq).1) (i := n) (by omega)
  have hsome := begAt_some (fun q hq => (hS q hq).2) (i := n)
  rw [ed] at hsome ⊢
  generalize begAt ll _ n = l at hlen hsome
  have kh : Kd g h := hl h (List.mem_of_getElem? hh)
  induction l with
  | nil => rfl
  | cons q l ih =>
    rw [List.map_cons, List.flatMap_cons, ih (fun x hx => hlen x (List.mem_cons_of_mem _ hx)) (fun x hx => hsome x (List.mem_cons_of_mem _ hx)), fils_last kh (hlen q List.mem_cons_self) (hsome q List.mem_cons_self)]
    rfl
end HL

namespace HL
namespace GR
open BL (Vec ad sb un sumV Lb sm)
/-! fillings as vectors: from each filling of a bill told swaps lead to each other one; bills of two lumps -/
def shr (u v : List Int) : Prop := ∃ i, u.getD i 0 ≠ 0 ∧ v.getD i 0 ≠ 0
theorem shr_symm (u v : List Int) (h : shr u v) : shr v u := by
  obtain ⟨i, h1, h2⟩ := h
  exact ⟨i, h2, h1⟩
theorem subR_at : ∀ {xs ys : List Int} {k : Int}, xs.length = ys.length → ∀ i, (subR xs ys k).getD i 0 = xs.getD i 0 - k * ys.getD i 0
  | [], [], k, _, i => by
    show (0 : Int) = 0 - k * 0
    omega
  | x :: xs, y :: ys, k, e, i => by
    rw [subR_cons]
    cases i with
    | zero => rfl
    | succ i => exact subR_at (by simpa using e) i
  | [], _ :: _, _, e, _ => by simp at e
  | _ :: _, [], _, e, _ => by simp at e
theorem row_same {xs ys : List Int} (e : xs.length = ys.length) (h : ∀ i, xs.getD i 0 = ys.getD i 0) : xs = ys := by
  refine List.ext_getElem e fun i h1 h2 => ?_
  have := h i
  rw [List.getD_eq_getElem?_getD, List.getD_eq_getElem?_getD, List.getElem?_eq_getElem h1, List.getElem?_eq_getElem h2] at this
  exact this
theorem far_row {xs : List Int} {i : Nat} (h : xs.length ≤ i) : xs.getD i 0 = 0 := by
  rw [List.getD_eq_getElem?_getD, List.getElem?_eq_none h]
  rfl
theorem nn_at {xs : List Int} (h : ∀ n ∈ xs, 0 ≤ n) (i : Nat) : 0 ≤ xs.getD i 0 := by
  rw [List.getD_eq_getElem?_getD]
  cases e : xs[i]? with
  | none => exact Int.le_refl _
  | some z => exact h z (List.mem_of_getElem? e)
theorem nn_of {xs : List Int} (h : ∀ i, 0 ≤ xs.getD i 0) : ∀ n ∈ xs, 0 ≤ n := fun n hn => by
  obtain ⟨i, hi, e⟩ := List.mem_iff_getElem.mp hn
  have := h i
  rw [List.getD_eq_getElem?_getD, List.getElem?_eq_getElem hi, e] at this
  exact this
theorem comes_vz {g : Nat} : ∀ {ll : List (List Int)} {c b : List Int}, (∀ h ∈ ll, Kd g h) → b.length = g → (Comes ll c b ↔ c.length = ll.length ∧ (∀ z ∈ c, 0 ≤ z) ∧ ∀ j, b.getD j 0 = Lb ll (vzR c) j)
  | [], [], b, _, _ => by
    show zeroB b = true ↔ _
    rw [zeroB_iff]
    constructor
    · intro h
      refine ⟨rfl, (fun z hz => by cases hz), fun j => ?_⟩
      show b.getD j 0 = 0
      rw [List.getD_eq_getElem?_getD]
      cases e : b[j]? with
      | none => rfl
      | some z => exact h z (List.mem_of_getElem? e)
    · rintro ⟨_, _, h⟩ z hz
      obtain ⟨j, hj, e⟩ := List.mem_iff_getElem.mp hz
      have := h j
      rw [List.getD_eq_getElem?_getD, List.getElem?_eq_getElem hj, e] at this
      exact this
  | h :: t, k :: c, b, hk, hb => by
    have kh := hk h List.mem_cons_self
    have el : b.length = h.length := hb.trans kh.1.symm
    have ih := comes_vz (g := g) (ll := t) (c := c) (b := subR b h k) (fun x hx => hk x (List.mem_cons_of_mem _ hx)) (by rw [subR_len el]; exact hb)
    show (0 ≤ k ∧ Comes t c (subR b h k)) ↔ _
    rw [ih]
    have e : ∀ j, (subR b h k).getD j 0 = b.getD j 0 - k * h.getD j 0 := fun j => subR_at el j
    have e2 : ∀ j, Lb (h :: t) (vzR (k :: c)) j = k * h.getD j 0 + Lb t (vzR c) j := fun j => rfl
    constructor
    · rintro ⟨k0, l, n, q⟩
      refine ⟨by rw [List.length_cons, List.length_cons, l], fun z hz => ?_, fun j => ?_⟩
      · rcases List.mem_cons.mp hz with r | r
        · omega
        · exact n z r
      · have := q j
        rw [e] at this
        rw [e2]
        omega
    · rintro ⟨l, n, q⟩
      refine ⟨n k List.mem_cons_self, by simpa using l, fun z hz => n z (List.mem_cons_of_mem _ hz), fun j => ?_⟩
      have := q j
      rw [e2] at this
      rw [e]
      omega
  | [], _ :: _, _, _, _ => ⟨fun q => q.elim, fun q => by cases q.1⟩
  | _ :: _, [], _, _, _ => ⟨fun q => q.elim, fun q => by cases q.1⟩
/-- a lot, a bill, and the told rows -/
structure Lo (ll : List (List Int)) (g : Nat) (R : List (List Int)) : Prop where
  kd : ∀ h ∈ ll, Kd g h
  G : Grb (Kr ll g) ll.length (R.map vzR)
  len : ∀ r ∈ R, r.length = ll.length
section
variable {ll R : List (List Int)} {g : Nat} {b : List Int}
theorem diff_kr (hk : ∀ h ∈ ll, Kd g h) (hb : b.length = g) {u v : List Int} (hu : Comes ll u b) (hv : Comes ll v b) : Kr ll g (sb (vzR u) (vzR v)) := by
  obtain ⟨u1, _, u3⟩ := (comes_vz hk hb).mp hu
  obtain ⟨v1, _, v3⟩ := (comes_vz hk hb).mp hv
  refine ⟨fun i hi => ?_, fun j _ => ?_⟩
  · show u.getD i 0 - v.getD i 0 = 0
    rw [far_row (by omega), far_row (by omega)]
    rfl
  · rw [Lb_sb, ← u3 j, ← v3 j]
    omega
theorem Lb_out (hk : ∀ h ∈ ll, Kd g h) {x : Vec} {j : Nat} (hj : g ≤ j) : Lb ll x j = 0 := by
  rw [BL.Lb_sm]
  have : ∀ m, m ≤ ll.length → sm m (fun i => x i * (ll.getD i []).getD j 0) = 0 := fun m => by
    induction m with
    | zero => exact fun _ => rfl
    | succ m ih =>
      intro hm
      show sm m _ + x m * (ll.getD m []).getD j 0 = 0
      have e : ll.getD m [] = ll[m] := by rw [List.getD_eq_getElem?_getD, List.getElem?_eq_getElem (by omega)]; rfl
      rw [ih (by omega), e, far_row (by rw [(hk _ (List.getElem_mem (by omega))).1]; exact hj)]
      omega
  exact this _ (Nat.le_refl _)
/-- a filling with a swap laid to it, as long as none is below 0 -/
theorem fil_swap (hk : ∀ h ∈ ll, Kd g h) (hb : b.length = g) {u r : List Int} {k : Int} (hu : Comes ll u b) (hr : r.length = ll.length) (hK : Kr ll g (vzR r)) (nn : ∀ i, 0 ≤ u.getD i 0 - k * r.getD i 0) : Comes ll (subR u r k) b := by
  obtain ⟨u1, _, u3⟩ := (comes_vz hk hb).mp hu
  have el : u.length = r.length := by omega
  refine (comes_vz hk hb).mpr ⟨by rw [subR_len el]; exact u1, nn_of fun i => by rw [subR_at el]; exact nn i, fun j => ?_⟩
  have e : vzR (subR u r k) = sb (vzR u) (fun i => k * vzR r i) := funext fun i => subR_at el i
  rw [e, Lb_sb, BL.Lb_mul, ← u3 j]
  by_cases c : j < g
  · rw [hK.2 j c]
    omega
  · rw [Lb_out hk (by omega)]
    omega
/-- what holds something and comes to nothing is nothing -/
theorem none_of (hk : ∀ h ∈ ll, Kd g h) {x : Vec} (nn : ∀ i, 0 ≤ x i) (h0 : ∀ j, j < g → Lb ll x j = 0) : ∀ i, i < ll.length → x i = 0 := fun i hi => by
  have e : ll.getD i [] = ll[i] := by rw [List.getD_eq_getElem?_getD, List.getElem?_eq_getElem hi]; rfl
  obtain ⟨k1, k2, z, hz, zp⟩ := hk _ (List.getElem_mem hi)
  obtain ⟨j, hj, ej⟩ := List.mem_iff_getElem.mp hz
  have hjg : j < g := by omega
  have hp : 0 < (ll.getD i []).getD j 0 := by
    rw [e, List.getD_eq_getElem?_getD, List.getElem?_eq_getElem hj, ej]
    exact zp
  have hs := h0 j hjg
  rw [BL.Lb_sm] at hs
  have one := BL.sm_one (g := ll.length) (x := fun t => x t * (ll.getD t []).getD j 0) (i := i) (fun t ht => Int.mul_nonneg (nn t) (by
    have et : ll.getD t [] = ll[t] := by rw [List.getD_eq_getElem?_getD, List.getElem?_eq_getElem ht]; rfl
    rw [et]
    exact nn_at (hk _ (List.getElem_mem ht)).2.1 j)) hi
  rw [hs] at one
  have one : x i * (ll.getD i []).getD j 0 ≤ 0 := one
  have := nn i
  have h2 : x i * 1 ≤ x i * (ll.getD i []).getD j 0 := Int.mul_le_mul_of_nonneg_left (by omega) this
  omega
def dst (n : Nat) (u v : List Int) : Nat := sz n (sb (vzR u) (vzR v))
/-- one told swap nearer: it conforms to what is between -/
theorem toward (A : Lo ll g R) (hb : b.length = g) {u v : List Int} (hu : Comes ll u b) (hv : Comes ll v b) (ne : u ≠ v) :
    ∃ r ∈ R, ∃ s : Int, (s = 1 ∨ s = -1) ∧ (∀ i, (0 ≤ s * r.getD i 0 ∧ s * r.getD i 0 ≤ u.getD i 0 - v.getD i 0) ∨ (u.getD i 0 - v.getD i 0 ≤ s * r.getD i 0 ∧ s * r.getD i 0 ≤ 0)) ∧
      Comes ll (subR u r s) b ∧ Comes ll (subR v r (-s)) b ∧ dst ll.length (subR u r s) v < dst ll.length u v ∧ dst ll.length u (subR v r (-s)) < dst ll.length u v ∧ Nz ll.length (vzR r) := by
  obtain ⟨u1, u2, u3⟩ := (comes_vz A.kd hb).mp hu
  obtain ⟨v1, v2, v3⟩ := (comes_vz A.kd hb).mp hv
  have hx := diff_kr A.kd hb hu hv
  have nz : Nz ll.length (sb (vzR u) (vzR v)) := Classical.byContradiction fun c => ne (row_same (by omega) fun i => by
    by_cases hi : i < ll.length
    · refine Classical.byContradiction fun d => c ⟨i, hi, fun z => d ?_⟩
      have z : u.getD i 0 - v.getD i 0 = 0 := z
      omega
    · rw [far_row (by omega), far_row (by omega)])
  obtain ⟨x, hx1, hx2⟩ := A.G.has kr_latt hx nz
  obtain ⟨r, hr, rfl⟩ := List.mem_map.mp hx1
  have rl := A.len r hr
  obtain ⟨g1, g2, _⟩ := A.G.ok _ hx1
  have fin : ∀ s : Int, (s = 1 ∨ s = -1) → Cf ll.length (fun i => s * vzR r i) (sb (vzR u) (vzR v)) → ∃ r ∈ R, ∃ s : Int, (s = 1 ∨ s = -1) ∧ (∀ i, (0 ≤ s * r.getD i 0 ∧ s * r.getD i 0 ≤ u.getD i 0 - v.getD i 0) ∨ (u.getD i 0 - v.getD i 0 ≤ s * r.getD i 0 ∧ s * r.getD i 0 ≤ 0)) ∧
      Comes ll (subR u r s) b ∧ Comes ll (subR v r (-s)) b ∧ dst ll.length (subR u r s) v < dst ll.length u v ∧ dst ll.length u (subR v r (-s)) < dst ll.length u v ∧ Nz ll.length (vzR r) := fun s hs C => by
    have hc : ∀ i, (0 ≤ s * r.getD i 0 ∧ s * r.getD i 0 ≤ u.getD i 0 - v.getD i 0) ∨ (u.getD i 0 - v.getD i 0 ≤ s * r.getD i 0 ∧ s * r.getD i 0 ≤ 0) := fun i => by
      by_cases hi : i < ll.length
      · exact C i hi
      · rw [far_row (xs := r) (by omega), far_row (xs := u) (by omega), far_row (xs := v) (by omega)]
        left
        omega
    have un := nn_at u2
    have vn := nn_at v2
    have hz := sz_cf C
    have szp : 0 < sz ll.length (fun i => s * vzR r i) := by
      refine Nat.pos_of_ne_zero fun z => ?_
      obtain ⟨i, hi, h⟩ := g2
      have := sz_zero z i hi
      have this : s * vzR r i = 0 := this
      rcases hs with e | e <;> rw [e] at this <;> omega
    have e1 : sb (vzR (subR u r s)) (vzR v) = sb (sb (vzR u) (vzR v)) (fun i => s * vzR r i) := funext fun i => by
      show (subR u r s).getD i 0 - v.getD i 0 = u.getD i 0 - v.getD i 0 - s * r.getD i 0
      rw [subR_at (by omega)]
      omega
    have e2 : sb (vzR u) (vzR (subR v r (-s))) = sb (sb (vzR u) (vzR v)) (fun i => s * vzR r i) := funext fun i => by
      show u.getD i 0 - (subR v r (-s)).getD i 0 = u.getD i 0 - v.getD i 0 - s * r.getD i 0
      rw [subR_at (by omega), Int.neg_mul]
      omega
    refine ⟨r, hr, s, hs, hc, fil_swap A.kd hb hu rl g1 fun i => ?_, fil_swap A.kd hb hv rl g1 fun i => ?_, ?_, ?_, g2⟩
    · have := hc i; have := un i; have := vn i; omega
    · have := hc i; have := un i; have := vn i
      rw [Int.neg_mul]
      omega
    · unfold dst
      rw [e1]
      omega
    · unfold dst
      rw [e2]
      omega
  rcases hx2 with h | h
  · refine fin 1 (.inl rfl) ?_
    have e : (fun i => 1 * vzR r i) = vzR r := funext fun i => by show 1 * vzR r i = _; omega
    rw [e]
    exact h
  · refine fin (-1) (.inr rfl) ?_
    have e : (fun i => -1 * vzR r i) = ng (vzR r) := funext fun i => by show -1 * vzR r i = -vzR r i; omega
    rw [e]
    exact h
/-- what holds a filling, and what told swaps make of it, holds them all -/
theorem all_led (A : Lo ll g R) (hb : b.length = g) {S : List Int → Prop} (cl : ∀ u, S u → ∀ r ∈ R, ∀ s : Int, (s = 1 ∨ s = -1) → Comes ll (subR u r s) b → S (subR u r s)) {v : List Int} (hv : Comes ll v b) :
    ∀ n u, dst ll.length u v ≤ n → Comes ll u b → S u → S v
  | n, u, hn, hu, su => by
    by_cases e : u = v
    · exact e ▸ su
    · obtain ⟨r, hr, s, hs, _, h1, _, h2, _⟩ := toward A hb hu hv e
      cases n with
      | zero => omega
      | succ n => exact all_led A hb cl hv n _ (by omega) h1 (cl u su r hr s hs h1)
end
end GR
end HL

namespace HL
open PySem PySem.Spec PyProof.Rows L2
open C8 (pss_cut)
/-! ### the text -/
def topS (i : Nat) : Stmt := PySem.Challenge.pw_hamperlot_k11_whole_fillings_all_led_to.main.body.getD i (.Pass ⟨0, 0, 0, 0⟩)
abbrev sIsHold : Stmt := topS 10
abbrev sLook : Stmt := topS 11
abbrev sGoods : Stmt := topS 12
abbrev sFirst : Stmt := topS 13
abbrev sLookBill : Stmt := topS 14
abbrev sUnit : Stmt := topS 16
abbrev sOpp : Stmt := topS 17
abbrev sLess : Stmt := topS 18
abbrev sIsNought : Stmt := topS 19
abbrev sBox : Stmt := topS 23
abbrev sBoth : Stmt := topS 24
abbrev sCells : Stmt := topS 25
abbrev sOneMore : Stmt := topS 26
abbrev sTables : Stmt := topS 27
abbrev sTakings : Stmt := topS 28
abbrev sHowMany : Stmt := topS 29
abbrev sFillings : Stmt := topS 30
abbrev sOneAt : Stmt := topS 35
abbrev sSpan : Stmt := topS 36
abbrev sFeed : Stmt := topS 47
abbrev sDraw : Stmt := topS 48
abbrev sHold : Stmt := topS 49
abbrev sLot : Stmt := topS 50
abbrev sPlain : Stmt := topS 51
abbrev sSmallBill : Stmt := topS 52
abbrev sPlus : Stmt := topS 53
abbrev sMinus : Stmt := topS 54
abbrev sGood : Stmt := topS 55
abbrev sLGoods : Stmt := topS 56
abbrev sLaw : Stmt := topS 57
/-! ### heaps -/
/-- all that stood but at f stands -/
def Kp (f : Addr) (H H' : Hp) : Prop := ∀ b o, b ≠ f → H b = some o → H' b = some o
theorem Kp.refl (f : Addr) (H : Hp) : Kp f H H := fun _ _ _ h => h
theorem Kp.trans {f : Addr} {H H1 H2 : Hp} (a : Kp f H H1) (b : Kp f H1 H2) : Kp f H H2 := fun c o n h => b c o n (a c o n h)
theorem Same.kp {f : Addr} {H H' : Hp} (a : Same H H') : Kp f H H' := fun b o _ h => a b o h
theorem Kp.put {f : Addr} {H : Hp} {o : HO} : Kp f H (upd H f o) := fun b _ n h => by
  rw [upd_ne n]
  exact h
theorem same_new {H : Hp} {p : Addr} {o : HO} (h : H p = none) : Same H (upd H p o) := fun b x e => by
  rw [upd_ne (ne_of_none e h)]
  exact e
theorem Kp.new {f : Addr} {H : Hp} {p : Addr} {o : HO} (h : H p = none) : Kp f H (upd H p o) := Same.kp (same_new h)
/-- the feed at f -/
def FeedAt (c : Addr) (H : Hp) (f : Addr) : Prop := ∃ (ns : List Int) (i b m n : Int),
  H f = some (.lst [.ref c, .int i, .int b, .int m, .int n]) ∧ H c = some (.lst (ns.map V.int)) ∧ 0 ≤ i ∧ 0 ≤ b ∧ 0 ≤ m ∧ m < 2147483647
theorem FeedAt.same {c : Addr} {H H' : Hp} {f : Addr} (F : FeedAt c H f) (s : Same H H') : FeedAt c H' f := by
  obtain ⟨ns, i, b, m, n, h1, h2, h3⟩ := F
  exact ⟨ns, i, b, m, n, s _ _ h1, s _ _ h2, h3⟩
theorem FeedAt.new {c : Addr} {H : Hp} {f p : Addr} {o : HO} (F : FeedAt c H f) (h : H p = none) : FeedAt c (upd H p o) f := F.same (same_new h)
theorem FeedAt.ne {c : Addr} {H : Hp} {f p : Addr} (F : FeedAt c H f) (h : H p = none) : p ≠ f := by
  obtain ⟨ns, i, b, m, n, h1, _⟩ := F
  exact fun e => by
    rw [e, h1] at h
    cases h
theorem FeedAt.neC {c : Addr} {H : Hp} {f p : Addr} (F : FeedAt c H f) (h : H p = none) : p ≠ c := by
  obtain ⟨ns, i, b, m, n, _, h1, _⟩ := F
  exact fun e => by
    rw [e, h1] at h
    cases h
theorem FeedAt.tup {c : Addr} {H : Hp} {f p : Addr} {xs : List V} (F : FeedAt c H f) (h : H p = some (.tup xs)) : p ≠ f := by
  obtain ⟨ns, i, b, m, n, h1, _⟩ := F
  exact ne_of h h1 (fun e => by cases e)
/-- another thing than the feed is written -/
theorem FeedAt.put {c : Addr} {H : Hp} {f D : Addr} {o : HO} (F : FeedAt c H f) (n1 : D ≠ f) (n2 : D ≠ c) : FeedAt c (upd H D o) f := by
  obtain ⟨ns, i, b, m, n, h1, h2, h3⟩ := F
  exact ⟨ns, i, b, m, n, by rw [upd_ne (Ne.symm n1)]; exact h1, by rw [upd_ne (Ne.symm n2)]; exact h2, h3⟩
/-- where nothing stood behind, nothing stood ahead -/
theorem Kp.free {f : Addr} {H H' : Hp} {p : Addr} (k : Kp f H H') (n : p ≠ f) (h : H' p = none) : H p = none := by
  cases e : H p with
  | none => rfl
  | some o =>
    rw [k _ _ n e] at h
    cases h
/-- what is new since H may be written -/
theorem Kp.late {f : Addr} {H H' : Hp} {D : Addr} {o : HO} (k : Kp f H H') (nD : H D = none) : Kp f H (upd H' D o) := fun b x n e => by
  rw [upd_ne (ne_of_none e nD)]
  exact k _ _ n e
theorem same_late {H H' : Hp} {D : Addr} {o : HO} (k : Same H H') (nD : H D = none) : Same H (upd H' D o) := fun b x e => by
  rw [upd_ne (ne_of_none e nD)]
  exact k _ _ e
theorem ref_ne {c : Addr} {ns : List Int} {r : List V} : (V.ref c :: r) ≠ ns.map V.int := by
  cases ns with
  | nil => exact fun e => by cases e
  | cons x xs => exact fun e => by simp at e
/-! ### the feed -/
theorem scFeed : FnScope ["_law_script"] ["_law_script"] (defScope sFeed) := ⟨rfl, rfl, rfl, by decide +kernel, rfl, by decide +kernel, by decide +kernel⟩
theorem scDraw : FnScope ["_law_feed_here", "_law_many", "_law_cell", "_law_digit", "_law_mix"] ["_law_feed_here", "_law_many"] (defScope sDraw) := ⟨rfl, rfl, rfl, by decide +kernel, rfl, by decide +kernel, by decide +kernel⟩
section
variable {P : Program} {w : World} {K : PySem.W.Frag} {mg : Str → Option Value} {base : Heap}
def spFeed (K : PySem.W.Frag) : Sp := fun vs H Q _ => ∃ (a : Addr) (ns : List Int), vs = [.ref a] ∧ SqL K H a (ns.map V.int) ∧ ns.length ≤ 63 ∧
  ∀ H' f c, Same H H' → H f = none → FeedAt c H' f → Q (.ref f) H'
theorem cut_ints (ns : List Int) (lo hi : Option Int) : ∃ ms : List Int, cutV (ns.map V.int) lo hi = ms.map V.int := by
  refine ⟨(ns.drop (HT.sIx ns.length 0 lo)).take (HT.sIx ns.length ns.length hi - HT.sIx ns.length 0 lo), ?_⟩
  unfold cutV
  rw [List.length_map, List.map_take, List.map_drop]
theorem ok_feed {f : Addr} {fd : FuncData} {k : Nat} (F : Fun K "_law_feed" "_law_feed" sFeed f fd) (ml : mg "list" = none) : FnOk P w K mg base CX0 (k + 1) f fd ["_law_script"] (spFeed K) := by
  refine F.ok scFeed (fun vs H Q E h => ?_) (fun cdv A outer s H vs Q E hr h => ?_)
  · obtain ⟨a, ns, rfl, _⟩ := h
    rfl
  · obtain ⟨a, ns, rfl, hS, hlen, q⟩ := h
    refine ⟨_, pss_one (ps_ret (pe_lst (pa_cons (pe_callTy call_list_of (by rfl) ml (by decide +kernel) (pa_cons (pe_slice sl_list (pv 0) po_none (po_some pe_int)) pa_nil)) (pa_cons pe_int (pa_cons pe_int (pa_cons pe_int (pa_cons pe_int pa_nil))))))), ?_⟩
    obtain ⟨ms, hms⟩ := cut_ints ns none (some 63)
    refine ⟨.ref a, rfl, 63, rfl, a, ns.map V.int, rfl, hS, fun c nc => ?_⟩
    rw [hms]
    refine ⟨c, ms.map V.int, rfl, .inl (SqL.of upd_same), fun l nl => ?_⟩
    refine ⟨(by show 5 ≤ sizeLine; decide), fun g ng => ?_⟩
    refine q _ g l ?_ ?_ ⟨ms, 0, 0, 9132, 0, upd_same, ?_, by decide, by decide, by decide, by decide⟩
    · exact (same_new nc).trans ((same_new nl).trans (same_new ng))
    · exact (same_new nc).free ((same_new nl).free ng)
    · rw [upd_ne (fun e => by rw [← e, upd_same] at ng; cases ng), upd_same]

theorem atI_int {ns : List Int} {i : Int} (h0 : 0 ≤ i) (h1 : i < (ns.length : Nat)) : ∃ z, atI (ns.map V.int) i = some (.int z) := by
  have hl : i.toNat < ns.length := by omega
  refine ⟨ns[i.toNat], ?_⟩
  have e : ((i.toNat : Nat) : Int) = i := by omega
  refine (congrArg (atI (ns.map V.int)) e.symm).trans (atI_nat (j := i.toNat) ?_)
  rw [List.getElem?_map, List.getElem?_eq_getElem hl]
  rfl
def spDraw : Sp := fun vs H Q _ => ∃ (f c : Addr) (n : Int), vs = [.ref f, .int n] ∧ 1 ≤ n ∧ n ≤ 1000000000000000000000000000000 ∧ FeedAt c H f ∧
  ∀ d H', 0 ≤ d → d < n → Kp f H H' → FeedAt c H' f → Q (.int d) H'
theorem ok_draw {f : Addr} {fd : FuncData} {k : Nat} (F : Fun K "_law_draw" "_law_draw" sDraw f fd) (ml : mg "len" = none) : FnOk P w K mg base CX0 (k + 1) f fd ["_law_feed_here", "_law_many"] spDraw := by
  refine F.ok scDraw (fun vs H Q E h => ?_) (fun cdv A outer s H vs Q E hr h => ?_)
  · obtain ⟨a, c, n, rfl, _⟩ := h
    rfl
  · obtain ⟨a, c, n, rfl, n1, n2, ⟨ns, i, b, m, t, h1, h2, i0, b0, m0, m1⟩, q⟩ := h
    refine ⟨_, pss_cut (ps_if (PW.pt (pw_and (pt_cmpR op_lt (pe_ix ix_list (pv 0) pe_int (fun _ _ => rfl)) (pv 1) (nomark _))
          (pw_and1 (pt_cmpR op_lt (pe_ix ix_list (pv 0) pe_int (fun _ _ => rfl)) (pe_callB call_len_seq (by rfl) ml PySem.boot_len (pa_cons (pe_ix ix_list (pv 0) pe_int (fun _ _ => rfl)) pa_nil)) (nomark _)))))
        (pss_cons (ps_set (i := 2) scDraw.nd rfl (.inl rfl) (pe_ix ix_list (pe_ix ix_list (pv 0) pe_int (fun _ _ => rfl)) (pe_ix ix_list (pv 0) pe_int (fun _ _ => rfl)) (fun _ _ => rfl)))
        (pss_cons (ps_asg (pe_op op_add (pe_ix ix_list (pv 0) pe_int (fun _ _ => rfl)) pe_int) (pg_sub (pv 0) pe_int set_list))
        (pss_cons (ps_asg pe_int (pg_sub (pv 0) pe_int set_list))
        (pss_one (ps_if (pt_cmpR op_ge (pv 2) (pe_op op_pow pe_int pe_int) (nomark _))
          (pss_one (ps_asg (pv 2) (pg_sub (pv 0) pe_int set_list)))
          (pss_one (ps_asg (pe_op op_mod (pe_op op_add (pe_op op_add (pe_op op_mul (pe_ix ix_list (pv 0) pe_int (fun _ _ => rfl)) pe_int) (pe_op op_mul (pe_op op_mod (pv 2) pe_int) pe_int)) pe_int) pe_int) (pg_sub (pv 0) pe_int set_list))))))))
        pss_nil)
      (pss_cons (ps_if (pt_cmpR op_ge (pe_ix ix_list (pv 0) pe_int (fun _ _ => rfl)) (pv 1) (nomark _))
        (pss_cons (ps_set (i := 3) scDraw.nd rfl (.inl rfl) (pe_op op_mod (pe_ix ix_list (pv 0) pe_int (fun _ _ => rfl)) (pv 1)))
        (pss_cons (ps_asg (pe_op op_fdivW (pe_ix ix_list (pv 0) pe_int (fun _ _ => rfl)) (pv 1)) (pg_sub (pv 0) pe_int set_list))
        (pss_one (ps_ret (pv 3))))) pss_nil)
      (pss_cons (ps_asg (pe_op op_add (pe_ix ix_list (pv 0) pe_int (fun _ _ => rfl)) pe_int) (pg_sub (pv 0) pe_int set_list))
      (pss_cons (ps_set (i := 4) scDraw.nd rfl (.inl rfl) (pe_ix ix_list (pv 0) pe_int (fun _ _ => rfl)))
      (pss_cons (ps_set (i := 4) scDraw.nd rfl (.inl rfl) (pe_op op_add (pe_op op_add (pe_op op_add (pe_op op_mul (pe_op op_mod (pe_op op_mul (pv 4) (pv 4)) pe_int) pe_int) (pe_op op_mul (pv 4) pe_int)) (pe_op op_mul pe_int (pe_ix ix_list (pv 0) pe_int (fun _ _ => rfl)))) pe_int))
      (pss_cons (ps_asg (pe_op op_mod (pv 4) pe_int) (pg_sub (pv 0) pe_int set_list))
      (pss_one (ps_ret (pe_op op_mod (pe_op op_add (pe_op op_fdiv (pe_ix ix_list (pv 0) pe_int (fun _ _ => rfl)) pe_int) (pe_op op_mul (pe_op op_mod (pe_ix ix_list (pv 0) pe_int (fun _ _ => rfl)) pe_int) pe_int)) (pv 1))))))))), ?_⟩
    have hca : c ≠ a := fun e => by
      rw [e, h1] at h2
      exact ref_ne (HO.lst.inj (Option.some.inj h2))
    refine ⟨fun σ' H' => ∃ (y2 : Option V) (i b m t : Int), σ' = [some (.ref a), some (.int n), y2, none, none] ∧ Kp a H H' ∧ H' a = some (.lst [.ref c, .int i, .int b, .int m, .int t]) ∧ 0 ≤ i ∧ 0 ≤ b ∧ 0 ≤ m ∧ m < 2147483647, ?_, ?_⟩
    · refine ⟨.ref a, rfl, a, _, 2, .int b, rfl, rfl, SqL.of h1, atI_nat (j := 2) rfl, .int n, rfl, b, n, rfl, rfl, _, rfl, ite2 (fun c1 => ?_) (fun c1 => ?_)⟩
      · refine ⟨.ref a, rfl, a, _, 1, .int i, rfl, rfl, SqL.of h1, atI_nat (j := 1) rfl, .ref a, rfl, a, _, 0, .ref c, rfl, rfl, SqL.of h1, atI_nat (j := 0) rfl, c, _, rfl, .inl (SqL.of h2), i, _, rfl, rfl, _, rfl, ite2 (fun c2 => ?_) (fun c2 => ?_)⟩
        · have hi : i < (ns.length : Nat) := by
            have := of_decide_eq_true c2
            rw [List.length_map] at this
            exact this
          obtain ⟨z, hz⟩ := atI_int i0 hi
          refine ⟨.ref a, rfl, a, _, 0, .ref c, rfl, rfl, SqL.of h1, atI_nat (j := 0) rfl, .ref a, rfl, a, _, 1, .int i, rfl, rfl, SqL.of h1, atI_nat (j := 1) rfl, c, _, i, .int z, rfl, rfl, SqL.of h2, hz, ?_⟩
          refine ⟨.ref a, rfl, a, _, 1, .int i, rfl, rfl, SqL.of h1, atI_nat (j := 1) rfl, i, 1, rfl, rfl, .ref a, rfl, a, _, 1, 1, rfl, rfl, h1, rfl, ?_⟩
          refine ⟨.ref a, rfl, a, _, 2, 2, rfl, rfl, upd_same, rfl, ?_⟩
          refine ⟨.int z, rfl, 10, 18, rfl, rfl, ⟨by decide, by decide, by decide⟩, z, _, rfl, rfl, _, rfl, ite2 (fun c3 => ?_) (fun c3 => ?_)⟩
          · have z0 : (10 : Int) ^ (18 : Int).toNat ≤ z := of_decide_eq_true c3
            have z1 : (0 : Int) ≤ z := Int.le_trans (by decide) z0
            refine ⟨.int z, rfl, .ref a, rfl, a, _, 2, 2, rfl, rfl, upd_same, rfl, ?_⟩
            exact ⟨_, i + 1, z, m, t, rfl, Kp.put.trans (Kp.put.trans Kp.put), upd_same, by omega, z1, m0, m1⟩
          · refine ⟨.ref a, rfl, a, _, 3, .int m, rfl, rfl, SqL.of upd_same, atI_nat (j := 3) rfl, m, 48271, rfl, rfl, .inr ⟨by decide, by decide⟩, .int z, rfl, z, 1000000007, rfl, rfl, (by show (0 : Int) < 1000000007; decide), _, 69621, rfl, rfl, .inr ⟨by decide, by decide⟩, _, _, rfl, rfl, _, 11, rfl, rfl, _, 2147483647, rfl, rfl, (by show (0 : Int) < 2147483647; decide), .ref a, rfl, a, _, 3, 3, rfl, rfl, upd_same, rfl, ?_⟩
            exact ⟨_, i + 1, 0, _, t, rfl, Kp.put.trans (Kp.put.trans Kp.put), upd_same, by omega, by decide, Int.emod_nonneg _ (by decide), Int.emod_lt_of_pos _ (by decide)⟩
        · exact ⟨none, i, b, m, t, rfl, Kp.refl _ _, h1, i0, b0, m0, m1⟩
      · exact ⟨none, i, b, m, t, rfl, Kp.refl _ _, h1, i0, b0, m0, m1⟩
    · rintro σ' H' ⟨y2, i, b, m, t, rfl, kp, g1, i0, b0, m0, m1⟩
      have g2 : H' c = some (.lst (ns.map V.int)) := kp _ _ hca h2
      refine ⟨.ref a, rfl, a, _, 2, .int b, rfl, rfl, SqL.of g1, atI_nat (j := 2) rfl, .int n, rfl, b, n, rfl, rfl, _, rfl, ite2 (fun c1 => ?_) (fun c1 => ?_)⟩
      · refine ⟨.ref a, rfl, a, _, 2, .int b, rfl, rfl, SqL.of g1, atI_nat (j := 2) rfl, .int n, rfl, b, n, rfl, rfl, (by show (0 : Int) < n; omega), ?_⟩
        refine ⟨.ref a, rfl, a, _, 2, .int b, rfl, rfl, SqL.of g1, atI_nat (j := 2) rfl, .int n, rfl, b, n, rfl, rfl, wide_div (b := 100) (by omega) (by omega) (by decide) (by decide), .ref a, rfl, a, _, 2, 2, rfl, rfl, g1, rfl, ?_⟩
        refine ⟨_, rfl, q _ _ (Int.emod_nonneg _ (by omega)) (Int.emod_lt_of_pos _ (by omega)) (kp.trans Kp.put) ⟨ns, i, _, m, t, upd_same, ?_, i0, Int.ediv_nonneg b0 (by omega), m0, m1⟩⟩
        rw [upd_ne hca]
        exact g2
      · refine ⟨.ref a, rfl, a, _, 4, .int t, rfl, rfl, SqL.of g1, atI_nat (j := 4) rfl, t, 1, rfl, rfl, .ref a, rfl, a, _, 4, 4, rfl, rfl, g1, rfl, ?_⟩
        refine ⟨.ref a, rfl, a, _, 3, .int m, rfl, rfl, SqL.of upd_same, atI_nat (j := 3) rfl, ?_⟩
        refine ⟨.int m, rfl, .int m, rfl, m, m, rfl, rfl, .inl ⟨by omega, by omega⟩, _, 2147483587, rfl, rfl, (by show (0 : Int) < 2147483587; decide), _, 16807, rfl, rfl, .inr ⟨by decide, by decide⟩, .int m, rfl, m, 48271, rfl, rfl, .inr ⟨by decide, by decide⟩, _, _, rfl, rfl, .ref a, rfl, a, _, 4, .int (t + 1), rfl, rfl, SqL.of upd_same, atI_nat (j := 4) rfl, 97, t + 1, rfl, rfl, .inl ⟨by decide, by decide⟩, _, _, rfl, rfl, _, 12345, rfl, rfl, ?_⟩
        refine ⟨_, rfl, _, 2147483647, rfl, rfl, (by show (0 : Int) < 2147483647; decide), .ref a, rfl, a, _, 3, 3, rfl, rfl, upd_same, rfl, ?_⟩
        refine ⟨.ref a, rfl, a, _, 3, _, rfl, rfl, SqL.of upd_same, atI_nat (j := 3) rfl, _, 64, rfl, rfl, ⟨by decide, by decide⟩, .ref a, rfl, a, _, 3, _, rfl, rfl, SqL.of upd_same, atI_nat (j := 3) rfl, _, 4093, rfl, rfl, (by show (0 : Int) < 4093; decide), _, 31, rfl, rfl, .inr ⟨by decide, by decide⟩, _, _, rfl, rfl, .int n, rfl, _, n, rfl, rfl, (by show (0 : Int) < n; omega), ?_⟩
        refine q _ _ (Int.emod_nonneg _ (by omega)) (Int.emod_lt_of_pos _ (by omega)) (kp.trans (Kp.put.trans Kp.put)) ⟨ns, i, b, _, t + 1, upd_same, ?_, i0, b0, Int.emod_nonneg _ (by decide), Int.emod_lt_of_pos _ (by decide)⟩
        rw [upd_ne hca, upd_ne hca]
        exact g2
end
end HL

namespace HL
open PySem PySem.Spec PyProof.Rows L2
open C8 (pss_cut)
/-- a def of the module as its callers take it -/
structure Cal (P : Program) (w : World) (K : PySem.W.Frag) (mg : Str → Option Value) (base : Heap) (CX : CXT) (j : Nat) (x : Str) (ps : List Str) (sp : Sp) : Prop where
  ex : ∃ f fd, FnOk P w K mg base CX j f fd ps sp ∧ mg x = some (.ref f) ∧ PySem.W.keepIn K (.ref f) = true ∧ Binds K fd ps []
section
variable {P : Program} {w : World} {K : PySem.W.Frag} {mg : Str → Option Value} {base : Heap}
/-! ### pick -/
theorem atI_mem {xs : List V} {i : Int} (h0 : 0 ≤ i) (h1 : i < (xs.length : Nat)) : ∃ z, atI xs i = some z ∧ z ∈ xs ∧ xs[i.toNat]? = some z := by
  have hl : i.toNat < xs.length := by omega
  have e : ((i.toNat : Nat) : Int) = i := by omega
  exact ⟨xs[i.toNat], (congrArg (atI xs) e.symm).trans (atI_nat (j := i.toNat) (List.getElem?_eq_getElem hl)), List.getElem_mem hl, List.getElem?_eq_getElem hl⟩
/-! ### same -/
def leafV : V → Bool
  | .non => true
  | .bl _ => true
  | .int _ => true
  | .str _ => true
  | _ => false
/-- alike at depth d: leaves, or lists or tuples of such -/
def Eqd (H : Hp) : Nat → V → V → Prop
  | 0, x, y => x = y ∧ leafV x = true
  | d + 1, x, y => (x = y ∧ leafV x = true) ∨ ∃ (a b : Addr) (xs ys : List V), x = .ref a ∧ y = .ref b ∧ ((H a = some (.lst xs) ∧ H b = some (.lst ys)) ∨ (H a = some (.tup xs) ∧ H b = some (.tup ys))) ∧
      xs.length = ys.length ∧ xs.length ≤ 1000 ∧ ∀ (i : Nat) (x y : V), xs[i]? = some x → ys[i]? = some y → Eqd H d x y
theorem Eqd.same {H H' : Hp} (s : Same H H') : ∀ {d : Nat} {x y : V}, Eqd H d x y → Eqd H' d x y
  | 0, _, _, h => h
  | d + 1, _, _, .inl h => .inl h
  | d + 1, _, _, .inr ⟨a, b, xs, ys, ex, ey, hs, hl, hz, ih⟩ => .inr ⟨a, b, xs, ys, ex, ey, hs.imp (fun q => ⟨s _ _ q.1, s _ _ q.2⟩) (fun q => ⟨s _ _ q.1, s _ _ q.2⟩), hl, hz, fun i x y h1 h2 => Eqd.same s (ih i x y h1 h2)⟩
structure Bl (mg : Str → Option Value) : Prop where
  len : mg "len" = none
  list : mg "list" = none
  tuple : mg "tuple" = none
  dict : mg "dict" = none
  str : mg "str" = none
  int : mg "int" = none
  bool : mg "bool" = none
  isinstance : mg "isinstance" = none
  all : mg "all" = none
  range : mg "range" = none
  sum : mg "sum" = none
  min : mg "min" = none
  max : mg "max" = none
  enumerate : mg "enumerate" = none
theorem leaf_or {H : Hp} {d : Nat} {x y : V} (h : Eqd H d x y) (hx : leafV x = true) : x = y := by
  cases d with
  | zero => exact h.1
  | succ d =>
    rcases h with h | ⟨a, b, xs, ys, rfl, _⟩
    · exact h.1
    · cases hx
/-- what isinstance tells of a list or tuple that is tracked -/
theorem seq_ty {K : PySem.W.Frag} {H : Hp} {a b : Addr} {xs ys : List V} (h : (H a = some (.lst xs) ∧ H b = some (.lst ys)) ∨ (H a = some (.tup xs) ∧ H b = some (.tup ys))) :
    ∃ (T : String) (bt bl : Bool), TyX K H (.ref a) (.type T) ∧ TyX K H (.ref b) (.type T) ∧ kitB T "bool" = some false ∧ kitB T "int" = some false ∧ kitB T "str" = some false ∧ kitB T "dict" = some false ∧ kitB T "tuple" = some bt ∧ kitB T "list" = some bl := by
  rcases h with ⟨h1, h2⟩ | ⟨h1, h2⟩
  · exact ⟨"list", false, true, .base (.lst h1), .base (.lst h2), by decide +kernel, by decide +kernel, by decide +kernel, by decide +kernel, by decide +kernel, by decide +kernel⟩
  · exact ⟨"tuple", true, false, .base (.tup h1), .base (.tup h2), by decide +kernel, by decide +kernel, by decide +kernel, by decide +kernel, by decide +kernel, by decide +kernel⟩
theorem fnEither {CX : CXT} {k : Nat} {f : Addr} {fd : FuncData} {ps : List Str} {sp sp1 sp2 : Sp} (F1 : FnOk P w K mg base CX k f fd ps sp1) (F2 : FnOk P w K mg base CX k f fd ps sp2) (h : ∀ vs H Q E, sp vs H Q E → sp1 vs H Q E ∨ sp2 vs H Q E) : FnOk P w K mg base CX k f fd ps sp where
  len := fun vs H Q E q => (h vs H Q E q).elim (F1.len vs H Q E) (F2.len vs H Q E)
  run := fun A outer s H args us vs Q E hr e0 hb r q => (h vs H Q E q).elim (F1.run A outer s H args us vs Q E hr e0 hb r) (F2.run A outer s H args us vs Q E hr e0 hb r)
theorem yes {σ : L2.St} {H : Hp} {Q : Bool → Hp → Prop} (h : Q true H) : tYes σ H Q := h
theorem bl_self (b : Bool) : (!decide (V.bl b = V.bl b)) = false := by rw [decide_eq_true rfl]; rfl
end
end HL

namespace HL
open PySem PySem.Spec PyProof.Rows L2
open C8 (pss_cut)
/-! ### rows and lots in the heap -/
def Rows (H : Hp) : List Addr → List (List Int) → Prop
  | [], [] => True
  | a :: as, r :: rs => H a = some (.tup (r.map V.int)) ∧ Rows H as rs
  | _, _ => False
theorem Rows.len {H : Hp} : ∀ {as : List Addr} {ll : List (List Int)}, Rows H as ll → as.length = ll.length
  | [], [], _ => rfl
  | a :: as, r :: rs, h => by rw [List.length_cons, List.length_cons, Rows.len h.2]
  | [], _ :: _, h => h.elim
  | _ :: _, [], h => h.elim
theorem Rows.mono {H H' : Hp} : ∀ {as : List Addr} {ll : List (List Int)}, Rows H as ll → (∀ a xs, H a = some (.tup xs) → H' a = some (.tup xs)) → Rows H' as ll
  | [], [], _, _ => True.intro
  | a :: as, r :: rs, h, k => ⟨k _ _ h.1, Rows.mono h.2 k⟩
  | [], _ :: _, h, _ => h.elim
  | _ :: _, [], h, _ => h.elim
theorem Rows.same {H H' : Hp} {as : List Addr} {ll : List (List Int)} (h : Rows H as ll) (s : Same H H') : Rows H' as ll := h.mono fun a xs e => s _ _ e
theorem Rows.kp {H H' : Hp} {f c : Addr} {as : List Addr} {ll : List (List Int)} (h : Rows H as ll) (F : FeedAt c H f) (k : Kp f H H') : Rows H' as ll := h.mono fun a xs e => k _ _ (F.tup e) e
theorem Rows.app {H : Hp} : ∀ {as bs : List Addr} {ll mm : List (List Int)}, Rows H as ll → Rows H bs mm → Rows H (as ++ bs) (ll ++ mm)
  | [], _, [], _, _, h => h
  | a :: as, bs, r :: rs, mm, h, k => ⟨h.1, Rows.app h.2 k⟩
  | [], _, _ :: _, _, h, _ => h.elim
  | _ :: _, _, [], _, h, _ => h.elim
theorem Rows.take {H : Hp} : ∀ {as : List Addr} {ll : List (List Int)} (n : Nat), Rows H as ll → Rows H (as.take n) (ll.take n)
  | [], [], n, _ => by rw [List.take_nil, List.take_nil]; exact True.intro
  | _ :: _, _ :: _, 0, _ => True.intro
  | a :: as, r :: rs, n + 1, h => ⟨h.1, Rows.take n h.2⟩
  | [], _ :: _, _, h => h.elim
  | _ :: _, [], _, h => h.elim
theorem Rows.drop {H : Hp} : ∀ {as : List Addr} {ll : List (List Int)} (n : Nat), Rows H as ll → Rows H (as.drop n) (ll.drop n)
  | [], [], n, _ => by rw [List.drop_nil, List.drop_nil]; exact True.intro
  | _ :: _, _ :: _, 0, h => h
  | a :: as, r :: rs, n + 1, h => Rows.drop n h.2
  | [], _ :: _, _, h => h.elim
  | _ :: _, [], _, h => h.elim
theorem Rows.at {H : Hp} : ∀ {as : List Addr} {ll : List (List Int)} {i : Nat} {a : Addr}, Rows H as ll → as[i]? = some a → ∃ r, ll[i]? = some r ∧ H a = some (.tup (r.map V.int))
  | [], [], _, _, _, e => by simp at e
  | b :: as, r :: rs, 0, a, h, e => by
    have e' : b = a := Option.some.inj e
    subst e'
    exact ⟨r, rfl, h.1⟩
  | b :: as, r :: rs, i + 1, a, h, e => Rows.at (i := i) h.2 e
  | [], _ :: _, _, _, h, _ => h.elim
  | _ :: _, [], _, _, h, _ => h.elim
/-- a lot in the heap -/
def LotAt (H : Hp) (p : Addr) (ll : List (List Int)) : Prop := ∃ as : List Addr, H p = some (.tup (as.map V.ref)) ∧ Rows H as ll
theorem LotAt.same {H H' : Hp} {p : Addr} {ll : List (List Int)} (h : LotAt H p ll) (s : Same H H') : LotAt H' p ll := by
  obtain ⟨as, h1, h2⟩ := h
  exact ⟨as, s _ _ h1, h2.same s⟩
theorem LotAt.kp {H H' : Hp} {f c p : Addr} {ll : List (List Int)} (h : LotAt H p ll) (F : FeedAt c H f) (k : Kp f H H') : LotAt H' p ll := by
  obtain ⟨as, h1, h2⟩ := h
  exact ⟨as, k _ _ (F.tup h1) h1, h2.kp F k⟩
/-- a kind as it should be, of g amounts to m -/
def GoodRow (g m : Int) (r : List Int) : Prop := r.length = g.toNat ∧ (∀ n ∈ r, 0 ≤ n ∧ n ≤ m) ∧ ∃ n ∈ r, 0 < n
theorem pos_of_sum : ∀ {r : List Int}, (∀ n ∈ r, 0 ≤ n) → r.sum ≠ 0 → ∃ n ∈ r, 0 < n
  | [], _, h => absurd rfl h
  | x :: r, h0, h => by
    by_cases hx : 0 < x
    · exact ⟨x, List.mem_cons_self, hx⟩
    · have e : x = 0 := by
        have := h0 x List.mem_cons_self
        omega
      rw [List.sum_cons, e, Int.zero_add] at h
      obtain ⟨n, hn, hp⟩ := pos_of_sum (fun n hn => h0 n (List.mem_cons_of_mem _ hn)) h
      exact ⟨n, List.mem_cons_of_mem _ hn, hp⟩
/-! ### hold -/
theorem scHold : FnScope ["_law_feed_here", "_law_goods_here", "_law_most", "_law_hold_here", "_law_good_here"] ["_law_feed_here", "_law_goods_here", "_law_most"] (defScope sHold) := ⟨rfl, rfl, rfl, by decide +kernel, rfl, by decide +kernel, by decide +kernel⟩
theorem scLot : FnScope ["_law_feed_here", "_law_goods_here", "_law_kinds", "_law_most", "_law_kind"] ["_law_feed_here", "_law_goods_here", "_law_kinds", "_law_most"] (defScope sLot) := ⟨rfl, rfl, rfl, by decide +kernel, rfl, by decide +kernel, by decide +kernel⟩
section
variable {P : Program} {w : World} {K : PySem.W.Frag} {mg : Str → Option Value} {base : Heap}
def spHold : Sp := fun vs H Q _ => ∃ (f c : Addr) (g m : Int), vs = [.ref f, .int g, .int m] ∧ FeedAt c H f ∧ 1 ≤ g ∧ g ≤ 100 ∧ 1 ≤ m ∧ m ≤ 100 ∧
  ∀ H' p ns, Kp f H H' → FeedAt c H' f → H p = none → H' p = some (.tup (ns.map V.int)) → GoodRow g m ns → Q (.ref p) H'
theorem ok_hold {f : Addr} {fd : FuncData} (F : Fun K "_law_hold" "_law_hold" sHold f fd) (B : Bl mg) (CD : Cal P w K mg base CX0 1 "_law_draw" ["_law_feed_here", "_law_many"] spDraw) :
    FnOk P w K mg base CX0 2 f fd ["_law_feed_here", "_law_goods_here", "_law_most"] spHold := by
  obtain ⟨fD, fdD, GD, gD, kD, bD⟩ := CD.ex
  refine F.ok scHold (fun vs H Q E h => ?_) (fun cdv A outer s H vs Q E hr h => ?_)
  · obtain ⟨a, c, g, m, rfl, _⟩ := h
    rfl
  · obtain ⟨a, c, g, m, rfl, Fd, g1, g2, m1, m2, q⟩ := h
    refine ⟨_, pss_cons (ps_setLc (i := 3) (own := [("_law_good_here", 4)]) (g := gName 4) (tt := tYes) rfl scHold.nd rfl rfl (sw_true rfl rfl rfl (by decide +kernel)) (pi_range1 (by rfl) B.range (pa_cons (pv 1) pa_nil))
          (blkOk_by (own := [("_law_good_here", 4)]) (N := ["_law_feed_here", "_law_goods_here", "_law_most", "_law_hold_here", "_law_good_here"]) (sc := defScope sHold) (by decide +kernel)) (fun _ _ _ _ _ => pg_name (i := 4) scHold.nd rfl (Or.inl rfl)) (fun _ _ _ _ _ => pts_nil)
          (fun _ _ _ _ _ => pe_ifExp (pt_cmpR op_gt (pe_call GD hr (by rfl) gD kD bD .nil pass0 (pa_cons (pv 0) (pa_cons pe_int pa_nil))) pe_int (nomark _)) (pe_call GD hr (by rfl) gD kD bD .nil pass0 (pa_cons (pv 0) (pa_cons (pe_op op_add (pv 2) pe_int) pa_nil))) pe_int))
      (pss_cut (ps_if (pt_cmpR op_eq (pe_callB (cr_sum rfl) (by rfl) B.sum (by decide +kernel) (pa_cons (pv 3) pa_nil)) pe_int (nomark _))
          (pss_one (ps_asg (pe_op op_add pe_int (pe_call GD hr (by rfl) gD kD bD .nil pass0 (pa_cons (pv 0) (pa_cons (pv 2) pa_nil)))) (pg_sub (pv 3) (pe_call GD hr (by rfl) gD kD bD .nil pass0 (pa_cons (pv 0) (pa_cons (pv 1) pa_nil))) set_list))) pss_nil)
        (pss_one (ps_ret (pe_callTy call_tuple_of (by rfl) B.tuple (by decide +kernel) (pa_cons (pv 3) pa_nil))))), ?_⟩
    refine ⟨.int g, rfl, g, rfl, by omega, by omega, fun D nD => ?_⟩
    have nDf : D ≠ a := Fd.ne nD
    have nDc : D ≠ c := Fd.neC nD
    refine lc_range (lo := 0) (n := g.toNat) (fun i H' => Kp a H H' ∧ FeedAt c H' a ∧ ∃ ns : List Int, H' D = some (.lst (ns.map V.int)) ∧ ns.length = i ∧ ∀ n ∈ ns, 0 ≤ n ∧ n ≤ m)
      ⟨Kp.new nD, Fd.new nD, [], upd_same, rfl, fun n hn => by cases hn⟩ (fun i H' hi ⟨kp, F', ns, hD, hl, hb⟩ => ?_) (fun H' ⟨kp, F', ns, hD, hl, hb⟩ => ?_)
    · refine ⟨rfl, yes (iteT ?_)⟩
      have more : ∀ (H2 : Hp) (d : Int), Kp a H' H2 → FeedAt c H2 a → 0 ≤ d → d ≤ m → ∃ acc, H2 D = some (.lst acc) ∧ acc.length < sizeLine ∧ Kp a H (upd H2 D (.lst (acc ++ [.int d]))) ∧ FeedAt c (upd H2 D (.lst (acc ++ [.int d]))) a ∧
          ∃ ns : List Int, upd H2 D (.lst (acc ++ [.int d])) D = some (.lst (ns.map V.int)) ∧ ns.length = i + 1 ∧ ∀ n ∈ ns, 0 ≤ n ∧ n ≤ m := fun H2 d k2 F2 d0 d1 => by
        have hD2 := k2 _ _ nDf hD
        refine ⟨_, hD2, ?_, ?_, ?_, ns ++ [d], ?_, ?_, ?_⟩
        · rw [List.length_map]
          exact small1000 (by omega)
        · exact (kp.trans k2).late nD
        · exact F2.put nDf nDc
        · rw [upd_same, List.map_append]
          rfl
        · rw [List.length_append, hl]
          rfl
        · intro n hn
          rcases List.mem_append.mp hn with h | h
          · exact hb n h
          · rw [List.mem_singleton.mp h]
            exact ⟨d0, d1⟩
      refine ⟨.ref a, rfl, a, c, 3, rfl, by decide, by decide, F', fun d1 H1 _ _ k1 F1 => ?_⟩
      refine ⟨d1, 0, rfl, rfl, _, rfl, ite2 (fun _ => ?_) (fun _ => ?_)⟩
      · refine ⟨.ref a, rfl, .int m, rfl, m, 1, rfl, rfl, a, c, m + 1, rfl, by omega, by omega, F1, fun d2 H2 e0 e1 k2 F2 => ?_⟩
        exact more H2 d2 (k1.trans k2) F2 e0 (by omega)
      · exact more H1 0 k1 F1 (by decide) (by omega)
    · -- behind the comprehension
      refine ⟨fun σ' H2 => ∃ ns : List Int, σ' = [some (.ref a), some (.int g), some (.int m), some (.ref D), none] ∧ Kp a H H2 ∧ FeedAt c H2 a ∧ H2 D = some (.lst (ns.map V.int)) ∧ GoodRow g m ns, ?_, ?_⟩
      · refine ⟨.ref D, rfl, D, ns, rfl, SqL.of hD, rfl, _, rfl, ite2 (fun cs => ?_) (fun cs => ?_)⟩
        · refine ⟨.ref a, rfl, .int m, rfl, a, c, m, rfl, by omega, by omega, F', fun d1 H1 e0 e1 k1 F1 => ?_⟩
          refine ⟨1, d1, rfl, rfl, .ref D, rfl, .ref a, rfl, .int g, rfl, a, c, g, rfl, by omega, by omega, F1, fun d2 H2 c0 c1 k2 F2 => ?_⟩
          have hD2 : H2 D = some (.lst (ns.map V.int)) := k2 _ _ nDf (k1 _ _ nDf hD)
          have hj : ixN (ns.map V.int).length d2 = some d2.toNat := by
            unfold ixN
            rw [if_pos c0, if_pos (by rw [List.length_map]; omega)]
          refine ⟨D, _, d2, d2.toNat, rfl, rfl, hD2, hj, ns.set d2.toNat (1 + d1), rfl, ?_, ?_, ?_, ?_, ?_, ?_⟩
          · exact (kp.trans (k1.trans k2)).late nD
          · exact F2.put nDf nDc
          · rw [upd_same, List.map_set]
          · rw [List.length_set]
            exact hl
          · intro n hn
            rcases List.mem_or_eq_of_mem_set hn with h | h
            · exact hb n h
            · rw [h]
              omega
          · exact ⟨1 + d1, List.mem_iff_getElem.mpr ⟨d2.toNat, by rw [List.length_set]; omega, by simp⟩, by omega⟩
        · have hs : ns.sum ≠ 0 := fun z => cs (decide_eq_true (by rw [z]))
          exact ⟨ns, rfl, kp, F', hD, hl, hb, pos_of_sum (fun n hn => (hb n hn).1) hs⟩
      · rintro σ' H2 ⟨ms, rfl, k2, F2, hD2, G2⟩
        refine ⟨.ref D, rfl, D, _, rfl, .inl ⟨SqL.of hD2, fun p np => ?_⟩⟩
        exact q _ p ms (k2.trans (Kp.new np)) (F2.new np) (k2.free (F2.ne np) np) upd_same G2
end
end HL

namespace HL
open PySem PySem.Spec PyProof.Rows L2
open C8 (pss_cut)
section
variable {P : Program} {w : World} {K : PySem.W.Frag} {mg : Str → Option Value} {base : Heap}
/-! ### lots -/
/-- a lot as it should be -/
def GoodLot (g m : Int) (n : Nat) (ll : List (List Int)) : Prop := 1 ≤ ll.length ∧ ll.length ≤ n ∧ ∀ r ∈ ll, GoodRow g m r
def spLot : Sp := fun vs H Q _ => ∃ (f c : Addr) (g kk m : Int), vs = [.ref f, .int g, .int kk, .int m] ∧ FeedAt c H f ∧ 1 ≤ g ∧ g ≤ 100 ∧ 1 ≤ kk ∧ kk ≤ 100 ∧ 1 ≤ m ∧ m ≤ 100 ∧
  ∀ H' p ll, Kp f H H' → FeedAt c H' f → H p = none → LotAt H' p ll → GoodLot g m kk.toNat ll → Q (.ref p) H'
theorem ok_lot {f : Addr} {fd : FuncData} (F : Fun K "_law_lot" "_law_lot" sLot f fd) (B : Bl mg) (CD : Cal P w K mg base CX0 1 "_law_draw" ["_law_feed_here", "_law_many"] spDraw)
    (CH : Cal P w K mg base CX0 2 "_law_hold" ["_law_feed_here", "_law_goods_here", "_law_most"] spHold) : FnOk P w K mg base CX0 3 f fd ["_law_feed_here", "_law_goods_here", "_law_kinds", "_law_most"] spLot := by
  obtain ⟨fD, fdD, GD, gD, kD, bD⟩ := CD.ex
  obtain ⟨fH, fdH, GH, gH, kH, bH⟩ := CH.ex
  refine F.ok scLot (fun vs H Q E h => ?_) (fun cdv A outer s H vs Q E hr h => ?_)
  · obtain ⟨a, c, g, kk, m, rfl, _⟩ := h
    rfl
  · obtain ⟨a, c, g, kk, m, rfl, Fd, g1, g2, n1, n2, m1, m2, q⟩ := h
    refine ⟨_, pss_one (ps_ret (pe_callTy call_tuple_of (by rfl) B.tuple (by decide +kernel) (pa_cons
      (pe_lc (own := [("_law_kind", 4)]) (g := gName 4) (tt := tYes) rfl scLot.nd (pi_range1 (by rfl) B.range (pa_cons (pe_op op_add pe_int (pe_call GD (hr.mono (by decide)) (by rfl) gD kD bD .nil pass0 (pa_cons (pv 0) (pa_cons (pv 2) pa_nil)))) pa_nil))
        (blkOk_by (own := [("_law_kind", 4)]) (N := ["_law_feed_here", "_law_goods_here", "_law_kinds", "_law_most", "_law_kind"]) (sc := defScope sLot) (by decide +kernel)) (fun _ _ _ _ _ => pg_name (i := 4) scLot.nd rfl (Or.inl rfl)) (fun _ _ _ _ _ => pts_nil)
        (fun _ _ _ _ _ => pe_call GH hr (by rfl) gH kH bH .nil pass0 (pa_cons (pv 0) (pa_cons (pv 1) (pa_cons (pv 3) pa_nil))))) pa_nil))), ?_⟩
    refine ⟨.ref a, rfl, .int kk, rfl, a, c, kk, rfl, by omega, by omega, Fd, fun d H1 d0 d1 k1 F1 => ?_⟩
    refine ⟨1, d, rfl, rfl, 1 + d, rfl, by omega, by omega, fun D nD => ?_⟩
    have nDf : D ≠ a := F1.ne nD
    have nDc : D ≠ c := F1.neC nD
    have nD0 : H D = none := k1.free nDf nD
    refine lc_range (lo := 0) (n := (1 + d).toNat) (fun i H' => Kp a H H' ∧ FeedAt c H' a ∧ ∃ (as : List Addr) (ll : List (List Int)), H' D = some (.lst (as.map V.ref)) ∧ Rows H' as ll ∧ ll.length = i ∧ ∀ r ∈ ll, GoodRow g m r)
      ⟨k1.late nD0, F1.new nD, [], [], upd_same, True.intro, rfl, fun n hn => by cases hn⟩ (fun i H' hi ⟨kp, F', as, ll, hD, hR, hl, hb⟩ => ?_) (fun H' ⟨kp, F', as, ll, hD, hR, hl, hb⟩ => ?_)
    · refine ⟨rfl, yes (iteT ?_)⟩
      refine ⟨.ref a, rfl, .int g, rfl, .int m, rfl, a, c, g, m, rfl, F', g1, g2, m1, m2, fun H2 p ns k2 F2 np hp gr => ?_⟩
      have hD2 := k2 _ _ nDf hD
      have nt : ∀ b xs, H2 b = some (.tup xs) → upd H2 D (.lst (as.map V.ref ++ [.ref p])) b = some (.tup xs) := fun b xs e => by
        rw [upd_ne (ne_of e hD2 (fun z => by cases z))]
        exact e
      refine ⟨_, hD2, ?_, (kp.trans k2).late nD0, F2.put nDf nDc, as ++ [p], ll ++ [ns], ?_, ?_, ?_, ?_⟩
      · rw [List.length_map, hR.len]
        exact small1000 (by omega)
      · rw [upd_same, List.map_append]
        rfl
      · exact ((hR.kp F' k2).mono nt).app ⟨nt _ _ hp, True.intro⟩
      · rw [List.length_append, hl]
        rfl
      · intro r hr
        rcases List.mem_append.mp hr with h | h
        · exact hb r h
        · rw [List.mem_singleton.mp h]
          exact gr
    · refine ⟨D, _, rfl, .inl ⟨SqL.of hD, fun p np => ?_⟩⟩
      exact q _ p ll (kp.trans (Kp.new np)) (F'.new np) (kp.free (F'.ne np) np) ⟨as, upd_same, hR.same (same_new np)⟩ ⟨by omega, by omega, hb⟩
def spNoughts : Sp := fun vs H Q _ => ∃ n : Int, vs = [.int n] ∧ 1 ≤ n ∧ n ≤ 1000 ∧ ∀ H' p, Same H H' → H p = none → H' p = some (.tup ((List.replicate n.toNat (0 : Int)).map V.int)) → Q (.ref p) H'
theorem rep_one (v : V) : ∀ n : Nat, (List.replicate n [v]).flatten = List.replicate n v
  | 0 => rfl
  | n + 1 => by
    rw [List.replicate_succ, List.flatten_cons, rep_one v n, List.replicate_succ]
    rfl
end
end HL

namespace HL
open PySem PySem.Spec PyProof.Rows L2
open C8 (pss_cut)
/-! ### what a lot must be -/
def okRow (g : Nat) (r : List Int) : Bool := decide (r.length = g) && (r.all (fun n => decide (0 ≤ n ∧ n ≤ 6)) && r.any (fun n => decide (0 < n)))
def flawIn (g : Nat) (ll : List (List Int)) : Option Int := (ll.findIdx? fun r => !okRow g r).map fun i => (i : Int)
def width (ll : List (List Int)) : Nat := (ll.headD []).length
def flaw (ll : List (List Int)) : Option Int := if 1 ≤ ll.length ∧ ll.length ≤ 5 ∧ 1 ≤ width ll ∧ width ll ≤ 3 then flawIn (width ll) ll else some (-1)
def flawV (ll : List (List Int)) : V := match flaw ll with
  | none => .non
  | some k => .int k
theorem flawIn_at {g : Nat} {ll : List (List Int)} {i : Nat} {r : List Int} (h : ll[i]? = some r) (hb : okRow g r = false) (ha : ∀ (j : Nat) (r' : List Int), j < i → ll[j]? = some r' → okRow g r' = true) : flawIn g ll = some (i : Int) := by
  unfold flawIn
  obtain ⟨hi, he⟩ := List.getElem?_eq_some_iff.mp h
  have e : ll.findIdx? (fun r => !okRow g r) = some i := by
    refine List.findIdx?_eq_some_iff_getElem.mpr ⟨hi, by rw [he, hb]; rfl, fun j hj => ?_⟩
    rw [ha j ll[j] hj (List.getElem?_eq_getElem (by omega))]
    decide
  rw [e]
  rfl
theorem flawIn_none {g : Nat} {ll : List (List Int)} (ha : ∀ (j : Nat) (r' : List Int), j < ll.length → ll[j]? = some r' → okRow g r' = true) : flawIn g ll = none := by
  unfold flawIn
  have e : ll.findIdx? (fun r => !okRow g r) = none := by
    refine List.findIdx?_eq_none_iff.mpr fun r hr => ?_
    obtain ⟨j, hj, hjr⟩ := List.mem_iff_getElem.mp hr
    rw [ha j r hj (by rw [List.getElem?_eq_getElem hj, hjr])]
    rfl
  rw [e]
  rfl
theorem all_in {r : List Int} : (r.all (fun n => decide (0 ≤ n ∧ n ≤ 6))) = true ↔ ∀ n ∈ r, 0 ≤ n ∧ n ≤ 6 := by
  rw [List.all_eq_true]
  exact ⟨fun h n hn => of_decide_eq_true (h n hn), fun h n hn => decide_eq_true (h n hn)⟩
theorem any_pos {r : List Int} : (r.any (fun n => decide (0 < n))) = true ↔ ∃ n ∈ r, 0 < n := by
  rw [List.any_eq_true]
  exact ⟨fun ⟨n, hn, h⟩ => ⟨n, hn, of_decide_eq_true h⟩, fun ⟨n, hn, h⟩ => ⟨n, hn, decide_eq_true h⟩⟩
theorem okRow_iff {g : Nat} {r : List Int} : okRow g r = true ↔ r.length = g ∧ (∀ n ∈ r, 0 ≤ n ∧ n ≤ 6) ∧ ∃ n ∈ r, 0 < n := by
  unfold okRow
  rw [Bool.and_eq_true, Bool.and_eq_true, decide_eq_true_iff, all_in, any_pos]
theorem sum_pos {r : List Int} (h0 : ∀ n ∈ r, 0 ≤ n) (h : ∃ n ∈ r, 0 < n) : 0 < r.sum := by
  induction r with
  | nil => obtain ⟨n, hn, _⟩ := h; cases hn
  | cons x r ih =>
    rw [List.sum_cons]
    have x0 := h0 x List.mem_cons_self
    have rest : 0 ≤ r.sum := by
      clear ih h
      induction r with
      | nil => exact Int.le_refl _
      | cons y r ih2 =>
        rw [List.sum_cons]
        have := h0 y (List.mem_cons_of_mem _ List.mem_cons_self)
        have := ih2 fun n hn => h0 n (by
          rcases List.mem_cons.mp hn with h | h
          · rw [h]; exact List.mem_cons_self
          · exact List.mem_cons_of_mem _ (List.mem_cons_of_mem _ h))
        omega
    obtain ⟨n, hn, hp⟩ := h
    rcases List.mem_cons.mp hn with h | h
    · omega
    · have := ih (fun n hn => h0 n (List.mem_cons_of_mem _ hn)) ⟨n, h, hp⟩
      omega
/-- 1 <= x <= 5 as a test -/
theorem chainI {i j L : Int} {H : Hp} {Q : Bool → Hp → Prop} (h : Q (decide (i ≤ L ∧ L ≤ j)) H) :
    if decide (i ≤ L) = true then (∃ a b : Int, V.int L = V.int a ∧ V.int j = V.int b ∧ ∃ k, V.bl (decide (a ≤ b)) = V.bl k ∧ Q k H) else ∃ k, V.bl false = V.bl k ∧ Q k H := by
  by_cases c : i ≤ L
  · rw [if_pos (decide_eq_true c)]
    refine ⟨L, j, rfl, rfl, _, rfl, ?_⟩
    rw [show decide (L ≤ j) = decide (i ≤ L ∧ L ≤ j) by simp [c]]
    exact h
  · rw [if_neg (fun z => c (of_decide_eq_true z))]
    refine ⟨false, rfl, ?_⟩
    rw [show false = decide (i ≤ L ∧ L ≤ j) by simp [c]]
    exact h
theorem Rows.head {H : Hp} {as : List Addr} {ll : List (List Int)} (h : Rows H as ll) (hl : 1 ≤ ll.length) : ∃ a, as[0]? = some a ∧ H a = some (.tup ((ll.headD []).map V.int)) ∧ (ll.headD []).length = width ll := by
  cases as with
  | nil =>
    cases ll with
    | nil => simp at hl
    | cons r rs => exact h.elim
  | cons a as =>
    cases ll with
    | nil => simp at hl
    | cons r rs => exact ⟨a, rfl, h.1, rfl⟩
end HL

namespace HL
open PySem PySem.Spec PyProof.Rows L2
open C8 (pss_cut)
open RZ (pi_zipA ItzT iZipA)
theorem scIH : FnScope ["hold", "goods", "amount"] ["hold", "goods"] (defScope sIsHold) := ⟨rfl, rfl, rfl, by decide +kernel, rfl, by decide +kernel, by decide +kernel⟩
theorem scLk : FnScope ["lot", "kind", "hold"] ["lot"] (defScope sLook) := ⟨rfl, rfl, rfl, by decide +kernel, rfl, by decide +kernel, by decide +kernel⟩
theorem scGo : FnScope ["lot"] ["lot"] (defScope sGoods) := ⟨rfl, rfl, rfl, by decide +kernel, rfl, by decide +kernel, by decide +kernel⟩
/-- 0 <= x <= 6 as a value -/
theorem chainV {i j L : Int} {H : Hp} {σ : L2.St} {Q : VK} (h : Q (.bl (decide (i ≤ L ∧ L ≤ j))) H) :
    if decide (i ≤ L) = true then tC (.int j) σ H (fun v H4 => rI0 (fun i j => V.bl (decide (i ≤ j))) (.int L) v H4 Q) else Q (.bl false) H := by
  by_cases c : i ≤ L
  · rw [if_pos (decide_eq_true c)]
    refine ⟨L, j, rfl, rfl, ?_⟩
    show Q (.bl (decide (L ≤ j))) H
    rw [show decide (L ≤ j) = decide (i ≤ L ∧ L ≤ j) by simp [c]]
    exact h
  · rw [if_neg (fun z => c (of_decide_eq_true z))]
    rw [show false = decide (i ≤ L ∧ L ≤ j) by simp [c]]
    exact h
section
variable {P : Program} {w : World} {K : PySem.W.Frag} {mg : Str → Option Value} {base : Heap}
def spIsHold : Sp := fun vs H Q _ => ∃ (a : Addr) (g : Nat) (r : List Int), vs = [.ref a, .int (g : Int)] ∧ H a = some (.tup (r.map V.int)) ∧ r.length ≤ 1000 ∧ 1 ≤ g ∧ ∀ H', Same H H' → Q (.bl (okRow g r)) H'
structure Consts (mg : Str → Option Value) : Prop where
  hold : ∃ t, mg "MOST_HOLD" = some (.int 6 t)
  kinds : ∃ t, mg "MOST_KINDS" = some (.int 5 t)
  goods : ∃ t, mg "MOST_GOODS" = some (.int 3 t)
theorem ok_isHold {f : Addr} {fd : FuncData} {k : Nat} (F : Fun K "is_hold" "is_hold" sIsHold f fd) (B : Bl mg) (M : Consts mg) : FnOk P w K mg base CX0 (k + 1) f fd ["hold", "goods"] spIsHold := by
  obtain ⟨t6, m6⟩ := M.hold
  refine F.ok scIH (fun vs H Q E h => ?_) (fun cdv A outer s H vs Q E hr h => ?_)
  · obtain ⟨a, g, r, rfl, _⟩ := h
    rfl
  · obtain ⟨a, g, r, rfl, ha, hz, g1, q⟩ := h
    refine ⟨_, pss_one (ps_ret (pe_and (pe_cmpR op_eq (pe_callB call_len_seq (by rfl) B.len PySem.boot_len (pa_cons (pv 0) pa_nil)) (pv 1) (nomark _))
      (pe_and (pe_callB (cr_all rfl) (by rfl) B.all (by decide +kernel) (pa_cons (pe_lc (own := [("amount", 2)]) (g := gName 2) (tt := tYes) rfl scIH.nd (pi_tup (pv 0))
          (blkOk_by (own := [("amount", 2)]) (N := ["hold", "goods", "amount"]) (sc := defScope sIsHold) (by decide +kernel)) (fun _ _ _ _ _ => pg_name (i := 2) scIH.nd rfl (Or.inl rfl)) (fun _ _ _ _ _ => pts_nil)
          (fun _ _ _ _ _ => pe_chain op_le op_le pe_int (pv 2) (pe_glob (v := .int 6) rfl m6 ⟨_, rfl⟩))) pa_nil))
        (pe_one (pe_cmpR op_gt (pe_callB (cr_maxT rfl hr.units) (by rfl) B.max (by decide +kernel) (pa_cons (pv 0) pa_nil)) pe_int (nomark _)))))), ?_⟩
    have sA : SqT K H a (r.map V.int) := SqT.of ha
    refine ⟨.ref a, rfl, a, _, rfl, .inr sA, .int (g : Int), rfl, rfl, _, rfl, ?_⟩
    rw [List.length_map]
    refine ite2 (fun c1 => ?_) (fun c1 => ?_)
    · have hl : r.length = g := by
        have := V.int.inj (of_decide_eq_true c1)
        omega
      refine ⟨.ref a, rfl, a, rfl, ⟨_, sA⟩, fun D nD => ?_⟩
      refine lc_tup (K := K) (a := a) (xs := r.map V.int) (fun i H' => Same H H' ∧ H' D = some (.lst (((r.take i).map fun n => decide (0 ≤ n ∧ n ≤ 6)).map V.bl))) ⟨same_new nD, upd_same⟩ (fun i H' _ ⟨sm, _⟩ => SqT.of (sm _ _ ha)) (fun i x H' hx ⟨sm, hD⟩ => ?_) (fun H' ⟨sm, hD⟩ => ?_)
      · obtain ⟨n, hn, rfl⟩ : ∃ n, r[i]? = some n ∧ x = V.int n := by
          rw [List.getElem?_map] at hx
          cases e : r[i]? with
          | none => rw [e] at hx; cases hx
          | some n => rw [e] at hx; exact ⟨n, rfl, (Option.some.inj hx).symm⟩
        refine ⟨rfl, yes (iteT ?_)⟩
        refine ⟨.int n, rfl, 0, n, rfl, rfl, _, rfl, chainV ?_⟩
        refine ⟨_, hD, ?_, same_late sm nD, ?_⟩
        · rw [List.length_map, List.length_map]
          exact small1000 (Nat.le_trans (List.length_take_le' _ _) hz)
        · rw [upd_same, List.take_add_one, hn, List.map_append, List.map_append]
          rfl
      · rw [List.length_map, List.take_length] at hD
        refine ⟨D, _, rfl, SqL.of hD, _, rfl, ?_⟩
        have eall : ((r.map fun n => decide (0 ≤ n ∧ n ≤ 6)).all id) = r.all (fun n => decide (0 ≤ n ∧ n ≤ 6)) := by
          rw [List.all_map]
          rfl
        rw [eall]
        refine ite2 (fun c2 => ?_) (fun c2 => ?_)
        · refine ⟨.ref a, rfl, a, r, rfl, SqT.of (sm _ _ ha), by omega, fun mx hmx hmax => ?_⟩
          refine ⟨mx, 0, rfl, rfl, ?_⟩
          have e : decide ((0 : Int) < mx) = okRow g r := by
            unfold okRow
            rw [decide_eq_true hl, c2, Bool.true_and, Bool.true_and]
            by_cases z : 0 < mx
            · rw [decide_eq_true z, any_pos.mpr ⟨mx, hmx, z⟩]
            · rw [decide_eq_false z]
              cases y : r.any (fun n => decide (0 < n)) with
              | false => rfl
              | true =>
                obtain ⟨n, hn, h0⟩ := any_pos.mp y
                have := hmax n hn
                omega
          have q1 := q H' sm
          rw [← e] at q1
          exact q1
        · have e : okRow g r = false := by
            unfold okRow
            rw [Bool.eq_false_iff.mpr c2, Bool.false_and, Bool.and_false]
          have q1 := q H' sm
          rw [e] at q1
          exact q1
    · have e : okRow g r = false := by
        unfold okRow
        rw [decide_eq_false (fun z => c1 (decide_eq_true (by rw [z]))), Bool.false_and]
      have q1 := q H (Same.refl _)
      rw [e] at q1
      exact q1
end
theorem flaw_ok {ll : List (List Int)} (h : flaw ll = none) : 1 ≤ ll.length ∧ ll.length ≤ 5 ∧ 1 ≤ width ll ∧ width ll ≤ 3 := by
  unfold flaw at h
  by_cases c : 1 ≤ ll.length ∧ ll.length ≤ 5 ∧ 1 ≤ width ll ∧ width ll ≤ 3
  · exact c
  · rw [if_neg c] at h
    cases h
theorem flaw_rows {ll : List (List Int)} (h : flaw ll = none) : ∀ r ∈ ll, r.length = width ll ∧ ∀ n ∈ r, 0 ≤ n ∧ n ≤ 6 := by
  have h0 := flaw_ok h
  unfold flaw at h
  rw [if_pos ⟨h0.1, h0.2.1, h0.2.2.1, h0.2.2.2⟩] at h
  unfold flawIn at h
  have e : ll.findIdx? (fun r => !okRow (width ll) r) = none := by
    cases z : ll.findIdx? (fun r => !okRow (width ll) r) with
    | none => rfl
    | some i => rw [z] at h; cases h
  intro r hr
  have := List.findIdx?_eq_none_iff.mp e r hr
  have b : okRow (width ll) r = true := by
    cases z : okRow (width ll) r with
    | true => rfl
    | false => rw [z] at this; cases this
  obtain ⟨o1, o2, _⟩ := okRow_iff.mp b
  exact ⟨o1, o2⟩
theorem nilA {σ : L2.St} {H : Hp} {Q : List V → Hp → Prop} (h : Q [] H) : tNil σ H Q := h
/-- i <= x <= e, e any expression -/
theorem chainE {i j L : Int} {te : TE} {σ : L2.St} {H : Hp} {Q : Bool → Hp → Prop} (hte : ∀ Q' : VK, Q' (.int j) H → te σ H Q') (h : Q (decide (i ≤ L ∧ L ≤ j)) H) :
    if decide (i ≤ L) = true then te σ H (fun v H4 => rI0 (fun i j => V.bl (decide (i ≤ j))) (.int L) v H4 (fun x H' => ∃ k, x = .bl k ∧ Q k H')) else ∃ k, V.bl false = V.bl k ∧ Q k H := by
  by_cases c : i ≤ L
  · rw [if_pos (decide_eq_true c)]
    refine hte _ ⟨L, j, rfl, rfl, _, rfl, ?_⟩
    rw [show decide (L ≤ j) = decide (i ≤ L ∧ L ≤ j) by simp [c]]
    exact h
  · rw [if_neg (fun z => c (of_decide_eq_true z))]
    refine ⟨false, rfl, ?_⟩
    rw [show false = decide (i ≤ L ∧ L ≤ j) by simp [c]]
    exact h
/-- i <= x < e -/
theorem chainF {i j L : Int} {te : TE} {σ : L2.St} {H : Hp} {Q : Bool → Hp → Prop} (hte : ∀ Q' : VK, Q' (.int j) H → te σ H Q') (h : Q (decide (i ≤ L ∧ L < j)) H) :
    if decide (i ≤ L) = true then te σ H (fun v H4 => rI0 (fun i j => V.bl (decide (i < j))) (.int L) v H4 (fun x H' => ∃ k, x = .bl k ∧ Q k H')) else ∃ k, V.bl false = V.bl k ∧ Q k H := by
  by_cases c : i ≤ L
  · rw [if_pos (decide_eq_true c)]
    refine hte _ ⟨L, j, rfl, rfl, _, rfl, ?_⟩
    rw [show decide (L < j) = decide (i ≤ L ∧ L < j) by simp [c]]
    exact h
  · rw [if_neg (fun z => c (of_decide_eq_true z))]
    refine ⟨false, rfl, ?_⟩
    rw [show false = decide (i ≤ L ∧ L < j) by simp [c]]
    exact h
end HL

namespace HL
open PySem PySem.Spec PyProof.Rows L2
open C8 (pss_cut)
/-! ### tuples cut and joined -/
theorem sz1000 {n : Nat} (h : n ≤ 1000) : n ≤ sizeLine := Nat.le_of_lt (small1000 h)
theorem cat_read {K : PySem.W.Frag} {H : Hp} {a b : Addr} {xs ys : List V} {Q : VK} (ha : H a = some (.tup xs)) (hb : H b = some (.tup ys)) (hz : xs.length + ys.length ≤ 1000)
    (q : ∀ p H', Same H H' → H' p = some (.tup (xs ++ ys)) → Q (.ref p) H') : rCatA K (.ref a) (.ref b) H Q := by
  refine ⟨a, b, xs, ys, rfl, rfl, SqT.of ha, SqT.of hb, sz1000 hz, fun e => ?_, fun _ e => ?_, fun _ _ p np => q p _ (same_new np) upd_same⟩
  · subst e
    exact q b H (Same.refl _) hb
  · subst e
    exact q a H (Same.refl _) (by rw [List.append_nil]; exact ha)
theorem slice_read {K : PySem.W.Frag} {H : Hp} {a : Addr} {xs : List V} {lo hi : Option Int} {Q : VK} (ha : H a = some (.tup xs)) (q : ∀ p H', Same H H' → H' p = some (.tup (cutV xs lo hi)) → Q (.ref p) H') : rSlA K (.ref a) lo hi H Q := by
  refine ⟨a, xs, rfl, SqT.of ha, fun e => ?_, fun _ p np => q p _ (same_new np) upd_same⟩
  refine q a H (Same.refl _) ?_
  unfold cutV
  rw [e.1, e.2, List.drop_zero, Nat.sub_zero, List.take_length]
  exact ha
theorem cut_ex (L : Nat) (lo hi : Option Int) : ∃ n m : Nat, ∀ {α : Type} (f : α → V) (l : List α), l.length = L → cutV (l.map f) lo hi = ((l.drop n).take m).map f :=
  ⟨HT.sIx L 0 lo, HT.sIx L L hi - HT.sIx L 0 lo, fun f l h => by
    unfold cutV
    rw [List.length_map, h, List.map_take, List.map_drop]⟩
/-- a tuple of ints, a tuple of rows -/
def IntsAt (H : Hp) (p : Addr) (ns : List Int) : Prop := H p = some (.tup (ns.map V.int))
def RowsAt (H : Hp) (p : Addr) (as : List Addr) (ll : List (List Int)) : Prop := H p = some (.tup (as.map V.ref)) ∧ Rows H as ll
theorem IntsAt.same {H H' : Hp} {p : Addr} {ns : List Int} (h : IntsAt H p ns) (s : Same H H') : IntsAt H' p ns := s _ _ h
theorem RowsAt.same {H H' : Hp} {p : Addr} {as : List Addr} {ll : List (List Int)} (h : RowsAt H p as ll) (s : Same H H') : RowsAt H' p as ll := ⟨s _ _ h.1, h.2.same s⟩
theorem RowsAt.kp {H H' : Hp} {f c p : Addr} {as : List Addr} {ll : List (List Int)} (h : RowsAt H p as ll) (F : FeedAt c H f) (k : Kp f H H') : RowsAt H' p as ll := ⟨k _ _ (F.tup h.1) h.1, h.2.kp F k⟩
theorem RowsAt.lot {H : Hp} {p : Addr} {as : List Addr} {ll : List (List Int)} (h : RowsAt H p as ll) : LotAt H p ll := ⟨as, h.1, h.2⟩
theorem IntsAt.kp {H H' : Hp} {f c p : Addr} {ns : List Int} (h : IntsAt H p ns) (F : FeedAt c H f) (k : Kp f H H') : IntsAt H' p ns := k _ _ (F.tup h) h
theorem cat_ints {K : PySem.W.Frag} {H : Hp} {a b : Addr} {xs ys : List Int} {Q : VK} (ha : IntsAt H a xs) (hb : IntsAt H b ys) (hz : xs.length + ys.length ≤ 1000)
    (q : ∀ p H', Same H H' → IntsAt H' p (xs ++ ys) → Q (.ref p) H') : rCatA K (.ref a) (.ref b) H Q :=
  cat_read ha hb (by rw [List.length_map, List.length_map]; exact hz) fun p H' s h => q p H' s (by unfold IntsAt; rw [List.map_append]; exact h)
theorem cat_rows {K : PySem.W.Frag} {H : Hp} {a b : Addr} {as bs : List Addr} {ll mm : List (List Int)} {Q : VK} (ha : RowsAt H a as ll) (hb : RowsAt H b bs mm) (hz : ll.length + mm.length ≤ 1000)
    (q : ∀ p H', Same H H' → RowsAt H' p (as ++ bs) (ll ++ mm) → Q (.ref p) H') : rCatA K (.ref a) (.ref b) H Q :=
  cat_read ha.1 hb.1 (by rw [List.length_map, List.length_map, ha.2.len, hb.2.len]; exact hz) fun p H' s h => q p H' s ⟨by rw [List.map_append]; exact h, (ha.2.same s).app (hb.2.same s)⟩
theorem slice_ints {K : PySem.W.Frag} {H : Hp} {a : Addr} {xs : List Int} {lo hi : Option Int} {Q : VK} (ha : IntsAt H a xs) (q : ∀ p H' n m, Same H H' → IntsAt H' p ((xs.drop n).take m) → Q (.ref p) H') : rSlA K (.ref a) lo hi H Q := by
  obtain ⟨n, m, e⟩ := cut_ex xs.length lo hi
  exact slice_read ha fun p H' s h => q p H' n m s (by unfold IntsAt; rw [← e V.int xs rfl]; exact h)
theorem slice_rows {K : PySem.W.Frag} {H : Hp} {a : Addr} {as : List Addr} {ll : List (List Int)} {lo hi : Option Int} {Q : VK} (ha : RowsAt H a as ll)
    (q : ∀ p H' n m, Same H H' → RowsAt H' p ((as.drop n).take m) ((ll.drop n).take m) → Q (.ref p) H') : rSlA K (.ref a) lo hi H Q := by
  obtain ⟨n, m, e⟩ := cut_ex as.length lo hi
  exact slice_read ha.1 fun p H' s h => q p H' n m s ⟨by rw [← e V.ref as rfl]; exact h, ((ha.2.same s).drop n).take m⟩
theorem len_cut {α : Type} (l : List α) (n m : Nat) : ((l.drop n).take m).length ≤ l.length := by
  rw [List.length_take, List.length_drop]
  omega
theorem mem_cut {α : Type} {l : List α} {n m : Nat} {x : α} (h : x ∈ (l.drop n).take m) : x ∈ l := List.mem_of_mem_drop (List.mem_of_mem_take h)
theorem one_row {H : Hp} {t r : Addr} {row : List Int} (h : IntsAt H r row) (nt : H t = none) : RowsAt (upd H t (.tup [.ref r])) t [r] [row] := ⟨upd_same, ⟨(same_new nt) _ _ h, True.intro⟩⟩
theorem sz_1 (v : V) : [v].length ≤ sizeLine := by
  show 1 ≤ sizeLine
  decide
theorem noPart {σ : L2.St} {H : Hp} {Q : Option Int → Hp → Prop} (h : Q none H) : tNoPart σ H Q := h
end HL

set_option pp.maxSteps 3000
namespace HL
open PySem PySem.Spec PyProof.Rows L2
open C8 (pss_cut)
abbrev G30 : Int := 1000000000000000000000000000000
section
variable {P : Program} {w : World} {K : PySem.W.Frag} {mg : Str → Option Value} {base : Heap}
theorem okRow_all {ll : List (List Int)} (h : flaw ll = none) : ∀ r ∈ ll, okRow (width ll) r = true := fun r hr => by
  have h0 := flaw_ok h
  unfold flaw at h
  rw [if_pos ⟨h0.1, h0.2.1, h0.2.2.1, h0.2.2.2⟩] at h
  unfold flawIn at h
  have e : ll.findIdx? (fun r => !okRow (width ll) r) = none := by
    cases z : ll.findIdx? (fun r => !okRow (width ll) r) with
    | none => rfl
    | some i => rw [z] at h; cases h
  have := List.findIdx?_eq_none_iff.mp e r hr
  cases z : okRow (width ll) r with
  | true => rfl
  | false => rw [z] at this; cases this
/-! ### a lot that is one -/
def spLook0 : Sp := fun vs H Q _ => ∃ (p : Addr) (as : List Addr) (ll : List (List Int)), vs = [.ref p] ∧ RowsAt H p as ll ∧ flaw ll = none ∧ ∀ H', Same H H' → Q .non H'
theorem ok_look0 {f : Addr} {fd : FuncData} (F : Fun K "look_lot" "look_lot" sLook f fd) (B : Bl mg) (M : Consts mg) (CH : Cal P w K mg base CX0 1 "is_hold" ["hold", "goods"] spIsHold) : FnOk P w K mg base CX0 2 f fd ["lot"] spLook0 := by
  obtain ⟨t5, m5⟩ := M.kinds
  obtain ⟨t3, m3⟩ := M.goods
  obtain ⟨fH, fdH, GH, gH, kH, bH⟩ := CH.ex
  refine F.ok scLk (fun vs H Q E h => ?_) (fun cdv A outer s H vs Q E hr h => ?_)
  · obtain ⟨p, as, ll, rfl, _⟩ := h
    rfl
  · obtain ⟨p, as, ll, rfl, hL, ef, q0⟩ := h
    have hok := flaw_ok ef
    have hrows := flaw_rows ef
    have hlen := hL.2.len
    refine ⟨_, pss_cons (ps_if (PW.pt (pw_or (pt_not (pt_chain op_le op_le pe_int (pe_callB call_len_seq (by rfl) B.len PySem.boot_len (pa_cons (pv 0) pa_nil)) (pe_glob (v := .int 5) rfl m5 ⟨_, rfl⟩)))
          (pw_or1 (pt_not (pt_chain op_le op_le pe_int (pe_callB call_len_seq (by rfl) B.len PySem.boot_len (pa_cons (pe_ix ix_tup (pv 0) pe_int (fun _ _ => rfl)) pa_nil)) (pe_glob (v := .int 3) rfl m3 ⟨_, rfl⟩)))))) pss_never pss_nil)
      (pss_one (ps_for PassesOwn.never rfl (pi_enumT (by rfl) B.enumerate (pa_cons (pv 0) pa_nil)) (pg_tup rfl (pgs_cons (pg_name (i := 1) scLk.nd rfl (.inl rfl)) (pgs_cons (pg_name (i := 2) scLk.nd rfl (.inl rfl)) pgs_nil)))
        (pss_one (ps_if (pt_not (pt_val (pe_call GH hr (by rfl) gH kH bH .nil pass0 (pa_cons (pv 2) (pa_cons (pe_callB call_len_seq (by rfl) B.len PySem.boot_len (pa_cons (pe_ix ix_tup (pv 0) pe_int (fun _ _ => rfl)) pa_nil)) pa_nil))))) pss_never pss_nil)))), ?_⟩
    have sP : SqT K H p (as.map V.ref) := SqT.of hL.1
    obtain ⟨a0, ha0, hh0, hw⟩ := hL.2.head hok.1
    have at0 : atI (as.map V.ref) 0 = some (.ref a0) := atI_nat (j := 0) (by rw [List.getElem?_map, ha0]; rfl)
    refine ⟨.ref p, rfl, p, _, rfl, .inr sP, 1, _, rfl, rfl, _, rfl, chainI ?_⟩
    rw [List.length_map, hlen, decide_eq_true (show (1 : Int) ≤ (ll.length : Nat) ∧ ((ll.length : Nat) : Int) ≤ 5 by omega)]
    refine iteF ?_
    refine ⟨.ref p, rfl, p, _, 0, .ref a0, rfl, rfl, sP, at0, a0, _, rfl, .inr (SqT.of hh0), 1, _, rfl, rfl, _, rfl, chainI ?_⟩
    rw [List.length_map, hw, decide_eq_true (show (1 : Int) ≤ (width ll : Nat) ∧ ((width ll : Nat) : Int) ≤ 3 by omega)]
    refine iteF ?_
    refine ⟨.ref p, rfl, p, _, rfl, sP, ?_⟩
    refine ⟨fun i m σ H' => i + m = as.length ∧ Same H H' ∧ (∃ y1 y2, σ = [some (.ref p), y1, y2]), ⟨as.length, by omega, Same.refl _, ⟨none, none, rfl⟩⟩, fun i m σ H' hW => ?_⟩
    obtain ⟨em, sm, ⟨y1, y2, rfl⟩⟩ := hW
    have sP' : SqT K H' p (as.map V.ref) := SqT.of (sm _ _ hL.1)
    by_cases hi : i < as.length
    · have hai : as[i]? = some as[i] := List.getElem?_eq_getElem hi
      obtain ⟨r, hr1, hr2⟩ := hL.2.at hai
      have g1 : (as.map V.ref)[i]? = some (.ref as[i]) := by rw [List.getElem?_map, hai]; rfl
      refine .inr ⟨⟨_, _, sP', g1⟩, fun σ' H2 => Same H H2 ∧ (∃ y1 y2, σ' = [some (.ref p), y1, y2]), fun σ' H2 hN => ⟨m - 1, by omega, by omega, hN⟩, fun x H2 hy => ?_⟩
      obtain ⟨T2, x2, rfl, nT, rfl, f2⟩ := hy
      have ex2 : x2 = .ref as[i] := Option.some.inj ((f2 _ sP').symm.trans g1)
      subst ex2
      have s3 : Same H (upd H' T2 (.tup [.int (i : Nat), .ref as[i]])) := sm.trans (same_new nT)
      refine ⟨T2, _, rfl, SqT.of upd_same, rfl, _, _, rfl, _, _, rfl, rfl, ?_⟩
      refine ⟨.ref as[i], rfl, .ref p, rfl, p, _, 0, .ref a0, rfl, rfl, SqT.of (s3 _ _ hL.1), at0, a0, _, rfl, .inr (SqT.of (s3 _ _ hh0)), as[i], width ll, r, ?_, s3 _ _ hr2, by have := (hrows r (List.mem_of_getElem? hr1)).1; omega, hok.2.2.1, fun H4 s4 => ⟨_, rfl, ?_⟩⟩
      · rw [List.length_map, hw]
        rfl
      · rw [okRow_all ef r (List.mem_of_getElem? hr1)]
        exact iteF ⟨s3.trans s4, ⟨_, _, rfl⟩⟩
    · exact .inl ⟨⟨_, sP', by rw [List.length_map]; omega⟩, q0 H' sm⟩
def spGoods0 : Sp := fun vs H Q _ => ∃ (p : Addr) (as : List Addr) (ll : List (List Int)), vs = [.ref p] ∧ RowsAt H p as ll ∧ flaw ll = none ∧ ∀ H', Same H H' → Q (.int (width ll : Nat)) H'
theorem ok_goods0 {f : Addr} {fd : FuncData} (F : Fun K "goods_of" "goods_of" sGoods f fd) (B : Bl mg) (CL : Cal P w K mg base CX0 2 "look_lot" ["lot"] spLook0) : FnOk P w K mg base CX0 3 f fd ["lot"] spGoods0 := by
  obtain ⟨fL, fdL, GL, gL, kL, bL⟩ := CL.ex
  refine F.ok scGo (fun vs H Q E h => ?_) (fun cdv A outer s H vs Q E hr h => ?_)
  · obtain ⟨p, as, ll, rfl, _⟩ := h
    rfl
  · obtain ⟨p, as, ll, rfl, hL, ef, q0⟩ := h
    refine ⟨_, pss_cons (ps_expr (pe_call GL hr (by rfl) gL kL bL .nil pass0 (pa_cons (pv 0) pa_nil)))
      (pss_one (ps_ret (pe_callB call_len_seq (by rfl) B.len PySem.boot_len (pa_cons (pe_ix ix_tup (pv 0) pe_int (fun _ _ => rfl)) pa_nil)))), ?_⟩
    refine ⟨.ref p, rfl, p, as, ll, rfl, hL, ef, fun H' sm => ?_⟩
    obtain ⟨a0, ha0, hh0, hw⟩ := (hL.same sm).2.head (flaw_ok ef).1
    have at0 : atI (as.map V.ref) 0 = some (.ref a0) := atI_nat (j := 0) (by rw [List.getElem?_map, ha0]; rfl)
    refine ⟨.ref p, rfl, p, _, 0, .ref a0, rfl, rfl, SqT.of (hL.same sm).1, at0, a0, _, rfl, .inr (SqT.of hh0), ?_⟩
    rw [List.length_map, hw]
    exact q0 H' sm
end
end HL

set_option pp.maxSteps 3000
namespace HL
open PySem PySem.Spec PyProof.Rows L2
open C8 (pss_cut)
open LamX (CodeO Tabs TabS TabB ExtN tLam LamS lamS_by lamCx lamEnv codeO_ne)
abbrev sLotInit : Stmt := inClass (topS 2) 0
/-- what is known of a refusal's class whose __init__ stores a word and a field -/
structure Cls2 (K : PySem.W.Frag) (C : Addr) (f : Str) : Prop where
  ox : OexC K C
  noW : PySem.W.findIn K (.ref C) "word" = some none
  noF : PySem.W.findIn K (.ref C) f = some none
abbrev exF (f wd : Str) (v : V) : List (Str × V) := [(f, v), ("word", .str wd)]
def spInit2 (C : Addr) (f wd : Str) : Sp := fun vs H Q _ => ∃ (a : Addr) (v : V), vs = [.ref a, v] ∧ H a = some (exo a C none) ∧
  ∀ dx, H dx = none → dx ≠ a → Q .non (upd (upd (upd H dx (exd dx [("word", .str wd)])) a (exo a C (some dx))) dx (exd dx (exF f wd v)))
theorem scLI : FnScope ["self", "kind"] ["self", "kind"] (defScope sLotInit) := ⟨rfl, rfl, rfl, by decide +kernel, rfl, by decide +kernel, by decide +kernel⟩
section
variable {P : Program} {w : World} {K : PySem.W.Frag} {mg : Str → Option Value} {base : Heap}
theorem ok_badInit {f : Addr} {fd : FuncData} {k : Nat} {C : Addr} (F : Fun K "__init__" "BadLot.__init__" sLotInit f fd) (T : Cls2 K C "kind") : FnOk P w K mg base CX0 (k + 1) f fd ["self", "kind"] (spInit2 C "kind" "bad lot") := by
  refine F.ok scLI (fun vs H Q E h => ?_) (fun cdv A outer s H vs Q E hr h => ?_)
  · obtain ⟨a, v, rfl, _⟩ := h
    rfl
  · obtain ⟨a, v, rfl, ha, q⟩ := h
    refine ⟨_, pss_cons (ps_ost (pv 0) pe_str) (pss_one (ps_ost (pv 0) (pv 1))), ?_⟩
    refine ⟨.ref a, rfl, a, C, rfl, T.ox, T.noW, .inl ⟨ha, fun dx nd ne => ?_⟩⟩
    refine ⟨v, rfl, .ref a, rfl, a, C, rfl, T.ox, T.noF, .inr ⟨dx, _, upd_same, ?_, (by show 1 ≤ 900; decide), q dx nd ne⟩⟩
    rw [upd_ne ne, upd_same]
/-- the heap behind a refusal that was made -/
theorem xd_same {H : Hp} {a dx : Addr} {o1 o2 o3 o4 o5 : HO} (na : H a = none) (nd : H dx = none) : Same H (upd (del (upd (upd (upd (upd H a o1) dx o2) a o3) dx o4) a) dx o5) := fun b o e => by
  have n1 := ne_of_none e na
  have n2 := ne_of_none e nd
  rw [upd_ne n2, del_ne n1, upd_ne n2, upd_ne n1, upd_ne n2, upd_ne n1]
  exact e
/-- refused with the class at C, field f holding v -/
def Refd (C : Addr) (f wd : Str) (v : V) (H : Hp) (E : XK) : Prop := ∀ H' d, Same H H' → H d = none → H' d = some (.xd (exF f wd v)) → E (.ref C) (some d) H'
theorem Refd.same {C : Addr} {f wd : Str} {v : V} {H H1 : Hp} {E : XK} (h : Refd C f wd v H E) (s : Same H H1) : Refd C f wd v H1 E := fun H' d s' n e => h H' d (s.trans s') (s.free n) e
/-- raise C(v): its reading from what is wanted -/
theorem mk_refd {C : Addr} {f wd : Str} {v : V} {H : Hp} {E : XK} (h : Refd C f wd v H E) : [v].length ≤ 1000 ∧ ∀ a, H a = none → spInit2 C f wd (.ref a :: ([v] ++ [])) (upd H a (exo a C none))
    (fun u H2 => u = .non ∧ ∃ (d : Addr) (fs : List (Str × V)), H2 a = some (exo a C (some d)) ∧ H2 d = some (exd d fs) ∧ H d = none ∧ E (.ref C) (some d) (upd (del H2 a) d (.xd fs))) (fun _ _ _ => False) := by
  refine ⟨(by show 1 ≤ 1000; decide), fun a na => ⟨a, v, rfl, upd_same, fun dx nd ne => ⟨rfl, dx, exF f wd v, ?_, upd_same, ?_, ?_⟩⟩⟩
  · rw [upd_ne (Ne.symm ne), upd_same]
  · rw [upd_ne ne] at nd
    exact nd
  · rw [upd_ne ne] at nd
    exact h _ dx (xd_same na nd) nd upd_same
/-- BadLot as it stands: its class, its __init__ -/
structure BadTxt (P : Program) (w : World) (K : PySem.W.Frag) (mg : Str → Option Value) (base : Heap) (x : Str) (C : Addr) (f wd : Str) : Prop where
  c2 : Cls2 K C f
  gC : mg x = some (.ref C)
  ini : ∃ (fI : Addr) (fd : FuncData), PySem.W.findIn K (.ref C) "__init__" = some (some (.ref fI)) ∧ PySem.W.typeIn K (.ref fI) = some (.type "function") ∧
    FnOk P w K mg base CX0 1 fI fd ["self", f] (spInit2 C f wd) ∧ Binds K fd ["self", f] []
end
/-- refused with the class at C, its word wd -/
def RefW (C : Addr) (wd : Str) (H : Hp) (E : XK) : Prop := ∀ H' d fs, Same H H' → H' d = some (.xd fs) → fs.lookup (Str.ofString "word") = some (V.str wd) → E (.ref C) (some d) H'
theorem RefW.same {C : Addr} {wd : Str} {H H1 : Hp} {E : XK} (h : RefW C wd H E) (s : Same H H1) : RefW C wd H1 E := fun H' d fs s' e l => h H' d fs (s.trans s') e l
theorem RefW.refd {C : Addr} {f wd : Str} {v : V} {H : Hp} {E : XK} (h : RefW C wd H E) (hf : (("word" : Str) == f) = false) : Refd C f wd v H E := fun H' d s nd e => h H' d _ s e (by
  show List.lookup (Str.ofString "word") [(f, v), (Str.ofString "word", V.str wd)] = _
  rw [List.lookup_cons, hf]
  exact List.lookup_cons_self)
/-- f(k = v, ..) -/
theorem pe_kw0 {X : Cx} {CX : CXT} {k : Nat} {f : Addr} {fd : FuncData} {ps ks : List Str} {sp : Sp} {E : XK} {x : Str} {p pos : Pos} {kws : List Keyword} {tk : TA} {g : List Value → List Value → List Value} {gV : List V → List V → List V}
    (F : FnOk X.prog X.w X.K X.mg X.base CX k f fd ps sp) (hr : Room k X.A) (hg : Gl X x) (hm : X.mg x = some (.ref f)) (hk : PySem.W.keepIn X.K (.ref f) = true) (hb : KBn X.K fd ps 0 ks g gV) (hx : Passes CX X E) (hkw : PK X kws tk)
    (hall : (backToKw pos (keywordEach kws X.env)).all (·.1.isSome) = true := by rfl)
    (hks : (backToKw pos (keywordEach kws X.env)).filterMap (·.1) = ks := by rfl) (hdb : (x == ("__debug__" : Str)) = false := by decide)
    (hpl : ((backTo pos (starEach [] X.env)).any (·.1) || (backToKw pos (keywordEach kws X.env)).any (·.1.isNone)) = false := by rfl) : PE X (.Call (.Name x p) [] kws pos) (tCallN 0 ks.length sp gV E tNil tk) := by
  refine ⟨fun pins s σ H Q I h => wpAny_Call_Name_kw (ld_glob I hg hm ?_ hdb)⟩
  refine PySem.W.callWith_KW0 (h₀ := X.base) I.ok.mod.kin hk hall (thn (hkw.run pos pins s σ H _ I h) fun ws s2 ⟨zs, H2, I2, rz, l1, l2, q2⟩ => ⟨I2.kIn, ?_⟩) hpl
  rw [hks]
  exact run_fnN (us := []) (vs := []) F hr hb hx I2 .nil rz rfl l2 q2
theorem FeedAt.ext {c : Addr} {H H' : Hp} {f : Addr} (F : FeedAt c H f) (e : ExtN H H') : FeedAt c H' f := by
  obtain ⟨ns, i, b, m, n, h1, h2, h3⟩ := F
  exact ⟨ns, i, b, m, n, e _ _ h1 (fun ps z => by cases z), e _ _ h2 (fun ps z => by cases z), h3⟩
theorem IntsAt.ext {H H' : Hp} {p : Addr} {ns : List Int} (h : IntsAt H p ns) (e : ExtN H H') : IntsAt H' p ns := e _ _ h (fun ps z => by cases z)
theorem tabs_kp {T : List (Addr × Str)} {H H' : Hp} {f c : Addr} (t : Tabs T H) (F : FeedAt c H f) (k : Kp f H H') : Tabs T H' := fun p hp => by
  obtain ⟨ps, h1, h2, h3⟩ := t p hp
  obtain ⟨ns, i, b, m, n, g1, _⟩ := F
  refine ⟨ps, k _ _ (ne_of h1 g1 (fun z => by cases z)) h1, h2, fun pos cv hc => ?_⟩
  obtain ⟨c0, e1, e2⟩ := h3 pos cv hc
  refine ⟨c0, e1, k _ _ (ne_of e2 g1 (fun z => ?_)) e2⟩
  unfold CodeO at z
  cases z
theorem tabs_list {T : List (Addr × Str)} {H : Hp} {l : Addr} {xs ys : List V} (t : Tabs T H) (h : H l = some (.lst xs)) : Tabs T (upd H l (.lst ys)) := fun p hp => by
  obtain ⟨ps, h1, h2, h3⟩ := t p hp
  refine ⟨ps, by rw [upd_ne (ne_of h1 h (fun z => by cases z))]; exact h1, h2, fun pos cv hc => ?_⟩
  obtain ⟨c0, e1, e2⟩ := h3 pos cv hc
  refine ⟨c0, e1, ?_⟩
  rw [upd_ne (ne_of e2 h (fun z => ?_))]
  · exact e2
  · unfold CodeO at z
    cases z
/-- the slots of a def are as many as its names -/
theorem takes_len {X : Cx} {W : WX} (tk : Takes X W) : Takes X (fun cls d σ H => σ.length = X.N.length → W cls d σ H) := fun u s' ⟨a, B, sI, pins, σ, H, cls, d, e, I, nb, up, sky, na, os, ag, w⟩ =>
  tk u s' ⟨a, B, sI, pins, σ, H, cls, d, e, I, nb, up, sky, na, os, ag, w I.len⟩
theorem eqd_tup {H : Hp} {a b : Addr} {xs : List V} {d : Nat} (ha : H a = some (.tup xs)) (hb : H b = some (.tup xs)) (hz : xs.length ≤ 1000) (hl : ∀ x ∈ xs, leafV x = true) : Eqd H (d + 1) (.ref a) (.ref b) :=
  .inr ⟨a, b, xs, xs, rfl, rfl, .inr ⟨ha, hb⟩, rfl, hz, fun i x y h1 h2 => by
    rw [h1] at h2
    cases h2
    have e := hl x (List.mem_of_getElem? h1)
    cases d with
    | zero => exact ⟨rfl, e⟩
    | succ d => exact .inl ⟨rfl, e⟩⟩
theorem sz_2 (v w : V) : [v, w].length ≤ sizeLine := by
  show 2 ≤ sizeLine
  decide
/-! ### an ask, told by its word -/
abbrev NW : List Str := ["_law_ask", "_law_word_here", "_law_answer", "e"]
/-- a class that an ask may end with; l: whether it is of Missing's family, else of LotError's -/
structure FamW (K : PySem.W.Frag) (CE CM : Addr) (C : Addr) (l : Bool) : Prop where
  x : XfC K C
  nW : PySem.W.findIn K (.ref C) "word" = some none
  ce : PySem.W.exmOne K (.ref C) (.ref CE) = some (!l)
  cm : l = true → PySem.W.exmOne K (.ref C) (.ref CM) = some true
structure ClsW (mg : Str → Option Value) (CE CM CN : Addr) : Prop where
  gE : mg "LotError" = some (.ref CE)
  gM : mg "Missing" = some (.ref CM)
  gN : mg "NothingLeft" = some (.ref CN)
def tXfA (K : PySem.W.Frag) (a : Addr) (cls : Value) (d : Option Addr) (n : Str) (te : TE) : TE := fun σ H Q => ∃ C, XfC K C ∧ PySem.W.findIn K (.ref C) n = some none ∧ tXf a cls d C n te σ H Q
theorem pe_xfA {X : Cx} {a : Addr} {oe : Obj} {cls : Value} {d : Option Addr} {pn : List (Addr × Obj)} {e : Expr} {te : TE} {pos : Pos} {n : Str} (hz : Zc cls d oe) (hf : ∃ vs, oe.data = .fields vs) (he : PE (X.suite a ((a, oe) :: pn)) e te)
    (hb : attributeBase e n X.env (eval e X.env) = eval e X.env := by rfl) : PE (X.suite a ((a, oe) :: pn)) (.Attribute e n pos) (tXfA X.K a cls d n te) := ⟨fun pins s σ H Q I ⟨C, T, hno, h⟩ => (pe_xf T hno hz hf he hb).run pins s σ H Q I h⟩
def CatchW (K : PySem.W.Frag) (CE CM : Addr) (Q : VK) : XK := fun cls d H' => ∃ (C dd : Addr) (fs : List (Str × V)) (wd : Str) (l : Bool), FamW K CE CM C l ∧ d = some dd ∧ cls = .ref C ∧ H' dd = some (.xd fs) ∧ fs.lookup (Str.ofString "word") = some (V.str wd) ∧ ∀ t, H' t = none → Q (.ref t) (upd H' t (.tup [.non, .str wd]))
end HL

set_option pp.maxSteps 3000
namespace HL
open PySem PySem.Spec PyProof.Rows L2
open C8 (pss_cut)
theorem zipI_at {xs ys : List Int} {i : Nat} {x y : Int} (h1 : xs[i]? = some x) (h2 : ys[i]? = some y) : (xs.zip ys)[i]? = some (x, y) := by
  rw [List.getElem?_zip_eq_some]
  exact ⟨h1, h2⟩
/-! ### slices just so -/
theorem cut_to {xs : List V} {n : Nat} : cutV xs none (some (n : Int)) = xs.take n := by
  unfold cutV
  rw [HT.sIx_none, HT.sIx_nat, List.drop_zero, Nat.sub_zero]
  by_cases h : n ≤ xs.length
  · rw [Nat.min_eq_left h]
  · rw [Nat.min_eq_right (by omega), List.take_length, List.take_of_length_le (by omega)]
theorem cut_from {xs : List V} {n : Nat} : cutV xs (some (n : Int)) none = xs.drop n := by
  unfold cutV
  rw [HT.sIx_none, HT.sIx_nat]
  by_cases h : n ≤ xs.length
  · rw [Nat.min_eq_left h]
    exact List.take_of_length_le (by rw [List.length_drop]; omega)
  · rw [Nat.min_eq_right (by omega), List.drop_eq_nil_of_le (by omega), List.drop_eq_nil_of_le (by omega), List.take_nil]
theorem slice_to {K : PySem.W.Frag} {H : Hp} {a : Addr} {as : List Addr} {ll : List (List Int)} {n : Nat} {Q : VK} (ha : RowsAt H a as ll) (q : ∀ p H', Same H H' → RowsAt H' p (as.take n) (ll.take n) → Q (.ref p) H') : rSlA K (.ref a) none (some (n : Int)) H Q :=
  slice_read ha.1 fun p H' s h => q p H' s ⟨by rw [cut_to, ← List.map_take] at h; exact h, (ha.2.same s).take n⟩
theorem slice_from {K : PySem.W.Frag} {H : Hp} {a : Addr} {as : List Addr} {ll : List (List Int)} {n : Nat} {Q : VK} (ha : RowsAt H a as ll) (q : ∀ p H', Same H H' → RowsAt H' p (as.drop n) (ll.drop n) → Q (.ref p) H') : rSlA K (.ref a) (some (n : Int)) none H Q :=
  slice_read ha.1 fun p H' s h => q p H' s ⟨by rw [cut_from, ← List.map_drop] at h; exact h, (ha.2.same s).drop n⟩
def zeros (n : Nat) : List Int := List.replicate n 0
theorem rep0_read {K : PySem.W.Frag} {H : Hp} {t : Addr} {n : Nat} {Q : VK} (ht : H t = some (.tup [.int 0])) (n1 : 1 ≤ n) (n2 : n ≤ 1000) (q : ∀ p H', Same H H' → IntsAt H' p (zeros n) → Q (.ref p) H') : rRepA K (.ref t) (.int (n : Nat)) H Q := by
  refine ⟨t, (n : Nat), [.int 0], rfl, rfl, SqT.of ht, by decide, by omega, by omega, by decide, fun e => ?_, fun e p np => ?_⟩
  · have : n = 1 := by omega
    subst this
    exact q t H (Same.refl _) ht
  · refine q p _ (same_new np) ?_
    unfold IntsAt
    rw [upd_same, rep_one, Int.toNat_natCast]
    unfold zeros
    rw [List.map_replicate]
theorem zeros_len (n : Nat) : (zeros n).length = n := List.length_replicate
theorem subR_at {xs ys : List Int} {i : Nat} {k : Int} (h1 : i < xs.length) (h2 : i < ys.length) : (subR xs ys k)[i]? = some (xs.getD i 0 - k * ys.getD i 0) := by
  unfold subR
  rw [List.getElem?_map, zipI_at (List.getElem?_eq_getElem h1) (List.getElem?_eq_getElem h2), List.getD_eq_getElem?_getD, List.getElem?_eq_getElem h1, List.getD_eq_getElem?_getD, List.getElem?_eq_getElem h2]
  rfl
theorem subR_times {k : Int} : ∀ {b h : List Int}, subR b (h.map fun z => z * k) 1 = subR b h k
  | [], _ => rfl
  | _ :: _, [] => rfl
  | x :: b, y :: h => by
    rw [List.map_cons, subR_cons, subR_cons, subR_times]
    congr 1
    rw [Int.one_mul, Int.mul_comm]
/-- one turn of a comprehension over a range whose list is told by a function -/
theorem turn_fn {H H4 H5 : Hp} {D : Addr} {xs : List Int} {i : Nat} {v : Int} (nD : H D = none) (hx : xs[i]? = some v) (hz : xs.length ≤ 1000) (s4 : Same H H4) (hD : H4 D = some (.lst ((xs.take i).map V.int))) (s5 : Same H4 H5) :
    ∃ acc, H5 D = some (.lst acc) ∧ acc.length < sizeLine ∧ Same H (upd H5 D (.lst (acc ++ [.int v]))) ∧ upd H5 D (.lst (acc ++ [.int v])) D = some (.lst ((xs.take (i + 1)).map V.int)) := by
  refine ⟨_, s5 _ _ hD, ?_, same_late (s4.trans s5) nD, ?_⟩
  · rw [List.length_map]
    exact small1000 (Nat.le_trans (List.length_take_le' _ _) hz)
  · rw [upd_same, List.take_add_one, hx, List.map_append]
    rfl
theorem atIT {xs : List Int} {i : Nat} (h : i < xs.length) : atI (xs.map V.int) (i : Int) = some (.int (xs.getD i 0)) := atI_nat (by rw [List.getElem?_map, List.getD_eq_getElem?_getD, List.getElem?_eq_getElem h]; rfl)
section
variable {P : Program} {w : World} {K : PySem.W.Frag} {mg : Str → Option Value} {base : Heap}
/-! ### the law's own -/
end
theorem seq_c {v : V} {i : Nat} {B : TS} {D : Ends} {σ : L2.St} {H : Hp} (h : B D (σ.set i (some v)) H) : tSeq (tAsg (tC v) (gName i)) B D σ H := h
theorem seq_e {te : TE} {i : Nat} {B : TS} {D : Ends} {σ : L2.St} {H : Hp} (h : te σ H fun v H1 => B D (σ.set i (some v)) H1) : tSeq (tAsg te (gName i)) B D σ H := h
theorem asg_e {te : TE} {i : Nat} {D : Ends} {σ : L2.St} {H : Hp} (h : te σ H fun v H1 => D.nx (σ.set i (some v)) H1) : tAsg te (gName i) D σ H := h
end HL

set_option pp.maxSteps 3000
namespace HL
open PySem PySem.Spec PyProof.Rows L2
open C8 (pss_cut)
open RZ (pi_zipA ItzT iZipA)
/-! ### wide numbers -/
theorem log_le {i : Int} {a : Nat} (h : -(2 : Int) ^ a ≤ i ∧ i ≤ (2 : Int) ^ a) : i.natAbs.log2 ≤ a := by
  have e : ((2 ^ a : Nat) : Int) = (2 : Int) ^ a := Int.natCast_pow 2 a
  have h1 : i.natAbs ≤ 2 ^ a := by omega
  by_cases c : i.natAbs = 0
  · rw [c]
    exact Nat.zero_le _
  · have h2 : i.natAbs < 2 ^ (a + 1) := by
      rw [Nat.pow_succ]
      have := Nat.two_pow_pos a
      omega
    have := (Nat.log2_lt c).mpr h2
    omega
theorem cmulW {i j : Int} {a b : Nat} (hi : -(2 : Int) ^ a ≤ i ∧ i ≤ (2 : Int) ^ a) (hj : -(2 : Int) ^ b ≤ j ∧ j ≤ (2 : Int) ^ b) (h : a + b < 1000000) : CMulW i j := by
  have := log_le hi
  have := log_le hj
  show i.natAbs.log2 + j.natAbs.log2 < 1000000
  omega
/-- // by a number of either sign, to 9,000 figures of two -/
def CDivX (_ j : Int) : Prop := j ≠ 0 ∧ j.natAbs.log2 < 9000
theorem op_fdivX {X : Cx} : OpR X (binaryOp .FloorDiv) (rI CDivX fun i j => .int (i.fdiv j)) := opI fun _ _ _ _ _ _ _ hc q => floordiv_int hc.1 q (.inl (PyProof.noPylong_of_log2 hc.2))
theorem two_mono {a b : Nat} (h : a ≤ b) : (2 : Int) ^ a ≤ (2 : Int) ^ b := by
  have : (2 : Nat) ^ a ≤ 2 ^ b := Nat.pow_le_pow_right (by decide) h
  have e1 : ((2 ^ a : Nat) : Int) = (2 : Int) ^ a := Int.natCast_pow 2 a
  have e2 : ((2 ^ b : Nat) : Int) = (2 : Int) ^ b := Int.natCast_pow 2 b
  omega
theorem two_pos (a : Nat) : 1 ≤ (2 : Int) ^ a := two_mono (a := 0) (Nat.zero_le _)
def dotR (xs ys : List Int) : List Int := (List.range xs.length).map fun i => xs.getD i 0 * ys.getD i 0
theorem dotR_cons {x y : Int} {xs ys : List Int} : dotR (x :: xs) (y :: ys) = x * y :: dotR xs ys := by
  unfold dotR
  rw [List.length_cons, List.range_succ_eq_map, List.map_cons, List.map_map]
  rfl
theorem dotR_eq : ∀ {xs ys : List Int}, xs.length = ys.length → (dotR xs ys).sum = dotI xs ys
  | [], [], _ => rfl
  | x :: xs, y :: ys, h => by rw [dotR_cons, dotI_cons, List.sum_cons, dotR_eq (by simpa using h)]
  | [], _ :: _, h => by simp at h
  | _ :: _, [], h => by simp at h
/-- numbers that may be multiplied with any others -/
def Bnd (xs : List Int) : Prop := ∀ n ∈ xs, -1000000 ≤ n ∧ n ≤ 1000000
theorem scUn : FnScope ["place", "many"] ["place", "many"] (defScope sUnit) := ⟨rfl, rfl, rfl, by decide +kernel, rfl, by decide +kernel, by decide +kernel⟩
theorem scGd : FnScope ["_law_lot_here", "_law_counts", "_law_good_here", "_law_kind"] ["_law_lot_here", "_law_counts", "_law_good_here"] (defScope sGood) := ⟨rfl, rfl, rfl, by decide +kernel, rfl, by decide +kernel, by decide +kernel⟩
theorem scGs : FnScope ["_law_lot_here", "_law_counts", "_law_good_here"] ["_law_lot_here", "_law_counts"] (defScope sLGoods) := ⟨rfl, rfl, rfl, by decide +kernel, rfl, by decide +kernel, by decide +kernel⟩
theorem scLe : FnScope ["row", "other", "times", "number", "taken"] ["row", "other", "times"] (defScope sLess) := ⟨rfl, rfl, rfl, by decide +kernel, rfl, by decide +kernel, by decide +kernel⟩
theorem getD_at {r : List Int} {g : Nat} (h : g < r.length) : r[g]? = some (r.getD g 0) := by
  rw [List.getElem?_eq_getElem h, List.getD_eq_getElem?_getD, List.getElem?_eq_getElem h]
  rfl
/-- how much of a good counts of hampers hold -/
def packI (ll : List (List Int)) (cs : List Int) (g : Nat) : Int := ((cs.zip ll).map fun q => q.1 * q.2.getD g 0).sum
def packR (ll : List (List Int)) (cs : List Int) (g : Nat) : List Int := (List.range ll.length).map fun k => (ll.getD k []).getD g 0 * cs.getD k 0
theorem packR_eq : ∀ {ll : List (List Int)} {cs : List Int} {g : Nat}, cs.length = ll.length → (packR ll cs g).sum = packI ll cs g
  | [], [], _, _ => rfl
  | r :: ll, c :: cs, g, h => by
    have e : packR (r :: ll) (c :: cs) g = r.getD g 0 * c :: packR ll cs g := by
      unfold packR
      rw [List.length_cons, List.range_succ_eq_map, List.map_cons, List.map_map]
      rfl
    have e2 : packI (r :: ll) (c :: cs) g = c * r.getD g 0 + packI ll cs g := by
      unfold packI
      rw [List.zip_cons_cons, List.map_cons, List.sum_cons]
    rw [e, e2, List.sum_cons, packR_eq (by simpa using h), Int.mul_comm]
  | [], _ :: _, _, h => by simp at h
  | _ :: _, [], _, h => by simp at h
/-- whether a row bars a bill as prices -/
def unI (g n : Nat) : List Int := (zeros g ++ [1]) ++ zeros (n - g - 1)
theorem repN_read {K : PySem.W.Frag} {H : Hp} {t : Addr} {n : Nat} {m : Int} {Q : VK} (ht : H t = some (.tup [.int 0])) (hm : m = (n : Int)) (n2 : n ≤ 1000) (q : ∀ p H', Same H H' → IntsAt H' p (zeros n) → Q (.ref p) H') : rRepN K (.ref t) (.int m) H Q := by
  subst hm
  by_cases c : n = 0
  · subst c
    exact .inl ⟨t, _, rfl, rfl, SqT.of ht, by decide, fun p np => q p _ (same_new np) upd_same⟩
  · exact .inr (rep0_read ht (by omega) n2 q)
section
variable {P : Program} {w : World} {K : PySem.W.Frag} {mg : Str → Option Value} {base : Heap}
/-- a row, as a tuple or as a list -/
def TL (H : Hp) (b : Addr) (ys : List Int) : Prop := IntsAt H b ys ∨ H b = some (.lst (ys.map V.int))
theorem TL.same {H H' : Hp} {b : Addr} {ys : List Int} (h : TL H b ys) (s : Same H H') : TL H' b ys := h.imp (fun z => z.same s) (fun z => s _ _ z)
def spLess : Sp := fun vs H Q _ => ∃ (a b : Addr) (xs ys : List Int) (k : Int) (ka kb : Nat), vs = [.ref a, .ref b, .int k] ∧ IntsAt H a xs ∧ IntsAt H b ys ∧ xs.length = ys.length ∧ xs.length ≤ 100 ∧ (-(2 : Int) ^ ka ≤ k ∧ k ≤ (2 : Int) ^ ka) ∧ Ent (2 ^ kb) ys ∧ ka + kb < 1000000 ∧ ∀ H' p, Same H H' → IntsAt H' p (subR xs ys k) → Q (.ref p) H'
theorem ok_less {f : Addr} {fd : FuncData} {k : Nat} {dvs : List V} (F : FunD K "less" "less" (defArgs sLess) (defBody sLess) (defScope sLess) dvs [] f fd) (B : Bl mg) (mz : mg "zip" = none) : FnOk P w K mg base CX0 (k + 1) f fd ["row", "other", "times"] spLess := by
  refine F.ok scLe (fun vs H Q E h => ?_) (fun cdv A outer s H vs Q E hr h => ?_)
  · obtain ⟨a, b, xs, ys, k, ka, kb, rfl, _⟩ := h
    rfl
  · obtain ⟨a, b, xs, ys, k, ka, kb, rfl, hA, hB, hl, hz, k1, k2, kk, q⟩ := h
    refine ⟨_, pss_one (ps_ret (pe_callTy call_tuple_of (by rfl) B.tuple (by decide +kernel) (pa_cons (pe_lc (own := [("number", 3), ("taken", 4)]) (g := gTup K 2 (gCons (gName 3) (gCons (gName 4) gNil))) (tt := tYes) rfl scLe.nd (pi_zipA (by rfl) mz (pa_cons (pv 0) (pa_cons (pv 1) pa_nil)))
        (blkOk_by (own := [("number", 3), ("taken", 4)]) (N := ["row", "other", "times", "number", "taken"]) (sc := defScope sLess) (by decide +kernel)) (fun _ _ _ _ _ => (pg_tup rfl (pgs_cons (pg_name (i := 3) scLe.nd rfl (Or.inl rfl)) (pgs_cons (pg_name (i := 4) scLe.nd rfl (Or.inl rfl)) pgs_nil)))) (fun _ _ _ _ _ => pts_nil)
        (fun _ _ _ _ _ => (pe_op op_sub (pv 3) (pe_op op_mulW (pv 2) (pv 4))))) pa_nil))), ?_⟩
    refine ⟨.ref a, rfl, .ref b, rfl, a, b, _, _, rfl, .inr ⟨SqT.of hA, SqT.of hB, fun D nD => ?_⟩⟩
    refine ⟨fun i m H' => i + m = xs.length ∧ Same H H' ∧ H' D = some (.lst ((((xs.zip ys).take i).map fun q => q.1 - k * q.2).map V.int)), ⟨xs.length, by omega, same_new nD, upd_same⟩, fun i m H' hW => ?_⟩
    obtain ⟨em, sm, hD⟩ := hW
    have sA : SqT K H' a (xs.map V.int) := SqT.of (hA.same sm)
    have sB : SqT K H' b (ys.map V.int) := SqT.of (hB.same sm)
    by_cases hi : i < xs.length
    · have hx : xs[i]? = some (xs[i]'hi) := List.getElem?_eq_getElem hi
      have hy : ys[i]? = some (ys[i]'(by omega)) := List.getElem?_eq_getElem (by omega)
      have g1 : (xs.map V.int)[i]? = some (.int (xs[i]'hi)) := by rw [List.getElem?_map, hx]; rfl
      have g2 : (ys.map V.int)[i]? = some (.int (ys[i]'(by omega))) := by rw [List.getElem?_map, hy]; rfl
      refine .inr ⟨⟨_, _, _, _, sA, sB, g1, g2⟩, fun H2 => Same H H2 ∧ H2 D = some (.lst ((((xs.zip ys).take (i + 1)).map fun q => q.1 - k * q.2).map V.int)), fun H2 hN => ⟨m - 1, by omega, by omega, hN⟩, fun x H2 hyy => ?_⟩
      obtain ⟨T, x1, x2, rfl, nT, rfl, f1, f2⟩ := hyy
      have ex1 := Option.some.inj ((f1 _ sA).symm.trans g1)
      have ex2 := Option.some.inj ((f2 _ sB).symm.trans g2)
      subst ex1 ex2
      have sT := same_new (o := .tup [V.int (xs[i]'hi), V.int (ys[i]'(by omega))]) nT
      refine ⟨T, _, rfl, SqT.of upd_same, rfl, _, _, rfl, _, _, rfl, rfl, rfl, yes (iteT ?_)⟩
      refine ⟨_, rfl, .int k, rfl, _, rfl, k, _, rfl, rfl, cmulW k1 (k2 _ (List.getElem_mem (show i < ys.length by omega))) kk, _, _, rfl, rfl, _, sT _ _ hD, ?_, same_late (sm.trans sT) nD, ?_⟩
      · rw [List.length_map, List.length_map]
        exact small1000 (Nat.le_trans (List.length_take_le _ _) (by omega))
      · rw [upd_same, List.take_add_one, zipI_at hx hy, List.map_append, List.map_append]
        rfl
    · refine .inl ⟨⟨_, _, sA, sB, .inl ?_⟩, ?_⟩
      · rw [List.length_map]
        omega
      · have e : (xs.zip ys).take i = xs.zip ys := List.take_of_length_le (by rw [List.length_zip]; omega)
        rw [e] at hD
        exact ⟨D, _, rfl, .inl ⟨SqL.of hD, fun t nt => q _ t (sm.trans (same_new nt)) upd_same⟩⟩
def spUnit : Sp := fun vs H Q _ => ∃ (g n : Nat), vs = [.int (g : Int), .int (n : Int)] ∧ g < n ∧ n ≤ 100 ∧ ∀ H' p, Same H H' → IntsAt H' p (unI g n) → Q (.ref p) H'
theorem ok_unit {f : Addr} {fd : FuncData} {k : Nat} (F : Fun K "unit" "unit" sUnit f fd) : FnOk P w K mg base CX0 (k + 1) f fd ["place", "many"] spUnit := by
  refine F.ok scUn (fun vs H Q E h => ?_) (fun cdv A outer s H vs Q E hr h => ?_)
  · obtain ⟨g, n, rfl, _⟩ := h
    rfl
  · obtain ⟨g, n, rfl, hg, hn, q⟩ := h
    refine ⟨_, (pss_one (ps_ret (pe_op op_catA (pe_op op_catA (pe_op op_repN (pe_tup (pa_cons pe_int pa_nil)) (pv 0)) (pe_tup (pa_cons pe_int pa_nil))) (pe_op op_repN (pe_tup (pa_cons pe_int pa_nil)) (pe_op op_sub (pe_op op_sub (pv 1) (pv 0)) pe_int))))), ?_⟩
    refine ⟨sz_1 _, fun t1 nt1 => ⟨.int (g : Int), rfl, repN_read upd_same rfl (by omega) fun z1 H1 s1 hz1 => ?_⟩⟩
    have st1 := same_new (o := .tup [.int 0]) nt1
    refine ⟨sz_1 _, fun t2 nt2 => ?_⟩
    have st2 := same_new (o := .tup [.int 1]) nt2
    refine cat_ints (ys := [1]) (hz1.same st2) (show IntsAt _ t2 [1] from upd_same) (by rw [zeros_len, List.length_singleton]; omega) fun z2 H2 s2 hz2 => ?_
    refine ⟨sz_1 _, fun t3 nt3 => ⟨.int (n : Int), rfl, .int (g : Int), rfl, _, _, rfl, rfl, _, 1, rfl, rfl, repN_read (n := n - g - 1) upd_same (by omega) (by omega) fun z3 H3 s3 hz3 => ?_⟩⟩
    have st3 := same_new (o := .tup [.int 0]) nt3
    refine cat_ints ((hz2.same st3).same s3) hz3 (by rw [List.length_append, zeros_len, zeros_len, List.length_singleton]; omega) fun z4 H4 s4 hz4 => ?_
    exact q H4 z4 (st1.trans (s1.trans (st2.trans (s2.trans (st3.trans (s3.trans s4)))))) hz4
end
def goodsI (ll : List (List Int)) (cs : List Int) : List Int := (List.range (width ll)).map fun g => packI ll cs g
section
variable {P : Program} {w : World} {K : PySem.W.Frag} {mg : Str → Option Value} {base : Heap}
def spGood : Sp := fun vs H Q _ => ∃ (p c : Addr) (as : List Addr) (ll : List (List Int)) (cs : List Int) (g : Nat), vs = [.ref p, .ref c, .int (g : Int)] ∧ RowsAt H p as ll ∧ IntsAt H c cs ∧ cs.length = ll.length ∧ ll.length ≤ 100 ∧ (∀ r ∈ ll, g < r.length ∧ Bnd r) ∧ ∀ H', Same H H' → Q (.int (packI ll cs g)) H'
theorem ok_good {f : Addr} {fd : FuncData} {k : Nat} (F : Fun K "_law_good" "_law_good" sGood f fd) (B : Bl mg) : FnOk P w K mg base CX0 (k + 1) f fd ["_law_lot_here", "_law_counts", "_law_good_here"] spGood := by
  refine F.ok scGd (fun vs H Q E h => ?_) (fun cdv A outer s H vs Q E hr h => ?_)
  · obtain ⟨p, c, as, ll, cs, g, rfl, _⟩ := h
    rfl
  · obtain ⟨p, c, as, ll, cs, g, rfl, R, hC, hcl, hz, hrow, q⟩ := h
    refine ⟨_, (pss_one (ps_ret (pe_callB (cr_sum rfl) (by rfl) B.sum (by decide +kernel) (pa_cons (pe_lc (own := [("_law_kind", 3)]) (g := gName 3) (tt := tYes) rfl scGd.nd (pi_range1 (by rfl) B.range (pa_cons (pe_callB call_len_seq (by rfl) B.len PySem.boot_len (pa_cons (pv 0) pa_nil)) pa_nil))
        (blkOk_by (own := [("_law_kind", 3)]) (N := ["_law_lot_here", "_law_counts", "_law_good_here", "_law_kind"]) (sc := defScope sGood) (by decide +kernel)) (fun _ _ _ _ _ => pg_name (i := 3) scGd.nd rfl (Or.inl rfl)) (fun _ _ _ _ _ => pts_nil)
        (fun _ _ _ _ _ => (pe_op op_mul (pe_ix (r := rIxT K) ix_tup (pe_ix (r := rIxT K) ix_tup (pv 0) (pv 3) (fun _ _ => rfl)) (pv 2) (fun _ _ => rfl)) (pe_ix (r := rIxT K) ix_tup (pv 1) (pv 3) (fun _ _ => rfl))))) pa_nil)))), ?_⟩
    have hal := R.2.len
    refine ⟨.ref p, rfl, p, _, rfl, .inr (SqT.of R.1), _, rfl, by rw [List.length_map]; omega, by rw [List.length_map]; omega, fun D nD => ?_⟩
    rw [List.length_map]
    have hdl : (packR ll cs g).length = ll.length := by unfold packR; rw [List.length_map, List.length_range]
    refine lc_range (lo := 0) (n := ((as.length : Nat) : Int).toNat) (fun i H' => Same H H' ∧ H' D = some (.lst (((packR ll cs g).take i).map V.int))) ⟨same_new nD, upd_same⟩ (fun i H4 hi ⟨s4, hD⟩ => ?_) (fun H4 ⟨s4, hD⟩ => ?_)
    · have hi' : i < as.length := by omega
      have hil : i < ll.length := by omega
      have ez : (0 : Int) + (i : Nat) = ((i : Nat) : Int) := by omega
      rw [ez]
      have hai : as[i]? = some as[i] := List.getElem?_eq_getElem hi'
      obtain ⟨r, hr1, hr2⟩ := (R.same s4).2.at hai
      have hat : atI (as.map V.ref) ((i : Nat) : Int) = some (.ref as[i]) := atI_nat (by rw [List.getElem?_map, hai]; rfl)
      generalize as[i] = ai at hr2 hat
      obtain ⟨k1, k2⟩ := hrow r (List.mem_of_getElem? hr1)
      have hb := k2 (r.getD g 0) (List.mem_of_getElem? (getD_at k1))
      refine ⟨rfl, yes (iteT ?_)⟩
      refine ⟨.ref p, rfl, .int (i : Int), rfl, p, _, _, _, rfl, rfl, SqT.of (R.same s4).1, hat, .int (g : Int), rfl, ai, _, _, _, rfl, rfl, SqT.of hr2, atIT k1, .ref c, rfl, .int (i : Int), rfl, c, _, _, _, rfl, rfl, SqT.of (hC.same s4), atIT (by omega), _, _, rfl, rfl, .inl ⟨by omega, by omega⟩, ?_⟩
      refine turn_fn (xs := packR ll cs g) nD ?_ (by omega) s4 hD (Same.refl _)
      unfold packR
      rw [List.getElem?_map, List.getElem?_range hil]
      have : ll.getD i [] = r := by rw [List.getD_eq_getElem?_getD, hr1]; rfl
      show some ((ll.getD i []).getD g 0 * cs.getD i 0) = _
      rw [this]
    · rw [Int.toNat_natCast, List.take_of_length_le (by omega)] at hD
      have q1 := q H4 s4
      rw [← packR_eq hcl] at q1
      exact ⟨D, _, rfl, SqL.of hD, q1⟩
def spLGoods : Sp := fun vs H Q _ => ∃ (p c : Addr) (as : List Addr) (ll : List (List Int)) (cs : List Int), vs = [.ref p, .ref c] ∧ RowsAt H p as ll ∧ flaw ll = none ∧ IntsAt H c cs ∧ cs.length = ll.length ∧ ∀ H' t, Same H H' → IntsAt H' t (goodsI ll cs) → Q (.ref t) H'
theorem ok_lGoods {f : Addr} {fd : FuncData} (F : Fun K "_law_goods" "_law_goods" sLGoods f fd) (B : Bl mg) (CG : Cal P w K mg base CX0 1 "_law_good" ["_law_lot_here", "_law_counts", "_law_good_here"] spGood) : FnOk P w K mg base CX0 2 f fd ["_law_lot_here", "_law_counts"] spLGoods := by
  obtain ⟨fG, fdG, GG, gG, kG, bG⟩ := CG.ex
  refine F.ok scGs (fun vs H Q E h => ?_) (fun cdv A outer s H vs Q E hr h => ?_)
  · obtain ⟨p, c, as, ll, cs, rfl, _⟩ := h
    rfl
  · obtain ⟨p, c, as, ll, cs, rfl, R, ef, hC, hcl, q⟩ := h
    refine ⟨_, (pss_one (ps_ret (pe_callTy call_tuple_of (by rfl) B.tuple (by decide +kernel) (pa_cons (pe_lc (own := [("_law_good_here", 2)]) (g := gName 2) (tt := tYes) rfl scGs.nd (pi_range1 (by rfl) B.range (pa_cons (pe_callB call_len_seq (by rfl) B.len PySem.boot_len (pa_cons (pe_ix ix_tup (pv 0) pe_int (fun _ _ => rfl)) pa_nil)) pa_nil))
        (blkOk_by (own := [("_law_good_here", 2)]) (N := ["_law_lot_here", "_law_counts", "_law_good_here"]) (sc := defScope sLGoods) (by decide +kernel)) (fun _ _ _ _ _ => pg_name (i := 2) scGs.nd rfl (Or.inl rfl)) (fun _ _ _ _ _ => pts_nil)
        (fun _ _ _ _ _ => (pe_call GG hr (by rfl) gG kG bG .nil pass0 (pa_cons (pv 0) (pa_cons (pv 1) (pa_cons (pv 2) pa_nil)))))) pa_nil)))), ?_⟩
    have hok := flaw_ok ef
    have hrw := flaw_rows ef
    obtain ⟨a0, ha0, hh0, hw⟩ := R.2.head hok.1
    have at0 : atI (as.map V.ref) 0 = some (.ref a0) := atI_nat (j := 0) (by rw [List.getElem?_map, ha0]; rfl)
    refine ⟨.ref p, rfl, p, _, 0, .ref a0, rfl, rfl, SqT.of R.1, at0, a0, _, rfl, .inr (SqT.of hh0), _, rfl, by rw [List.length_map, hw]; omega, by rw [List.length_map, hw]; omega, fun D nD => ?_⟩
    rw [List.length_map, hw]
    have hgl : (goodsI ll cs).length = width ll := by unfold goodsI; rw [List.length_map, List.length_range]
    refine lc_range (lo := 0) (n := ((width ll : Nat) : Int).toNat) (fun i H' => Same H H' ∧ H' D = some (.lst (((goodsI ll cs).take i).map V.int))) ⟨same_new nD, upd_same⟩ (fun i H4 hi ⟨s4, hD⟩ => ?_) (fun H4 ⟨s4, hD⟩ => ?_)
    · have hi' : i < width ll := by omega
      have ez : (0 : Int) + (i : Nat) = ((i : Nat) : Int) := by omega
      rw [ez]
      refine ⟨rfl, yes (iteT ?_)⟩
      refine ⟨.ref p, rfl, .ref c, rfl, .int (i : Int), rfl, p, c, as, ll, cs, i, rfl, R.same s4, hC.same s4, hcl, by omega, fun r hr => ⟨by rw [(hrw r hr).1]; exact hi', fun n hn => by have := (hrw r hr).2 n hn; omega⟩, fun H5 s5 => ?_⟩
      refine turn_fn (xs := goodsI ll cs) nD ?_ (by omega) s4 hD s5
      unfold goodsI
      rw [List.getElem?_map, List.getElem?_range hi']
      rfl
    · rw [Int.toNat_natCast, List.take_of_length_le (by omega)] at hD
      exact ⟨D, _, rfl, .inl ⟨SqL.of hD, fun z nz => q _ z (s4.trans (same_new nz)) upd_same⟩⟩
end
end HL

set_option pp.maxSteps 3000
namespace HL
open PySem PySem.Spec PyProof.Rows L2
open C8 (pss_cut)
open LamX (CodeO Tabs TabS TabB ExtN tLam LamS lamS_by lamCx lamEnv codeO_ne)
/-! ### what is new; all but tables stays -/
def New (H : Hp) (a : Addr) : Prop := ∀ o, H a = some o → ∃ ps, o = .tbl ps
theorem New.of {H : Hp} {a : Addr} (h : H a = none) : New H a := fun o e => by rw [h] at e; cases e
theorem New.ne {H : Hp} {a b : Addr} {o : HO} (h : New H a) (hb : H b = some o) (n : ∀ ps, o ≠ .tbl ps) : b ≠ a := fun e => by
  rw [e] at hb
  obtain ⟨ps, z⟩ := h _ hb
  exact n ps z
theorem New.back {H H1 : Hp} {a : Addr} (h : New H1 a) (e : ExtN H H1) : New H a := fun o ho => by
  by_cases c : ∃ ps, o = .tbl ps
  · exact c
  · exact h o (e _ _ ho fun ps z => c ⟨ps, z⟩)
theorem ExtN.late {H H' : Hp} {D : Addr} {o : HO} (e : ExtN H H') (n : New H D) : ExtN H (upd H' D o) := fun b x h nt => by
  rw [upd_ne (n.ne h nt)]
  exact e b x h nt
theorem ExtN.of_same {H H' : Hp} (s : Same H H') : ExtN H H' := fun b o h _ => s b o h
theorem RowsAt.ext {H H' : Hp} {p : Addr} {as : List Addr} {ll : List (List Int)} (h : RowsAt H p as ll) (e : ExtN H H') : RowsAt H' p as ll :=
  ⟨e _ _ h.1 (fun ps z => by cases z), h.2.mono fun a xs q => e _ _ q (fun ps z => by cases z)⟩
theorem Rows.ext {H H' : Hp} {as : List Addr} {ll : List (List Int)} (h : Rows H as ll) (e : ExtN H H') : Rows H' as ll := h.mono fun a xs q => e _ _ q (fun ps z => by cases z)
theorem Rows.lput {H : Hp} {D : Addr} {xs ys : List V} {bs : List Addr} {ll : List (List Int)} (R : Rows H bs ll) (hD : H D = some (.lst xs)) : Rows (upd H D (.lst ys)) bs ll := R.mono fun b zs e => by
  rw [upd_ne (ne_of e hD (fun z => by cases z))]
  exact e
theorem IntsAt.lput {H : Hp} {a D : Addr} {ns : List Int} {xs ys : List V} (x : IntsAt H a ns) (hD : H D = some (.lst xs)) : IntsAt (upd H D (.lst ys)) a ns := by
  show upd H D _ a = _
  rw [upd_ne (ne_of x hD (fun z => by cases z))]
  exact x
/-- rows as they are told at their addresses -/
theorem rows_map {H : Hp} : ∀ {as : List Addr} {ll : List (List Int)}, Rows H as ll → as.map (rowF H) = ll
  | [], [], _ => rfl
  | a :: as, r :: ll, ⟨h1, h2⟩ => by rw [List.map_cons, rowF_at h1, rows_map h2]
  | [], _ :: _, h => h.elim
  | _ :: _, [], h => h.elim
theorem map_rows {H H' : Hp} : ∀ {as : List Addr}, (∀ a ∈ as, H' a = some (.tup ((rowF H a).map V.int))) → Rows H' as (as.map (rowF H))
  | [], _ => True.intro
  | a :: as, h => ⟨h a List.mem_cons_self, map_rows fun b hb => h b (List.mem_cons_of_mem _ hb)⟩
theorem rows_each {H : Hp} {as : List Addr} {ll : List (List Int)} (R : Rows H as ll) : ∀ a ∈ as, rowF H a ∈ ll ∧ H a = some (.tup ((rowF H a).map V.int)) := fun a ha => by
  obtain ⟨i, hi⟩ := List.mem_iff_getElem?.mp ha
  obtain ⟨r, h1, h2⟩ := R.at hi
  rw [rowF_at h2]
  exact ⟨List.mem_of_getElem? h1, h2⟩
/-- how much is still to be brought down -/
def muL (p : Nat) (H : Hp) (la : Addr) : Nat := match H la with
  | some (.lst vs) => (vs.map fun v => match v with
    | .ref a => (pz p (rowF H a)).natAbs
    | _ => 0).sum
  | _ => 0
theorem muL_eq {p : Nat} {H : Hp} {la : Addr} {aa : List Addr} {at_ : List (List Int)} (h : H la = some (.lst (aa.map V.ref))) (R : Rows H aa at_) : muL p H la = msr p at_ := by
  unfold muL msr
  rw [h, ← rows_map R, List.map_map]
  show ((aa.map V.ref).map _).sum = _
  rw [List.map_map]
  rfl
abbrev NOA : List Str := ["rows", "place", "others", "at_it", "least", "left", "row"]
theorem scOA : FnScope NOA ["rows", "place"] (defScope sOneAt) := ⟨rfl, rfl, rfl, by decide +kernel, rfl, by decide +kernel, by decide +kernel⟩
abbrev qW : Str := ((Str.ofString "with_one_at" : Str) ++ (Str.ofString ".<locals>." : Str)) ++ (Str.ofString "<lambda>" : Str)
theorem big_bits {M : Int} {x : Int} (hM : big M ≤ 2 ^ 8000) (h : -(big M) ≤ x ∧ x ≤ big M) : -(2 : Int) ^ 8000 ≤ x ∧ x ≤ (2 : Int) ^ 8000 := by
  generalize (2 : Int) ^ 8000 = z at *
  omega
theorem two_next : (2 : Int) ^ 8000 + 1 ≤ 2 ^ 8001 := by
  have e : (2 : Int) ^ 8001 = 2 ^ 8000 * 2 := Int.pow_succ 2 8000
  have := two_pos 8000
  omega
section
variable {P : Program} {w : World} {K : PySem.W.Frag} {mg : Str → Option Value} {base : Heap}
def spOneAt (T : List (Addr × Str)) : Sp := fun vs H Q _ => ∃ (l : Addr) (p n : Nat) (as : List Addr) (rows : List (List Int)) (M : Int), vs = [.ref l, .int (p : Int)] ∧ H l = some (.lst (as.map V.ref)) ∧ Rows H as rows ∧ rows.length ≤ 100 ∧ Len n rows ∧ p < n ∧ n ≤ 100 ∧ 1 ≤ M ∧ (∀ r ∈ rows, Ent M r) ∧ (2 ≤ rows.length → big M ≤ 2 ^ 8000) ∧ Tabs T H ∧
  ∀ (H' : Hp) (t la lo : Addr) (aa ao : List Addr) (at_ oth : List (List Int)), ExtN H H' → Tabs T H' → New H la → New H lo → la ≠ lo → H' t = some (.tup [.ref la, .ref lo]) → H' la = some (.lst (aa.map V.ref)) → Rows H' aa at_ → H' lo = some (.lst (ao.map V.ref)) → Rows H' ao oth → OneAt n p M rows at_ oth → Q (.ref t) H'
structure OaI (H : Hp) (T : List (Addr × Str)) (n p : Nat) (M : Int) (rows : List (List Int)) (la lo : Addr) (aa ao : List Addr) (at_ oth : List (List Int)) (H' : Hp) : Prop where
  E : ExtN H H'
  T : Tabs T H'
  na : New H la
  no : New H lo
  ne : la ≠ lo
  A : H' la = some (.lst (aa.map V.ref))
  RA : Rows H' aa at_
  O : H' lo = some (.lst (ao.map V.ref))
  RO : Rows H' ao oth
  W : WInv n p M rows at_ oth
theorem isNz_iff {p : Nat} {r : List Int} : isNz p r = true ↔ pz p r ≠ 0 := ⟨fun h => of_decide_eq_true h, fun h => decide_eq_true h⟩
theorem isZ_iff {p : Nat} {r : List Int} : (!isNz p r) = true ↔ pz p r = 0 := by
  unfold isNz
  by_cases c : pz p r = 0
  · simp [c]
  · simp [c]
theorem refAt {as : List Addr} {i : Nat} {x : V} (hx : (as.map V.ref)[i]? = some x) : ∃ c, as[i]? = some c ∧ x = V.ref c := by
  rw [List.getElem?_map] at hx
  cases e : as[i]? with
  | none => rw [e] at hx; cases hx
  | some c => rw [e] at hx; exact ⟨c, rfl, (Option.some.inj hx).symm⟩
def CalLess (P : Program) (w : World) (K : PySem.W.Frag) (mg : Str → Option Value) (base : Heap) : Prop := ∃ (f : Addr) (fd : FuncData), FnOk P w K mg base CX0 1 f fd ["row", "other", "times"] spLess ∧ mg "less" = some (.ref f) ∧ PySem.W.keepIn K (.ref f) = true ∧ L2.Binds K fd ["row", "other", "times"] []
theorem ok_oneAt {f c Pw : Addr} {oc : Value} {od : Option Addr} {kV doc pm : Value} {an : Option Addr} {ct : Value} {osl : Array (Option Value)} {T : List (Addr × Str)} (hTm : (Pw, qW) ∈ T) (hTu : ∀ p ∈ T, p.1 = Pw → p.2 = qW)
    (lk : K.lookup f = some ⟨oc, od, .func (PySem.W.fnOf "with_one_at" "with_one_at" (defArgs sOneAt) (defBody sOneAt) (defScope sOneAt) .none kV doc pm an (.ref c) ct), osl⟩) (hcd : PySem.W.codeIn K (.ref c) "with_one_at" = true) (TB : TabB base mg c Pw)
    (B : Bl mg) (mSo : mg "sorted" = none) (mAb : mg "abs" = none) (CLe : CalLess P w K mg base) :
    FnOk P w K mg base CX0 5 f (PySem.W.fnOf "with_one_at" "with_one_at" (defArgs sOneAt) (defBody sOneAt) (defScope sOneAt) .none kV doc pm an (.ref c) ct) ["rows", "place"] (spOneAt T) := by
  obtain ⟨fLe, fdLe, GLe, gLe, kLe, bLe⟩ := CLe
  refine fn_of lk hcd scOA (fun vs H Q E h => ?_) fun A outer s H vs Q E hr h => ?_
  · obtain ⟨l, p, n, as, rows, M, rfl, _⟩ := h
    rfl
  · obtain ⟨l, p, n, as, rows, M, rfl, hl, hR, hz, hL, hp, hn, hM, hE, hB, hT, q⟩ := h
    have hal := hR.len
    have hpr : ∀ r ∈ rows, p < r.length := fun r hr => by rw [hL r hr]; exact hp
    have build : ∃ t, PSs (cxOf CX0 P w K mg base NOA "with_one_at" (defScope sOneAt) f (.ref c) A outer s H E).nox (defBody sOneAt) t ∧ t { nx := fun _ H' => Q .non H', rt := Q } (L2.start NOA [.ref l, .int (p : Int)]) H := by
      refine ⟨_, (pss_cut (ps_setLc (i := 2) (own := [("row", 6)]) (g := gName 6) (tt := tTest (tOp rEq (tOp (rIxT K) (tVar 6) (tVar 1)) (tC (.int 0)))) (te := tVar 6) rfl scOA.nd rfl rfl (sw_true rfl rfl rfl (by decide +kernel)) (pi_list (pv 0))
        (blkOk_by (own := [("row", 6)]) (N := NOA) (sc := defScope sOneAt) (by decide +kernel)) (fun _ _ _ _ _ => pg_name (i := 6) scOA.nd rfl (Or.inl rfl)) (fun _ _ _ _ _ => pts_one (pt_cmpR op_eq (pe_ix (r := rIxT K) ix_tup (pv 6) (pv 1) (fun _ _ => rfl)) pe_int (nomark _)))
        (fun _ _ _ _ _ => pv 6))
      (pss_cut (ps_setLc (i := 3) (own := [("row", 6)]) (g := gName 6) (tt := tTest (tOp rNe (tOp (rIxT K) (tVar 6) (tVar 1)) (tC (.int 0)))) (te := tVar 6) rfl scOA.nd rfl rfl (sw_true rfl rfl rfl (by decide +kernel)) (pi_list (pv 0))
        (blkOk_by (own := [("row", 6)]) (N := NOA) (sc := defScope sOneAt) (by decide +kernel)) (fun _ _ _ _ _ => pg_name (i := 6) scOA.nd rfl (Or.inl rfl)) (fun _ _ _ _ _ => pts_one (pt_cmpR op_ne (pe_ix (r := rIxT K) ix_tup (pv 6) (pv 1) (fun _ _ => rfl)) pe_int (nomark _)))
        (fun _ _ _ _ _ => pv 6))
      (pss_cons (ps_while PassesOwn.never (pt_cmpR op_gt (pe_callB call_len_seq (by rfl) B.len PySem.boot_len (pa_cons (pv 3) pa_nil)) pe_int (nomark _))
      (pss_cut (ps_set (i := 3) scOA.nd rfl (.inl rfl) (pe_sortKey (T := T) (i := 1) (r := "row") (pl := "place") (by rfl) mSo mAb (pv 3) TB rfl hTm hTu (lamK_by (sd := defScope sOneAt) (by decide +kernel)) rfl rfl (hr.mono (by decide)) (fun _ _ _ _ _ _ => rfl)))
      (pss_cut (ps_set (i := 4) scOA.nd rfl (.inr rfl) (pe_ix ix_list (pv 3) pe_int (fun _ _ => rfl)))
      (pss_cut (ps_setLc (i := 5) (own := [("row", 6)]) (g := gName 6) (tt := tYes) (te := tCall spLess [] E0 (tCons (tVar 6) (tCons (tVar 4) (tCons (tOp (rI CDivX fun i j => .int (i.fdiv j)) (tOp (rIxT K) (tVar 6) (tVar 1)) (tOp (rIxT K) (tVar 4) (tVar 1))) tNil)))) rfl scOA.nd rfl rfl (sw_true rfl rfl rfl (by decide +kernel)) (pi_list (pe_slice sl_list (pv 3) (po_some pe_int) po_none))
        (blkOk_by (own := [("row", 6)]) (N := NOA) (sc := defScope sOneAt) (by decide +kernel)) (fun _ _ _ _ _ => pg_name (i := 6) scOA.nd rfl (Or.inl rfl)) (fun _ _ _ _ _ => pts_nil)
        (fun _ _ _ _ _ => pe_call GLe (hr.mono (by decide)) (by rfl) gLe kLe bLe .nil pass0 (pa_cons (pv 6) (pa_cons (pv 4) (pa_cons (pe_op op_fdivX (pe_ix (r := rIxT K) ix_tup (pv 6) (pv 1) (fun _ _ => rfl)) (pe_ix (r := rIxT K) ix_tup (pv 4) (pv 1) (fun _ _ => rfl))) pa_nil)))))
      (pss_cut (ps_aug (i := 2) scOA.nd rfl (.inl rfl) (pe_lc (own := [("row", 6)]) (g := gName 6) (tt := tTest (tOp rEq (tOp (rIxT K) (tVar 6) (tVar 1)) (tC (.int 0)))) (te := tVar 6) rfl scOA.nd  (pi_list (pv 5))
        (blkOk_by (own := [("row", 6)]) (N := NOA) (sc := defScope sOneAt) (by decide +kernel)) (fun _ _ _ _ _ => pg_name (i := 6) scOA.nd rfl (Or.inl rfl)) (fun _ _ _ _ _ => pts_one (pt_cmpR op_eq (pe_ix (r := rIxT K) ix_tup (pv 6) (pv 1) (fun _ _ => rfl)) pe_int (nomark _)))
        (fun _ _ _ _ _ => pv 6)) iop_ext)
      (pss_one (ps_set (i := 3) scOA.nd rfl (.inl rfl) (pe_op op_cat (pe_lst (pa_cons (pv 4) pa_nil)) (pe_lc (own := [("row", 6)]) (g := gName 6) (tt := tTest (tOp rNe (tOp (rIxT K) (tVar 6) (tVar 1)) (tC (.int 0)))) (te := tVar 6) rfl scOA.nd  (pi_list (pv 5))
        (blkOk_by (own := [("row", 6)]) (N := NOA) (sc := defScope sOneAt) (by decide +kernel)) (fun _ _ _ _ _ => pg_name (i := 6) scOA.nd rfl (Or.inl rfl)) (fun _ _ _ _ _ => pts_one (pt_cmpR op_ne (pe_ix (r := rIxT K) ix_tup (pv 6) (pv 1) (fun _ _ => rfl)) pe_int (nomark _)))
        (fun _ _ _ _ _ => pv 6))))))))))
      (pss_one (ps_ret (pe_tup (pa_cons (pv 3) (pa_cons (pv 2) pa_nil)))))))), ?_⟩
      -- others
      refine ⟨fun σ' H' => ∃ (lo : Addr) (ao : List Addr), σ' = [some (.ref l), some (.int (p : Int)), some (.ref lo), none, none, none, none] ∧ H lo = none ∧ Same H H' ∧ H' lo = some (.lst (ao.map V.ref)) ∧ Rows H' ao (rows.filter fun r => !isNz p r), ?_, ?_⟩
      · refine ⟨.ref l, rfl, l, rfl, ⟨_, SqL.of hl⟩, fun D nD => ?_⟩
        refine lc_list (K := K) (a := l) (xs := as.map V.ref) (fun i H' => Same H H' ∧ ∃ ca : List Addr, H' D = some (.lst (ca.map V.ref)) ∧ Rows H' ca ((rows.take i).filter (fun r => !isNz p r))) ⟨same_new nD, [], upd_same, by rw [List.take_zero]; exact True.intro⟩ (fun i H' _ hP => SqL.of (hP.1 _ _ hl)) (fun i x H' hx ⟨sj, ca, hD, hRc⟩ => ?_) (fun H' ⟨sj, ca, hD, hRc⟩ => ?_)
        · obtain ⟨a, ha, rfl⟩ := refAt hx
          obtain ⟨r, hr1, hr2⟩ := (hR.same sj).at ha
          have hr2 : IntsAt H' a r := hr2
          have hpl := hpr r (List.mem_of_getElem? hr1)
          have etk : (rows.take (i + 1)).filter (fun r => !isNz p r) = (rows.take i).filter (fun r => !isNz p r) ++ (if (fun r => !isNz p r) r = true then [r] else []) := by
            rw [List.take_add_one, hr1, List.filter_append]
            congr 1
            show List.filter _ [r] = _
            rw [List.filter_cons, List.filter_nil]
          rw [etk]
          refine ⟨rfl, .ref a, rfl, .int (p : Int), rfl, a, _, _, _, rfl, rfl, SqT.of hr2, atIT hpl, rfl, _, rfl, ite2 (fun c1 => ?_) (fun c1 => ?_)⟩
          · have hz0 : (fun r => !isNz p r) r = true := (isZ_iff).mpr (V.int.inj (of_decide_eq_true c1))
            rw [if_pos hz0]
            refine ⟨.ref a, rfl, _, hD, ?_, same_late sj nD, ca ++ [a], ?_, ?_⟩
            · rw [List.length_map, hRc.len]
              exact small1000 (Nat.le_trans (List.length_filter_le _ _) (Nat.le_trans (List.length_take_le' _ _) (by first | omega | (rw [List.length_map]; omega))))
            · rw [upd_same, List.map_append]
              rfl
            · exact (hRc.lput hD).app ⟨hr2.lput hD, True.intro⟩
          · have hz0 : ¬ (fun r => !isNz p r) r = true := fun z => c1 (decide_eq_true (congrArg V.int (isZ_iff.mp z)))
            rw [if_neg hz0, List.append_nil]
            exact ⟨sj, ca, hD, hRc⟩
        · rw [List.length_map, hal, List.take_length] at hRc
          exact ⟨D, ca, rfl, nD, sj, hD, hRc⟩
      rintro σ' H1 ⟨lo, ao, rfl, nlo, s1, hlo, hRo⟩
      -- at it
      refine ⟨fun σ' H' => ∃ (la : Addr) (aa : List Addr), σ' = [some (.ref l), some (.int (p : Int)), some (.ref lo), some (.ref la), none, none, none] ∧ OaI H T n p M rows la lo aa ao (rows.filter (isNz p)) (rows.filter fun r => !isNz p r) H', ?_, ?_⟩
      · refine ⟨.ref l, rfl, l, rfl, ⟨_, SqL.of (s1 _ _ hl)⟩, fun D nD => ?_⟩
        refine lc_list (K := K) (a := l) (xs := as.map V.ref) (fun i H' => Same H1 H' ∧ ∃ ca : List Addr, H' D = some (.lst (ca.map V.ref)) ∧ Rows H' ca ((rows.take i).filter (isNz p))) ⟨same_new nD, [], upd_same, by rw [List.take_zero]; exact True.intro⟩ (fun i H' _ hP => SqL.of (hP.1 _ _ (s1 _ _ hl))) (fun i x H' hx ⟨sj, ca, hD, hRc⟩ => ?_) (fun H' ⟨sj, ca, hD, hRc⟩ => ?_)
        · obtain ⟨a, ha, rfl⟩ := refAt hx
          obtain ⟨r, hr1, hr2⟩ := ((hR.same s1).same sj).at ha
          have hr2 : IntsAt H' a r := hr2
          have hpl := hpr r (List.mem_of_getElem? hr1)
          have etk : (rows.take (i + 1)).filter (isNz p) = (rows.take i).filter (isNz p) ++ (if (isNz p) r = true then [r] else []) := by
            rw [List.take_add_one, hr1, List.filter_append]
            congr 1
            show List.filter _ [r] = _
            rw [List.filter_cons, List.filter_nil]
          rw [etk]
          refine ⟨rfl, .ref a, rfl, .int (p : Int), rfl, a, _, _, _, rfl, rfl, SqT.of hr2, atIT hpl, rfl, _, rfl, ite2 (fun c1 => ?_) (fun c1 => ?_)⟩
          · have hz0 : (isNz p) r = true := isNz_iff.mpr fun z => (by rw [show r.getD p 0 = 0 from z, decide_eq_true rfl] at c1; cases c1)
            rw [if_pos hz0]
            refine ⟨.ref a, rfl, _, hD, ?_, same_late sj nD, ca ++ [a], ?_, ?_⟩
            · rw [List.length_map, hRc.len]
              exact small1000 (Nat.le_trans (List.length_filter_le _ _) (Nat.le_trans (List.length_take_le' _ _) (by first | omega | (rw [List.length_map]; omega))))
            · rw [upd_same, List.map_append]
              rfl
            · exact (hRc.lput hD).app ⟨hr2.lput hD, True.intro⟩
          · have hz0 : ¬ (isNz p) r = true := fun z => c1 (by rw [decide_eq_false (fun w => isNz_iff.mp z (V.int.inj w))]; rfl)
            rw [if_neg hz0, List.append_nil]
            exact ⟨sj, ca, hD, hRc⟩
        · rw [List.length_map, hal, List.take_length] at hRc
          exact ⟨D, ca, rfl, ExtN.of_same (s1.trans sj), hT.ext (s1.trans sj), New.of (s1.free nD), New.of nlo, (fun z => by rw [z, hlo] at nD; cases nD), hD, hRc, sj _ _ hlo, hRo.same sj, WInv.start hL hE⟩
      rintro σ' H2 ⟨la, aa, rfl, X2⟩
      refine while_by (fun σ H' => ∃ (la lo : Addr) (aa ao : List Addr) (at_ oth : List (List Int)) (y4 y5 : Option V), σ = [some (.ref l), some (.int (p : Int)), some (.ref lo), some (.ref la), y4, y5, none] ∧ OaI H T n p M rows la lo aa ao at_ oth H')
        (fun σ H' => match σ with | [_, _, _, some (.ref la), _, _, _] => muL p H' la | _ => 0) ⟨la, lo, aa, ao, _, _, none, none, rfl, X2⟩ ?_ ?_
      · clear X2 hRo hlo
        rintro σ H3 ⟨la, lo, aa, ao, at_, oth, y4, y5, rfl, X⟩
        have haal := X.RA.len
        have hcnt := X.W.count
        refine ⟨.ref la, rfl, la, _, rfl, .inl (SqL.of X.A), _, 1, rfl, rfl, _, rfl, ?_⟩
        rw [List.length_map]
        refine ite2 (fun c1 => ?_) (fun c1 => ?_)
        · have h2 : 2 ≤ at_.length := by
            have : (1 : Int) < (aa.length : Nat) := of_decide_eq_true c1
            omega
          have hBig := hB (by omega)
          have hpa : ∀ r ∈ at_, p < r.length := fun r hr => by rw [X.W.rd.len r hr]; exact hp
          have hmu : muL p H3 la = msr p at_ := muL_eq X.A X.RA
          have heach := rows_each X.RA
          have hmap := rows_map X.RA
          -- sorted
          refine ⟨fun σ' H' => ∃ (pp b0 : Addr) (br : List Addr), σ' = [some (.ref l), some (.int (p : Int)), some (.ref lo), some (.ref pp), y4, y5, none] ∧ ExtN H H' ∧ Tabs T H' ∧ H' pp = some (.lst ((b0 :: br).map V.ref)) ∧ New H pp ∧ pp ≠ lo ∧ H' lo = some (.lst (ao.map V.ref)) ∧ Rows H' ao oth ∧ Rows H' (b0 :: br) ((b0 :: br).map (rowF H3)) ∧ ((b0 :: br).map (rowF H3)).Perm at_ ∧ ∀ r ∈ br.map (rowF H3), absI (pz p (rowF H3 b0)) ≤ absI (pz p r), ?_, ?_⟩
          · refine ⟨.ref la, rfl, la, aa, rowF H3, p, rfl, X.A, X.T, rfl, fun a ha => ⟨(heach a ha).2, hpa _ (heach a ha).1⟩, fun H4 bs pp e4 T4 prm srt np => ?_⟩
            have hbl : bs.length = aa.length := prm.length_eq
            match bs, hbl, prm, srt with
            | [], hbl, _, _ =>
              exfalso
              simp at hbl
              omega
            | b0 :: br, hbl, prm, srt =>
              have s5 := same_new (o := .lst ((b0 :: br).map V.ref)) np
              refine ⟨pp, b0, br, rfl, X.E.trans (e4.trans (ExtN.of_same s5)), T4.ext s5, upd_same, (New.of np).back (X.E.trans e4), (fun z => ?_), s5 _ _ (e4 _ _ X.O (fun ps w => by cases w)), (X.RO.ext e4).same s5, map_rows fun a ha => s5 _ _ (e4 _ _ (heach a (prm.mem_iff.mp ha)).2 (fun ps w => by cases w)), by rw [← hmap]; exact prm.map _, fun r hr => ?_⟩
              · have := e4 _ _ X.O (fun ps w => by cases w)
                rw [← z, np] at this
                cases this
              · obtain ⟨a, ha, rfl⟩ := List.mem_map.mp hr
                exact (List.pairwise_cons.mp srt).1 a ha
          rintro σ' H4 ⟨pp, b0, br, rfl, E4, T4, hpp, npp, nplo, hlo4, RO4, RB4, prm, hmin⟩
          -- the least
          refine ⟨fun σ' H' => σ' = [some (.ref l), some (.int (p : Int)), some (.ref lo), some (.ref pp), some (.ref b0), y5, none] ∧ H4 = H', ?_, ?_⟩
          · exact ⟨.ref pp, rfl, pp, _, 0, .ref b0, rfl, rfl, SqL.of hpp, atI_nat (j := 0) rfl, rfl, rfl⟩
          rintro σ' H4' ⟨rfl, rfl⟩
          generalize el0 : rowF H3 b0 = l0 at RB4 prm hmin
          have RB4' : IntsAt H4 b0 l0 ∧ Rows H4 br (br.map (rowF H3)) := by
            rw [List.map_cons, el0] at RB4
            exact RB4
          rw [List.map_cons, el0] at prm
          generalize br.map (rowF H3) = rs at RB4' prm hmin
          clear RB4
          obtain ⟨hb0, RBr⟩ := RB4'
          have ml0 : l0 ∈ at_ := prm.mem_iff.mp List.mem_cons_self
          have mrs : ∀ r ∈ rs, r ∈ at_ := fun r hr => prm.mem_iff.mp (List.mem_cons_of_mem _ hr)
          have hrl : rs.length ≤ 100 := by
            have := prm.length_eq
            rw [List.length_cons] at this
            omega
          have ell := X.W.rd.len l0 ml0
          have enl := X.W.rd.nz l0 ml0
          have eEnt := X.W.rd.ent hM
          -- what is left
          refine ⟨fun σ' H' => ∃ (lf : Addr) (cl : List Addr), σ' = [some (.ref l), some (.int (p : Int)), some (.ref lo), some (.ref pp), some (.ref b0), some (.ref lf), none] ∧ Same H4 H' ∧ H4 lf = none ∧ H' lf = some (.lst (cl.map V.ref)) ∧ Rows H' cl (rs.map (red p l0)), ?_, ?_⟩
          · refine ⟨.ref pp, rfl, 1, rfl, noPart ⟨pp, _, rfl, SqL.of hpp, fun sl nsl => ?_⟩⟩
            have ecut : cutV ((b0 :: br).map V.ref) (some 1) none = br.map V.ref := cut_from (n := 1)
            rw [ecut]
            have ssl := same_new (o := .lst (br.map V.ref)) nsl
            refine ⟨sl, rfl, ⟨_, SqL.of upd_same⟩, fun D nD => ?_⟩
            have nD4 := ssl.free nD
            refine lc_list (K := K) (a := sl) (xs := br.map V.ref) (fun i H' => Same (upd H4 sl (.lst (br.map V.ref))) H' ∧ ∃ ca : List Addr, H' D = some (.lst (ca.map V.ref)) ∧ Rows H' ca ((rs.take i).map (red p l0))) ⟨same_new nD, [], upd_same, by rw [List.take_zero]; exact True.intro⟩ (fun i H' _ hP => SqL.of (hP.1 _ _ upd_same)) (fun i x H' hx ⟨sj, ca, hD, hRc⟩ => ?_) (fun H' ⟨sj, ca, hD, hRc⟩ => ?_)
            · obtain ⟨a, ha, rfl⟩ := refAt hx
              have sj4 := ssl.trans sj
              obtain ⟨r, hr1, hr2⟩ := (RBr.same sj4).at ha
              have hr2 : IntsAt H' a r := hr2
              have mr := mrs r (List.mem_of_getElem? hr1)
              have hrp := hpa r mr
              have erl := X.W.rd.len r mr
              have vr := big_bits hBig ((eEnt r mr).at (by have := first_big hM; omega) p)
              have vl := big_bits hBig ((eEnt l0 ml0).at (by have := first_big hM; omega) p)
              have hq := quot_any enl vr.1 vr.2
              refine ⟨rfl, yes (iteT ?_)⟩
              refine ⟨.ref a, rfl, .ref b0, rfl, .ref a, rfl, .int (p : Int), rfl, a, _, _, _, rfl, rfl, SqT.of hr2, atIT hrp, .ref b0, rfl, .int (p : Int), rfl, b0, _, _, _, rfl, rfl, SqT.of (hb0.same sj4), atIT (by rw [ell]; exact hp), _, _, rfl, rfl, ⟨enl, ?_⟩, nilA ?_⟩
              · have := log_le (a := 8000) vl
                exact Nat.lt_of_le_of_lt this (by decide)
              · refine ⟨a, b0, r, l0, (pz p r).fdiv (pz p l0), 8001, 8000, rfl, hr2, hb0.same sj4, by rw [erl, ell], by rw [erl]; exact hn, ?_, fun x hx => big_bits hBig (eEnt l0 ml0 x hx), by decide, fun H5 z s5 hz5 => ?_⟩
                · have := two_next
                  show -(2 : Int) ^ 8001 ≤ _ ∧ _ ≤ (2 : Int) ^ 8001
                  generalize (2 : Int) ^ 8001 = w1 at *
                  generalize (2 : Int) ^ 8000 = w2 at *
                  omega
                · have hD5 := s5 _ _ hD
                  refine ⟨_, hD5, ?_, same_late (sj.trans s5) nD, ca ++ [z], by rw [upd_same, List.map_append]; rfl, ?_⟩
                  · have h1 := hRc.len
                    rw [List.length_map, List.length_take] at h1
                    rw [List.length_map]
                    exact small1000 (by omega)
                  · rw [List.take_add_one, hr1, List.map_append]
                    exact ((hRc.same s5).lput hD5).app ⟨hz5.lput hD5, True.intro⟩
            · rw [List.length_map, RBr.len, List.take_length] at hRc
              exact ⟨D, ca, rfl, ssl.trans sj, nD4, hD, hRc⟩
          rintro σ' H5 ⟨lf, cl, rfl, s5, nlf, hlf, RL⟩
          have hcl := RL.len
          rw [List.length_map] at hcl
          have hpl' : ∀ r ∈ rs.map (red p l0), p < r.length := fun r hr => by
            obtain ⟨r', hr', rfl⟩ := List.mem_map.mp hr
            rw [red_len ell (X.W.rd.len r' (mrs r' hr'))]
            exact hp
          have E5 : ExtN H H5 := E4.trans (ExtN.of_same s5)
          have hlo5 := s5 _ _ hlo4
          have hoth : oth.length ≤ 100 := by omega
          have nlo5 : lf ≠ lo := fun z => by rw [z, hlo4] at nlf; cases nlf
          -- others
          refine ⟨fun σ' H' => ∃ (aq : List Addr), σ' = [some (.ref l), some (.int (p : Int)), some (.ref lo), some (.ref pp), some (.ref b0), some (.ref lf), none] ∧ ExtN H H' ∧ Tabs T H' ∧ H' lf = some (.lst (cl.map V.ref)) ∧ Rows H' cl (rs.map (red p l0)) ∧ IntsAt H' b0 l0 ∧ H' lo = some (.lst (aq.map V.ref)) ∧ Rows H' aq (oth ++ (rs.map (red p l0)).filter fun r => !isNz p r), ?_, ?_⟩
          · refine ⟨.ref lo, rfl, .ref lf, rfl, lf, rfl, ⟨_, SqL.of hlf⟩, fun D nD => ?_⟩
            refine lc_list (K := K) (a := lf) (xs := cl.map V.ref) (fun i H' => Same H5 H' ∧ ∃ ca : List Addr, H' D = some (.lst (ca.map V.ref)) ∧ Rows H' ca (((rs.map (red p l0)).take i).filter (fun r => !isNz p r))) ⟨same_new nD, [], upd_same, by rw [List.take_zero]; exact True.intro⟩ (fun i H' _ hP => SqL.of (hP.1 _ _ hlf)) (fun i x H' hx ⟨sj, ca, hD, hRc⟩ => ?_) (fun H' ⟨sj, ca, hD, hRc⟩ => ?_)
            · obtain ⟨a, ha, rfl⟩ := refAt hx
              obtain ⟨r, hr1, hr2⟩ := (RL.same sj).at ha
              have hr2 : IntsAt H' a r := hr2
              have hpl := hpl' r (List.mem_of_getElem? hr1)
              have etk : ((rs.map (red p l0)).take (i + 1)).filter (fun r => !isNz p r) = ((rs.map (red p l0)).take i).filter (fun r => !isNz p r) ++ (if (fun r => !isNz p r) r = true then [r] else []) := by
                rw [List.take_add_one, hr1, List.filter_append]
                congr 1
                show List.filter _ [r] = _
                rw [List.filter_cons, List.filter_nil]
              rw [etk]
              refine ⟨rfl, .ref a, rfl, .int (p : Int), rfl, a, _, _, _, rfl, rfl, SqT.of hr2, atIT hpl, rfl, _, rfl, ite2 (fun c1 => ?_) (fun c1 => ?_)⟩
              · have hz0 : (fun r => !isNz p r) r = true := (isZ_iff).mpr (V.int.inj (of_decide_eq_true c1))
                rw [if_pos hz0]
                refine ⟨.ref a, rfl, _, hD, ?_, same_late sj nD, ca ++ [a], ?_, ?_⟩
                · rw [List.length_map, hRc.len]
                  exact small1000 (Nat.le_trans (List.length_filter_le _ _) (Nat.le_trans (List.length_take_le' _ _) (by first | omega | (rw [List.length_map]; omega))))
                · rw [upd_same, List.map_append]
                  rfl
                · exact (hRc.lput hD).app ⟨hr2.lput hD, True.intro⟩
              · have hz0 : ¬ (fun r => !isNz p r) r = true := fun z => c1 (decide_eq_true (congrArg V.int (isZ_iff.mp z)))
                rw [if_neg hz0, List.append_nil]
                exact ⟨sj, ca, hD, hRc⟩
            · rw [List.length_map, RL.len, List.take_length] at hRc
              have hlo6 := sj _ _ hlo5
              have nDl : D ≠ lo := fun z => by rw [z, hlo5] at nD; cases nD
              refine ⟨lo, D, _, _, rfl, rfl, hlo6, hD, ?_, ao ++ ca, rfl, ExtN.late (E5.trans (ExtN.of_same sj)) X.no, tabs_list ((T4.ext s5).ext sj) hlo6, by rw [upd_ne nlo5]; exact sj _ _ hlf, (RL.same sj).lput hlo6, ((hb0.same s5).same sj).lput hlo6, by rw [upd_same, List.map_append], ?_⟩
              · rw [List.length_map, List.length_map, hRc.len]
                have h1 := List.length_filter_le (fun r => !isNz p r) (rs.map (red p l0))
                have h2 := RO4.len
                rw [List.length_map] at h1
                exact sz1000 (by omega)
              · exact (((RO4.same s5).same sj).lput hlo6).app (hRc.lput hlo6)
          rintro σ' H6 ⟨aq, rfl, E6, T6, hlf6, RL6, hb6, hlo6, RQ6⟩
          refine ⟨.ref b0, rfl, sz_1 _, fun t1 nt1 => ?_⟩
          have st := same_new (o := .lst [.ref b0]) nt1
          refine ⟨.ref lf, rfl, lf, rfl, ⟨_, SqL.of (st _ _ hlf6)⟩, fun D nD => ?_⟩
          have nDt : D ≠ t1 := fun z => by rw [z, upd_same] at nD; cases nD
          refine lc_list (K := K) (a := lf) (xs := cl.map V.ref) (fun i H' => Same (upd H6 t1 (.lst [.ref b0])) H' ∧ ∃ ca : List Addr, H' D = some (.lst (ca.map V.ref)) ∧ Rows H' ca (((rs.map (red p l0)).take i).filter (isNz p))) ⟨same_new nD, [], upd_same, by rw [List.take_zero]; exact True.intro⟩ (fun i H' _ hP => SqL.of (hP.1 _ _ (st _ _ hlf6))) (fun i x H' hx ⟨sj, ca, hD, hRc⟩ => ?_) (fun H' ⟨sj, ca, hD, hRc⟩ => ?_)
          · obtain ⟨a, ha, rfl⟩ := refAt hx
            obtain ⟨r, hr1, hr2⟩ := ((RL6.same st).same sj).at ha
            have hr2 : IntsAt H' a r := hr2
            have hpl := hpl' r (List.mem_of_getElem? hr1)
            have etk : ((rs.map (red p l0)).take (i + 1)).filter (isNz p) = ((rs.map (red p l0)).take i).filter (isNz p) ++ (if (isNz p) r = true then [r] else []) := by
              rw [List.take_add_one, hr1, List.filter_append]
              congr 1
              show List.filter _ [r] = _
              rw [List.filter_cons, List.filter_nil]
            rw [etk]
            refine ⟨rfl, .ref a, rfl, .int (p : Int), rfl, a, _, _, _, rfl, rfl, SqT.of hr2, atIT hpl, rfl, _, rfl, ite2 (fun c1 => ?_) (fun c1 => ?_)⟩
            · have hz0 : (isNz p) r = true := isNz_iff.mpr fun z => (by rw [show r.getD p 0 = 0 from z, decide_eq_true rfl] at c1; cases c1)
              rw [if_pos hz0]
              refine ⟨.ref a, rfl, _, hD, ?_, same_late sj nD, ca ++ [a], ?_, ?_⟩
              · rw [List.length_map, hRc.len]
                exact small1000 (Nat.le_trans (List.length_filter_le _ _) (Nat.le_trans (List.length_take_le' _ _) (by first | omega | (rw [List.length_map]; omega))))
              · rw [upd_same, List.map_append]
                rfl
              · exact (hRc.lput hD).app ⟨hr2.lput hD, True.intro⟩
            · have hz0 : ¬ (isNz p) r = true := fun z => c1 (by rw [decide_eq_false (fun w => isNz_iff.mp z (V.int.inj w))]; rfl)
              rw [if_neg hz0, List.append_nil]
              exact ⟨sj, ca, hD, hRc⟩
          · rw [List.length_map, RL6.len, List.take_length] at hRc
            have h7 : H' t1 = some (.lst [.ref b0]) := sj _ _ upd_same
            have hcf := List.length_filter_le (isNz p) (rs.map (red p l0))
            rw [List.length_map] at hcf
            refine ⟨t1, D, _, _, rfl, rfl, h7, hD, ?_, fun z nz => ?_⟩
            · rw [List.length_map, hRc.len]
              exact sz1000 (by show 1 + _ ≤ 1000; omega)
            have s67 := st.trans sj
            have sz := same_new (o := .lst ([V.ref b0] ++ ca.map V.ref)) nz
            have Wn := X.W.step hM hL h2 prm hmin
            have Xn : OaI H T n p M rows z lo (b0 :: ca) aq (l0 :: (rs.map (red p l0)).filter (isNz p)) (oth ++ (rs.map (red p l0)).filter fun r => !isNz p r) (upd H' z (.lst ([V.ref b0] ++ ca.map V.ref))) :=
              ⟨(E6.trans (ExtN.of_same s67)).trans (ExtN.of_same sz), (T6.ext s67).ext sz, (New.of nz).back (E6.trans (ExtN.of_same s67)), X.no, fun w => (by rw [w, s67 _ _ hlo6] at nz; cases nz), upd_same, ⟨sz _ _ (hb6.same s67), hRc.same sz⟩, sz _ _ (s67 _ _ hlo6), (RQ6.same s67).same sz, Wn⟩
            refine ⟨⟨z, lo, b0 :: ca, aq, _, _, _, _, rfl, Xn⟩, ?_⟩
            show muL p _ z < muL p H3 la
            rw [muL_eq Xn.A Xn.RA, hmu]
            exact step_msr X.W.rd h2 prm hmin
        · have h1 : at_.length ≤ 1 := by
            have : ¬ ((1 : Int) < (aa.length : Nat)) := fun z => c1 (decide_eq_true z)
            omega
          refine ⟨.ref la, rfl, .ref lo, rfl, sz_2 _ _, fun t nt => ?_⟩
          have st := same_new (o := .tup [.ref la, .ref lo]) nt
          exact q _ t la lo aa ao at_ oth (X.E.trans (ExtN.of_same st)) (X.T.ext st) X.na X.no X.ne upd_same (st _ _ X.A) (X.RA.same st) (st _ _ X.O) (X.RO.same st) (X.W.done h1)
      · rintro σ H3 Q1 Q2 hQ ⟨v, hv, a, xs, e1, e2, i, j, e3, e4, b, e5, h⟩
        exact ⟨v, hv, a, xs, e1, e2, i, j, e3, e4, b, e5, hQ _ _ h⟩
    obtain ⟨t, h1, h2⟩ := build
    exact ⟨t, h1.nox, h2⟩
end
end HL

set_option pp.maxSteps 3000
namespace HL
open PySem PySem.Spec PyProof.Rows L2
open C8 (pss_cut)
open LamX (CodeO Tabs TabS TabB ExtN tLam LamS lamS_by lamCx lamEnv codeO_ne)
abbrev NSp : List Str := ["lot", "goods", "rows", "good", "swaps", "place", "at_it", "hold", "kind", "row"]
theorem scSp : FnScope ["lot", "goods", "rows", "good", "swaps", "place", "at_it", "hold", "kind", "row"] ["lot"] (defScope sSpan) := ⟨rfl, rfl, rfl, by decide +kernel, rfl, by decide +kernel, by decide +kernel⟩
theorem smallM {n : Nat} (h : n ≤ 1000000) : n < sizeLine := Nat.lt_of_le_of_lt h (by decide)
theorem ent_two {k : Nat} {M : Int} {r : List Int} (h : Ent M r) (hM : M ≤ 2 ^ k) : Ent (2 ^ k) r := h.mono hM
theorem lot_ent {ll : List (List Int)} (ef : flaw ll = none) : ∀ r ∈ ll, Ent 8 r := fun r hr x hx => by
  have := (flaw_rows ef r hr).2 x hx
  omega
theorem walk_enumT {K : PySem.W.Frag} {a : Addr} {xs : List V} : Walk (IteT K a) xs.length (fun H => SqT K H a xs) (YPair (fun i => some (.int (i : Nat))) (fun i => xs[i]?)) := by
  refine ⟨fun i _ hi q => ⟨xs, xs[i], q, by simp [hi]⟩, fun _ q => ⟨xs, q, Nat.le_refl _⟩, fun i H v H' _ q y => ?_⟩
  obtain ⟨T, x, h1, h2, h3, h4⟩ := y
  exact ⟨T, .int (i : Nat), x, h1, h2, h3, rfl, h4 xs q⟩
theorem row_more {H3 H4 H5 : Hp} {D cb : Addr} {acc : List (List Int)} {cc : List Int} (nD : H3 D = none) (s34 : Same H3 H4) (hds : ∃ ds : List Addr, H4 D = some (.lst (ds.map V.ref)) ∧ Rows H4 ds acc) (few : acc.length ≤ 1000000) (s45 : Same H4 H5) (hcb : IntsAt H5 cb cc) :
    ∃ ac, H5 D = some (.lst ac) ∧ ac.length < sizeLine ∧ Same H3 (upd H5 D (.lst (ac ++ [.ref cb]))) ∧ ∃ ds : List Addr, upd H5 D (.lst (ac ++ [.ref cb])) D = some (.lst (ds.map V.ref)) ∧ Rows (upd H5 D (.lst (ac ++ [.ref cb]))) ds (acc ++ [cc]) := by
  obtain ⟨ds, hd, hdr⟩ := hds
  have hd5 := s45 _ _ hd
  refine ⟨_, hd5, ?_, same_late (s34.trans s45) nD, ds ++ [cb], ?_, ?_⟩
  · rw [List.length_map, hdr.len]
    exact smallM few
  · rw [upd_same, List.map_append]
    rfl
  · exact ((hdr.same s45).lput hd5).app ⟨hcb.lput hd5, True.intro⟩
/-! ### slices of rows of numbers -/
theorem slice_fromI {K : PySem.W.Frag} {H : Hp} {a : Addr} {xs : List Int} {n : Nat} {Q : VK} (ha : IntsAt H a xs) (q : ∀ p H', Same H H' → IntsAt H' p (xs.drop n) → Q (.ref p) H') : rSlA K (.ref a) (some (n : Int)) none H Q :=
  slice_read ha fun p H' s h => q p H' s (by rw [cut_from, ← List.map_drop] at h; exact h)
theorem unI_len {g n : Nat} (h : g < n) : (unI g n).length = n := by
  unfold unI
  rw [List.length_append, List.length_append, zeros_len, zeros_len, List.length_singleton]
  omega
theorem unI_one {g n : Nat} : ∀ x ∈ unI g n, 0 ≤ x ∧ x ≤ 1 := fun x hx => by
  unfold unI zeros at hx
  rcases List.mem_append.mp hx with h | h
  · rcases List.mem_append.mp h with h | h
    · rw [List.eq_of_mem_replicate h]; decide
    · rw [List.mem_singleton.mp h]; decide
  · rw [List.eq_of_mem_replicate h]; decide
/-! ### spanning -/
/-- each kind's hold, and beside it which kind it is -/
def wdW (ll : List (List Int)) : List (List Int) := (List.range ll.length).map fun k => ll.getD k [] ++ unI k ll.length
theorem wdW_len {ll : List (List Int)} : (wdW ll).length = ll.length := by unfold wdW; rw [List.length_map, List.length_range]
theorem wdW_at {ll : List (List Int)} {i : Nat} {r : List Int} (h : ll[i]? = some r) : (wdW ll)[i]? = some (r ++ unI i ll.length) := by
  unfold wdW
  have hi := (List.getElem?_eq_some_iff.mp h).1
  rw [List.getElem?_map, List.getElem?_range hi]
  show some (ll.getD i [] ++ unI i ll.length) = _
  rw [List.getD_eq_getElem?_getD, h]
  rfl
theorem wdW_mem {ll : List (List Int)} {w : List Int} (h : w ∈ wdW ll) : ∃ i r, i < ll.length ∧ ll[i]? = some r ∧ w = r ++ unI i ll.length := by
  unfold wdW at h
  obtain ⟨i, hi, rfl⟩ := List.mem_map.mp h
  have hi := List.mem_range.mp hi
  exact ⟨i, ll[i], hi, List.getElem?_eq_getElem hi, by rw [List.getD_eq_getElem?_getD, List.getElem?_eq_getElem hi]; rfl⟩
theorem wdW_ok {ll : List (List Int)} (ef : flaw ll = none) : Len (width ll + ll.length) (wdW ll) ∧ ∀ r ∈ wdW ll, Ent 8 r := by
  have hrw := flaw_rows ef
  constructor
  · intro w hw
    obtain ⟨i, r, hi, hr, rfl⟩ := wdW_mem hw
    rw [List.length_append, unI_len hi, (hrw r (List.mem_of_getElem? hr)).1]
  · intro w hw x hx
    obtain ⟨i, r, hi, hr, rfl⟩ := wdW_mem hw
    rcases List.mem_append.mp hx with h | h
    · have := (hrw r (List.mem_of_getElem? hr)).2 x h
      omega
    · have := unI_one x h
      omega
/-- of the stairs those that begin behind the goods, cut to their counts -/
def dropS (g : Nat) (st : List (Nat × List Int)) : List (List Int) := (st.filter fun q => decide (g ≤ q.1)).map fun q => q.2.drop g
theorem dropS_nil {g : Nat} {st : List (Nat × List Int)} (h : ∀ q ∈ st, q.1 < g) : dropS g st = [] := by
  unfold dropS
  have : st.filter (fun q => decide (g ≤ q.1)) = [] := by
    rw [List.filter_eq_nil_iff]
    intro q hq
    have := h q hq
    simp only [decide_eq_true_eq]
    omega
  rw [this]
  rfl
theorem dropS_app {g i : Nat} {st : List (Nat × List Int)} {at_ : List (List Int)} : dropS g (st ++ at_.map fun r => (g + i, r)) = dropS g st ++ at_.map fun r => r.drop g := by
  unfold dropS
  rw [List.filter_append, List.map_append]
  congr 1
  have : (at_.map fun r => (g + i, r)).filter (fun q => decide (g ≤ q.1)) = at_.map fun r => (g + i, r) := by
    rw [List.filter_eq_self]
    intro q hq
    obtain ⟨r, _, rfl⟩ := List.mem_map.mp hq
    simp only [decide_eq_true_eq]
    omega
  rw [this, List.map_map]
  rfl
section
variable {P : Program} {w : World} {K : PySem.W.Frag} {mg : Str → Option Value} {base : Heap}
def spSpan (T : List (Addr × Str)) : Sp := fun vs H Q _ => ∃ (p : Addr) (as : List Addr) (ll : List (List Int)), vs = [.ref p] ∧ RowsAt H p as ll ∧ flaw ll = none ∧ Tabs T H ∧
  ∀ (H' : Hp) (l : Addr) (sa : List Addr) (st : List (Nat × List Int)) (rows : List (List Int)), ExtN H H' → Tabs T H' → New H l → H' l = some (.lst (sa.map V.ref)) → Rows H' sa (dropS (width ll) st) → SInv (width ll + ll.length) (width ll + ll.length) (wdW ll) st rows → Q (.ref l) H'
theorem ok_span {f : Addr} {fd : FuncData} {T : List (Addr × Str)} (F : Fun K "spanning" "spanning" sSpan f fd) (B : Bl mg) (CG : Cal P w K mg base CX0 3 "goods_of" ["lot"] spGoods0) (CU : Cal P w K mg base CX0 1 "unit" ["place", "many"] spUnit) (CO : Cal P w K mg base CX0 5 "with_one_at" ["rows", "place"] (spOneAt T)) : FnOk P w K mg base CX0 6 f fd ["lot"] (spSpan T) := by
  obtain ⟨fG, fdG, GG, gG, kG, bG⟩ := CG.ex
  obtain ⟨fU, fdU, GU, gU, kU, bU⟩ := CU.ex
  obtain ⟨fO, fdO, GO, gO, kO, bO⟩ := CO.ex
  refine F.ok scSp (fun vs H Q E h => ?_) (fun cdv A outer s H vs Q E hr h => ?_)
  · obtain ⟨p, as, ll, rfl, _⟩ := h
    rfl
  · obtain ⟨p, as, ll, rfl, R, ef, hT, q⟩ := h
    have hok := flaw_ok ef
    have hrw := flaw_rows ef
    have hal := R.2.len
    obtain ⟨wl, we⟩ := wdW_ok ef
    have wn := wdW_len (ll := ll)
    refine ⟨_, (pss_cons (ps_set (i := 1) scSp.nd rfl (.inr rfl) (pe_call GG (hr.mono (by decide)) (by rfl) gG kG bG .nil pass0 (pa_cons (pv 0) pa_nil)))
      (pss_cons (ps_setLc (i := 2) (own := [("kind", 8), ("hold", 7)]) (g := gTup K 2 (gCons (gName 8) (gCons (gName 7) gNil))) (tt := tYes) (te := tOp (rCatA K) (tVar 7) (tCall spUnit [] E0 (tCons (tVar 8) (tCons (tCB (fun xs H Q => ∃ p ys, xs = [.ref p] ∧ (SqL K H p ys ∨ SqT K H p ys) ∧ Q (.int ys.length) H) (tCons (tVar 0) tNil)) tNil)))) rfl scSp.nd rfl rfl (sw_true rfl rfl rfl (by decide +kernel)) (pi_enumT (by rfl) B.enumerate (pa_cons (pv 0) pa_nil))
        (blkOk_by (own := [("kind", 8), ("hold", 7)]) (N := NSp) (sc := defScope sSpan) (by decide +kernel)) (fun _ _ _ _ _ => (pg_tup rfl (pgs_cons (pg_name (i := 8) scSp.nd rfl (Or.inl rfl)) (pgs_cons (pg_name (i := 7) scSp.nd rfl (Or.inl rfl)) pgs_nil)))) (fun _ _ _ _ _ => pts_nil)
        (fun _ _ _ _ _ => (pe_op op_catA (pv 7) (pe_call GU (hr.mono (by decide)) (by rfl) gU kU bU .nil pass0 (pa_cons (pv 8) (pa_cons (pe_callB call_len_seq (by rfl) B.len PySem.boot_len (pa_cons (pv 0) pa_nil)) pa_nil))))))
      (pss_cons (ps_for PassesOwn.never rfl (pi_range1 (by rfl) B.range (pa_cons (pv 1) pa_nil)) (pg_name (i := 3) scSp.nd rfl (.inl rfl))
      (pss_one (ps_set (i := 2) scSp.nd rfl (.inl rfl) (pe_ix ix_tup (pe_call GO (hr.mono (by decide)) (by rfl) gO kO bO .nil pass0 (pa_cons (pv 2) (pa_cons (pv 3) pa_nil))) pe_int (fun _ _ => rfl)))))
      (pss_cons (ps_set (i := 4) scSp.nd rfl (.inl rfl) (pe_lst pa_nil))
      (pss_cons (ps_for PassesOwn.never rfl (pi_range2 (by rfl) B.range (pa_cons (pv 1) (pa_cons (pe_op op_add (pv 1) (pe_callB call_len_seq (by rfl) B.len PySem.boot_len (pa_cons (pv 0) pa_nil))) pa_nil))) (pg_name (i := 5) scSp.nd rfl (.inl rfl))
      (pss_cons (ps_asg (pe_call GO (hr.mono (by decide)) (by rfl) gO kO bO .nil pass0 (pa_cons (pv 2) (pa_cons (pv 5) pa_nil))) (pg_tup rfl (pgs_cons (pg_name (i := 6) scSp.nd rfl (.inl rfl)) (pgs_cons (pg_name (i := 2) scSp.nd rfl (.inl rfl)) pgs_nil))))
      (pss_one (ps_aug (i := 4) scSp.nd rfl (.inl rfl) (pe_lc (own := [("row", 9)]) (g := gName 9) (tt := tYes) (te := tSl (rSlA K) (tVar 9) (tPart (tVar 1)) tNoPart) rfl scSp.nd (pi_list (pv 6))
        (blkOk_by (own := [("row", 9)]) (N := NSp) (sc := defScope sSpan) (by decide +kernel)) (fun _ _ _ _ _ => pg_name (i := 9) scSp.nd rfl (Or.inl rfl)) (fun _ _ _ _ _ => pts_nil)
        (fun _ _ _ _ _ => (pe_slice sl_tupA (pv 9) (po_some (pv 1)) po_none))) iop_ext))))
      (pss_one (ps_ret (pv 4)))))))), ?_⟩
    refine ⟨.ref p, rfl, p, as, ll, rfl, R, ef, fun H1 s1 => ?_⟩
    have R1 := R.same s1
    refine ⟨.ref p, rfl, p, _, rfl, SqT.of R1.1, fun D nD => ?_⟩
    refine lc_it (walk_enumT (K := K) (a := p) (xs := as.map V.ref)) (fun i H' => Same H1 H' ∧ ∃ ca : List Addr, H' D = some (.lst (ca.map V.ref)) ∧ Rows H' ca ((wdW ll).take i)) ⟨same_new nD, [], upd_same, by rw [List.take_zero]; exact True.intro⟩ (fun i H' _ hP => SqT.of (R1.same hP.1).1) (fun i x H2 H3 hi ⟨sm, hca⟩ hY => ?_) (fun H2 ⟨sm, hca⟩ => ?_)
    · obtain ⟨T0, x1, x2, rfl, nT, rfl, e1, e2⟩ := hY
      cases Option.some.inj e1
      rw [List.length_map] at hi
      obtain ⟨ai, hai⟩ : ∃ c, as[i]? = some c := ⟨_, List.getElem?_eq_getElem hi⟩
      have ex2 : x2 = .ref ai := by
        have e2' : (as.map V.ref)[i]? = some x2 := e2
        rw [List.getElem?_map, hai] at e2'
        exact (Option.some.inj e2').symm
      subst ex2
      have sT := same_new (o := .tup [.int (i : Nat), .ref ai]) nT
      have s2 := sm.trans sT
      obtain ⟨r, hr1, hr2⟩ := (R1.same s2).2.at hai
      have hr2 : IntsAt _ ai r := hr2
      have hrl := (hrw r (List.mem_of_getElem? hr1)).1
      have hiL : i < ll.length := by omega
      refine ⟨T0, _, rfl, SqT.of upd_same, rfl, _, _, rfl, _, _, rfl, rfl, rfl, yes (iteT ?_)⟩
      refine ⟨.ref ai, rfl, .int (i : Nat), rfl, .ref p, rfl, p, _, rfl, .inr (SqT.of (R1.same s2).1), ?_⟩
      rw [List.length_map, hal]
      refine nilA ⟨i, ll.length, rfl, hiL, by omega, fun H4 z s4 hz => ?_⟩
      refine cat_ints (hr2.same s4) hz (by rw [unI_len hiL, hrl]; omega) fun z2 H5 s5 hz2 => ?_
      rw [List.take_add_one, wdW_at hr1]
      exact row_more nD sm hca (by rw [List.length_take]; omega) (sT.trans (s4.trans s5)) hz2
    rw [List.length_map, hal, List.take_of_length_le (by omega)] at hca
    obtain ⟨ra, hra, Rr⟩ := hca
    have s02 := s1.trans sm
    refine ⟨.int (width ll : Nat), rfl, _, rfl, by omega, by omega, ?_⟩
    refine for_range (lo := 0) (n := ((width ll : Nat) : Int).toNat) (fun i σ H' => ∃ (lr : Addr) (ra : List Addr) (rows : List (List Int)) (st : List (Nat × List Int)) (y3 : Option V), σ = [some (.ref p), some (.int (width ll : Nat)), some (.ref lr), y3, none, none, none, none, none, none] ∧ ExtN H H' ∧ Tabs T H' ∧ H' lr = some (.lst (ra.map V.ref)) ∧ Rows H' ra rows ∧ SInv (width ll + ll.length) i (wdW ll) st rows)
      ⟨D, ra, wdW ll, [], none, rfl, ExtN.of_same s02, hT.ext s02, hra, Rr, SInv.start wl we⟩ (fun i σ H4 hi hI => ?_) (fun σ H4 hI => ?_)
    · obtain ⟨lr, ra, rows, st, y3, rfl, E4, T4, hlr, Rr, S⟩ := hI
      have hi' : i < width ll := by omega
      have ez : (0 : Int) + (i : Nat) = ((i : Nat) : Int) := by omega
      rw [ez]
      obtain ⟨c, hc0, hc, hE⟩ := S.ent
      have few := S.few
      rw [wn] at hc0 hc few
      refine ⟨.ref lr, rfl, .int (i : Int), rfl, lr, i, width ll + ll.length, ra, rows, bnd c, rfl, hlr, Rr, by omega, S.len, by omega, by omega, bnd_pos c, fun r hr => hE r (List.mem_append_right _ hr), fun h2 => ?_, T4, fun H5 t la lo aa ao at_ oth E5 T5 na no ne ht hla Ra hlo Ro O => ?_⟩
      · have h3 : bnd (c + 1) ≤ bnd 4 := bnd_mono (by omega)
        exact Int.le_trans h3 (Int.le_trans bnd_bits (two_mono (by decide)))
      exact ⟨t, _, 1, .ref lo, rfl, rfl, SqT.of ht, rfl, lo, ao, oth, _, _, rfl, E4.trans E5, T5, hlo, Ro, S.step wl (by omega) (by rw [wn]; exact hc0) (by rw [wn]; exact hc) hE O⟩
    · obtain ⟨lr, ra, rows, st, y3, rfl, E4, T4, hlr, Rr, S⟩ := hI
      rw [Int.toNat_natCast] at S
      refine ⟨Nat.zero_le _, fun ls nls => ?_⟩
      have sl := same_new (o := .lst []) nls
      have e4l := E4.trans (ExtN.of_same sl)
      have hpR := (R.ext e4l).1
      refine ⟨.int (width ll : Nat), rfl, .int (width ll : Nat), rfl, .ref p, rfl, p, _, rfl, .inr (SqT.of hpR), ?_⟩
      rw [List.length_map, hal]
      refine ⟨_, _, rfl, rfl, _, _, rfl, ⟨by omega, by omega, by omega, by omega⟩, ?_⟩
      have en : (((width ll : Nat) : Int) + ((ll.length : Nat) : Int) - ((width ll : Nat) : Int)).toNat = ll.length := by omega
      rw [en]
      refine for_range (lo := ((width ll : Nat) : Int)) (n := ll.length) (fun i σ H' => ∃ (lr ls : Addr) (ra sa : List Addr) (rows : List (List Int)) (st : List (Nat × List Int)) (y3 y5 y6 : Option V), σ = [some (.ref p), some (.int (width ll : Nat)), some (.ref lr), y3, some (.ref ls), y5, y6, none, none, none] ∧ ExtN H H' ∧ Tabs T H' ∧ New H ls ∧ lr ≠ ls ∧ H' lr = some (.lst (ra.map V.ref)) ∧ Rows H' ra rows ∧ H' ls = some (.lst (sa.map V.ref)) ∧ Rows H' sa (dropS (width ll) st) ∧ SInv (width ll + ll.length) (width ll + i) (wdW ll) st rows)
        ⟨lr, ls, ra, [], rows, st, _, none, none, rfl, e4l, T4.ext sl, (New.of nls).back E4, (fun z => by rw [z, nls] at hlr; cases hlr), sl _ _ hlr, Rr.same sl, upd_same, by rw [dropS_nil S.piv]; exact True.intro, S⟩ (fun i σ H5 hi hI => ?_) (fun σ H5 hI => ?_)
      · obtain ⟨lr, ls, ra, sa, rows, st, y3, y5, y6, rfl, E4, T4, n4, ne4, hlr, Rr, hls, Sr, S⟩ := hI
        have ez : ((width ll : Nat) : Int) + (i : Nat) = ((width ll + i : Nat) : Int) := by omega
        rw [ez]
        obtain ⟨c, hc0, hc, hE⟩ := S.ent
        have few := S.few
        rw [wn] at hc0 hc few
        refine ⟨.ref lr, rfl, _, rfl, lr, width ll + i, width ll + ll.length, ra, rows, bnd c, rfl, hlr, Rr, by omega, S.len, by omega, by omega, bnd_pos c, fun r hr => hE r (List.mem_append_right _ hr), fun h2 => ?_, T4, fun H6 t la lo aa ao at_ oth E5 T5 na no ne ht hla Ra hlo Ro O => ?_⟩
        · have h3 : bnd (c + 1) ≤ bnd 4 := bnd_mono (by omega)
          exact Int.le_trans h3 (Int.le_trans bnd_bits (two_mono (by decide)))
        have hlsn : ∀ ps, (HO.lst (sa.map V.ref)) ≠ .tbl ps := fun ps z => by cases z
        have hls5 := E5 _ _ hls hlsn
        have hone := O.one
        have halA := Ra.len
        have hsl := Sr.len
        have hds : (dropS (width ll) st).length ≤ st.length := by
          unfold dropS
          rw [List.length_map]
          exact List.length_filter_le _ _
        refine ⟨t, _, rfl, SqT.of ht, rfl, _, _, rfl, _, _, rfl, rfl, ?_⟩
        refine ⟨.ref ls, rfl, .ref la, rfl, la, rfl, ⟨_, SqL.of hla⟩, fun D nD => ?_⟩
        refine lc_list (K := K) (a := la) (xs := aa.map V.ref) (fun j H' => Same H6 H' ∧ ∃ ca : List Addr, H' D = some (.lst (ca.map V.ref)) ∧ Rows H' ca ((at_.take j).map fun r => r.drop (width ll))) ⟨same_new nD, [], upd_same, by rw [List.take_zero]; exact True.intro⟩ (fun j H' _ hP => SqL.of (hP.1 _ _ hla)) (fun j x H' hx ⟨sj, hca⟩ => ?_) (fun H' ⟨sj, ca, hD, hRc⟩ => ?_)
        · obtain ⟨a, ha, rfl⟩ := refAt hx
          obtain ⟨r, hr1, hr2⟩ := (Ra.same sj).at ha
          have hr2 : IntsAt H' a r := hr2
          refine ⟨rfl, yes (iteT ⟨.ref a, rfl, .int (width ll : Nat), rfl, _, rfl, noPart (slice_fromI (n := width ll) hr2 fun z H7 s7 hz => ?_)⟩)⟩
          rw [List.take_add_one, hr1, List.map_append]
          exact row_more nD sj hca (by rw [List.length_map, List.length_take]; omega) s7 hz
        · rw [List.length_map, halA, List.take_length] at hRc
          have hls6 := sj _ _ hls5
          have hcl := hRc.len
          rw [List.length_map] at hcl
          refine ⟨ls, D, _, _, rfl, rfl, hls6, hD, ?_, lo, ls, ao, sa ++ ca, oth, st ++ at_.map fun r => (width ll + i, r), _, _, _, rfl, ExtN.late (E4.trans (E5.trans (ExtN.of_same sj))) n4, tabs_list (T5.ext sj) hls6, n4, ?_, ?_, (Ro.same sj).lput hls6, by rw [upd_same, List.map_append], ?_, S.step (g := width ll + i) wl (by omega) (by rw [wn]; exact hc0) (by rw [wn]; exact hc) hE O⟩
          · rw [List.length_map, List.length_map]
            exact sz1000 (by omega)
          · exact (no.ne hls hlsn).symm
          · rw [upd_ne (no.ne hls hlsn).symm]
            exact sj _ _ hlo
          · rw [dropS_app]
            exact ((((Sr.ext E5).same sj)).lput hls6).app (hRc.lput hls6)
      · obtain ⟨lr, ls, ra, sa, rows, st, y3, y5, y6, rfl, E4, T4, n4, ne4, hlr, Rr, hls, Sr, S⟩ := hI
        exact ⟨.ref ls, rfl, q H5 ls sa st rows E4 T4 n4 hls Sr S⟩
end
end HL

set_option pp.maxSteps 2000
namespace HL
open PySem PySem.Spec PyProof.Rows L2
open C8 (pss_cut)
open RZ (pi_zipA ItzT iZipA)
abbrev sSignOf : Stmt := topS 32
abbrev sFirstPl : Stmt := topS 33
abbrev sWay : Stmt := topS 34
abbrev sOppo : Stmt := topS 17
abbrev sHasSigns : Stmt := topS 38
abbrev sNoGr : Stmt := topS 40
theorem scSo : FnScope ["number"] ["number"] (defScope sSignOf) := ⟨rfl, rfl, rfl, by decide +kernel, rfl, by decide +kernel, by decide +kernel⟩
theorem scFp : FnScope ["row", "number", "place"] ["row"] (defScope sFirstPl) := ⟨rfl, rfl, rfl, by decide +kernel, rfl, by decide +kernel, by decide +kernel⟩
theorem scTw : FnScope ["row"] ["row"] (defScope sWay) := ⟨rfl, rfl, rfl, by decide +kernel, rfl, by decide +kernel, by decide +kernel⟩
theorem scHs : FnScope ["row", "signs", "number", "sign"] ["row", "signs"] (defScope sHasSigns) := ⟨rfl, rfl, rfl, by decide +kernel, rfl, by decide +kernel, by decide +kernel⟩
theorem scNg : FnScope ["row", "other", "many", "place"] ["row", "other", "many"] (defScope sNoGr) := ⟨rfl, rfl, rfl, by decide +kernel, rfl, by decide +kernel, by decide +kernel⟩
theorem scOpp : FnScope ["row", "number"] ["row"] (defScope sOppo) := ⟨rfl, rfl, rfl, by decide +kernel, rfl, by decide +kernel, by decide +kernel⟩
def sgnI (n : Int) : Int := if n = 0 then 0 else if 0 < n then 1 else -1
/-- the first place where a row isn't 0 -/
def FstI (r : List Int) (m : Nat) : Prop := m < r.length ∧ r.getD m 0 ≠ 0 ∧ ∀ j, j < m → r.getD j 0 = 0
def ngR (r : List Int) : List Int := r.map fun x => -x
/-- the row or its opposite, the first number above 0 -/
def WayI (r r' : List Int) : Prop := (r' = r ∨ r' = ngR r) ∧ ∃ m, FstI r' m ∧ 0 < r'.getD m 0
theorem ngR_getD {r : List Int} {j : Nat} : (ngR r).getD j 0 = -r.getD j 0 := by
  unfold ngR
  rw [List.getD_eq_getElem?_getD, List.getD_eq_getElem?_getD, List.getElem?_map]
  cases r[j]? with
  | none => rfl
  | some x => rfl
def hasS (s r : List Int) : Bool := (s.zip r).all fun q => decide (0 ≤ q.1 * q.2)
def noG (r o : List Int) (n : Nat) : Prop := ∀ j, j < n → (r.getD j 0).natAbs ≤ (o.getD j 0).natAbs
section
variable {P : Program} {w : World} {K : PySem.W.Frag} {mg : Str → Option Value} {base : Heap}
def spSign : Sp := fun vs H Q _ => ∃ n : Int, vs = [.int n] ∧ Q (.int (sgnI n)) H
theorem ok_sign {f : Addr} {fd : FuncData} {k : Nat} (F : Fun K "sign_of" "sign_of" sSignOf f fd) : FnOk P w K mg base CX0 (k + 1) f fd ["number"] spSign := by
  refine F.ok scSo (fun vs H Q E h => ?_) (fun cdv A outer s H vs Q E hr h => ?_)
  · obtain ⟨n, rfl, _⟩ := h
    rfl
  · obtain ⟨n, rfl, q⟩ := h
    refine ⟨_, (pss_cons (ps_if (pt_cmpR op_eq (pv 0) pe_int (nomark _)) (pss_one (ps_ret pe_int)) pss_nil)
      (pss_one (ps_ret (pe_ifExp (pt_cmpR op_gt (pv 0) pe_int (nomark _)) pe_int (pe_un un_neg pe_int))))), ?_⟩
    unfold sgnI at q
    refine ⟨.int n, rfl, rfl, _, rfl, ite2 (fun c => ?_) (fun c => ?_)⟩
    · have e : n = 0 := V.int.inj (of_decide_eq_true c)
      rw [if_pos e] at q
      exact q
    · have e : ¬ n = 0 := fun z => c (decide_eq_true (by rw [z]))
      rw [if_neg e] at q
      refine ⟨.int n, rfl, _, _, rfl, rfl, _, rfl, ite2 (fun c => ?_) (fun c => ?_)⟩
      · rw [if_pos (show 0 < n from of_decide_eq_true c)] at q
        exact q
      · rw [if_neg (fun z => c (decide_eq_true (show n > 0 from z)))] at q
        exact ⟨1, rfl, q⟩
def spFirstP : Sp := fun vs H Q _ => ∃ (a : Addr) (r : List Int), vs = [.ref a] ∧ IntsAt H a r ∧ r.length ≤ 100 ∧ (∃ j, r.getD j 0 ≠ 0) ∧ ∀ H' m, Same H H' → FstI r m → Q (.int (m : Nat)) H'
/-- the places where a row isn't 0 -/
def plL (r : List Int) (n : Nat) : List Int := ((List.range n).filter fun j => decide (r.getD j 0 ≠ 0)).map fun (j : Nat) => (j : Int)
theorem plL_more {r : List Int} {n : Nat} : plL r (n + 1) = plL r n ++ (if r.getD n 0 ≠ 0 then [(n : Int)] else []) := by
  unfold plL
  rw [List.range_succ, List.filter_append, List.map_append]
  congr 1
  show List.map _ (List.filter _ [n]) = _
  rw [List.filter_cons, List.filter_nil]
  by_cases c : r.getD n 0 ≠ 0
  · rw [if_pos c, if_pos (decide_eq_true c)]
    rfl
  · rw [if_neg c, if_neg (by rw [decide_eq_false c]; decide)]
    rfl
theorem plL_mem {r : List Int} {n : Nat} {x : Int} : x ∈ plL r n ↔ ∃ j : Nat, x = (j : Int) ∧ j < n ∧ r.getD j 0 ≠ 0 := by
  unfold plL
  rw [List.mem_map]
  constructor
  · rintro ⟨j, hj, rfl⟩
    obtain ⟨h1, h2⟩ := List.mem_filter.mp hj
    exact ⟨j, rfl, List.mem_range.mp h1, of_decide_eq_true h2⟩
  · rintro ⟨j, rfl, h1, h2⟩
    exact ⟨j, List.mem_filter.mpr ⟨List.mem_range.mpr h1, decide_eq_true h2⟩, rfl⟩
theorem plL_len {r : List Int} {n : Nat} : (plL r n).length ≤ n := by
  unfold plL
  rw [List.length_map]
  exact Nat.le_trans (List.length_filter_le _ _) (by rw [List.length_range]; exact Nat.le_refl _)
theorem ok_firstP {f : Addr} {fd : FuncData} {k : Nat} (F : Fun K "first_place" "first_place" sFirstPl f fd) (B : Bl mg) : FnOk P w K mg base CX0 (k + 1) f fd ["row"] spFirstP := by
  refine F.ok scFp (fun vs H Q E h => ?_) (fun cdv A outer s H vs Q E hr h => ?_)
  · obtain ⟨a, r, rfl, _⟩ := h
    rfl
  · obtain ⟨a, r, rfl, hA, hz, ⟨j0, hj0⟩, q⟩ := h
    refine ⟨_, (pss_one (ps_ret (pe_callB (cr_min rfl) (by rfl) B.min (by decide +kernel) (pa_cons (pe_lc (own := [("place", 2), ("number", 1)]) (g := gTup K 2 (gCons (gName 2) (gCons (gName 1) gNil))) (tt := tTest (tOp rNe (tVar 1) (tC (.int 0)))) (te := tVar 2) rfl scFp.nd (pi_enumT (by rfl) B.enumerate (pa_cons (pv 0) pa_nil))
        (blkOk_by (own := [("place", 2), ("number", 1)]) (N := ["row", "number", "place"]) (sc := defScope sFirstPl) (by decide +kernel)) (fun _ _ _ _ _ => (pg_tup rfl (pgs_cons (pg_name (i := 2) scFp.nd rfl (.inl rfl)) (pgs_cons (pg_name (i := 1) scFp.nd rfl (.inl rfl)) pgs_nil)))) (fun _ _ _ _ _ => pts_one (pt_cmpR op_ne (pv 1) pe_int (nomark _)))
        (fun _ _ _ _ _ => (pv 2))) pa_nil)))), ?_⟩
    have hj1 : j0 < r.length := Classical.byContradiction fun c => hj0 (by rw [List.getD_eq_getElem?_getD, List.getElem?_eq_none (by omega)]; rfl)
    refine ⟨.ref a, rfl, a, _, rfl, SqT.of hA, fun D nD => ?_⟩
    refine lc_it (walk_enumT (K := K) (a := a) (xs := r.map V.int)) (fun i H' => Same H H' ∧ H' D = some (.lst ((plL r i).map V.int))) ⟨same_new nD, upd_same⟩ (fun i H' _ hP => SqT.of (hA.same hP.1)) (fun i x H1 H2 hi ⟨s1, hD⟩ hy => ?_) (fun H1 ⟨s1, hD⟩ => ?_)
    · obtain ⟨T, x1, x2, h1, h2, h3, h4, h5⟩ := hy
      subst h1 h3
      have e1 := Option.some.inj h4
      subst e1
      have hi' : i < r.length := by rw [List.length_map] at hi; exact hi
      have h5 : (r.map V.int)[i]? = some x2 := h5
      have e2 : x2 = .int (r.getD i 0) := by
        rw [List.getElem?_map, List.getElem?_eq_getElem hi'] at h5
        rw [List.getD_eq_getElem?_getD, List.getElem?_eq_getElem hi']
        exact (Option.some.inj h5).symm
      subst e2
      have sT := same_new (o := .tup [V.int ((i : Nat) : Int), V.int (r.getD i 0)]) h2
      have hD2 := sT _ _ hD
      refine ⟨T, _, rfl, SqT.of upd_same, rfl, _, _, rfl, _, _, rfl, rfl, rfl, .int (r.getD i 0), rfl, rfl, _, rfl, ?_⟩
      rw [plL_more]
      refine ite2 (fun c => ?_) (fun c => ?_)
      · have hne : r.getD i 0 ≠ 0 := fun z => by
          rw [z, decide_eq_true rfl] at c
          cases c
        rw [if_pos hne]
        refine ⟨.int ((i : Nat) : Int), rfl, _, hD2, ?_, same_late (s1.trans sT) nD, ?_⟩
        · rw [List.length_map]
          have := plL_len (r := r) (n := i)
          exact small1000 (by omega)
        · rw [upd_same, List.map_append]
          rfl
      · have hne : ¬ r.getD i 0 ≠ 0 := fun z => c (by rw [decide_eq_false fun y => z (V.int.inj y)]; rfl)
        rw [if_neg hne, List.append_nil]
        exact ⟨s1.trans sT, hD2⟩
    · rw [List.length_map] at hD
      refine ⟨D, _, rfl, SqL.of hD, List.length_pos_of_mem (plL_mem.mpr ⟨j0, rfl, hj1, hj0⟩), fun m hm hmin => ?_⟩
      obtain ⟨j, rfl, h1, h2⟩ := plL_mem.mp hm
      refine q H1 j s1 ⟨h1, h2, fun t ht => Classical.byContradiction fun z => ?_⟩
      have := hmin (t : Int) (plL_mem.mpr ⟨t, rfl, by omega, z⟩)
      omega
def spOpp : Sp := fun vs H Q _ => ∃ (a : Addr) (xs : List Int), vs = [.ref a] ∧ IntsAt H a xs ∧ xs.length ≤ 100 ∧ ∀ H' p, Same H H' → IntsAt H' p (ngR xs) → Q (.ref p) H'
theorem ok_opp {f : Addr} {fd : FuncData} {k : Nat} (F : Fun K "opposite" "opposite" sOppo f fd) (B : Bl mg) : FnOk P w K mg base CX0 (k + 1) f fd ["row"] spOpp := by
  refine F.ok scOpp (fun vs H Q E h => ?_) (fun cdv A outer s H vs Q E hr h => ?_)
  · obtain ⟨a, xs, rfl, _⟩ := h
    rfl
  · obtain ⟨a, xs, rfl, ha, hz, q⟩ := h
    refine ⟨_, (pss_one (ps_ret (pe_callTy call_tuple_of (by rfl) B.tuple (by decide +kernel) (pa_cons (pe_lc (own := [("number", 1)]) (g := gName 1) (tt := tYes) rfl scOpp.nd (pi_tup (pv 0))
        (blkOk_by (own := [("number", 1)]) (N := ["row", "number"]) (sc := defScope sOppo) (by decide +kernel)) (fun _ _ _ _ _ => pg_name (i := 1) scOpp.nd rfl (Or.inl rfl)) (fun _ _ _ _ _ => pts_nil)
        (fun _ _ _ _ _ => (pe_un un_neg (pv 1)))) pa_nil)))), ?_⟩
    refine ⟨.ref a, rfl, a, rfl, ⟨_, SqT.of ha⟩, fun D nD => ?_⟩
    refine lc_it (walk_tup (K := K) (a := a) (xs := xs.map V.int)) (fun i H' => Same H H' ∧ H' D = some (.lst (((ngR xs).take i).map V.int))) ⟨same_new nD, upd_same⟩ (fun i H' _ hP => SqT.of (ha.same hP.1)) (fun i x H1 H2 hi ⟨sm, hD⟩ hy => ?_) (fun H' ⟨sm, hD⟩ => ?_)
    · obtain ⟨rfl, hx⟩ := hy
      obtain ⟨n, hn, rfl⟩ : ∃ n, xs[i]? = some n ∧ x = V.int n := by
        rw [List.getElem?_map] at hx
        cases e : xs[i]? with
        | none => rw [e] at hx; cases hx
        | some n => rw [e] at hx; exact ⟨n, rfl, (Option.some.inj hx).symm⟩
      refine ⟨rfl, yes (iteT ⟨.int n, rfl, n, rfl, _, hD, ?_, same_late sm nD, ?_⟩)⟩
      · rw [List.length_map]
        have := List.length_take_le' i (ngR xs)
        have e : (ngR xs).length = xs.length := by unfold ngR; rw [List.length_map]
        exact small1000 (by omega)
      · have e : (ngR xs)[i]? = some (-n) := by unfold ngR; rw [List.getElem?_map, hn]; rfl
        rw [upd_same, List.take_add_one, e, List.map_append]
        rfl
    · have e : (ngR xs).length = xs.length := by unfold ngR; rw [List.length_map]
      rw [List.length_map, ← e, List.take_length] at hD
      exact ⟨D, _, rfl, .inl ⟨SqL.of hD, fun z nz => q _ z (sm.trans (same_new nz)) upd_same⟩⟩
def spWay : Sp := fun vs H Q _ => ∃ (a : Addr) (r : List Int), vs = [.ref a] ∧ IntsAt H a r ∧ r.length ≤ 100 ∧ (∃ j, r.getD j 0 ≠ 0) ∧ ∀ H' p r', Same H H' → IntsAt H' p r' → WayI r r' → Q (.ref p) H'
theorem ok_way {f : Addr} {fd : FuncData} (F : Fun K "told_way" "told_way" sWay f fd) (CF : Cal P w K mg base CX0 1 "first_place" ["row"] spFirstP) (CO : Cal P w K mg base CX0 1 "opposite" ["row"] spOpp) : FnOk P w K mg base CX0 2 f fd ["row"] spWay := by
  obtain ⟨fFp, fdFp, GFp, gFp, kFp, bFp⟩ := CF.ex
  obtain ⟨fOp, fdOp, GOp, gOp, kOp, bOp⟩ := CO.ex
  refine F.ok scTw (fun vs H Q E h => ?_) (fun cdv A outer s H vs Q E hr h => ?_)
  · obtain ⟨a, r, rfl, _⟩ := h
    rfl
  · obtain ⟨a, r, rfl, hA, hz, hne, q⟩ := h
    refine ⟨_, (pss_one (ps_ret (pe_ifExp (pt_cmpR op_gt (pe_ix ix_tup (pv 0) (pe_call GFp (hr.mono (by decide)) (by rfl) gFp kFp bFp .nil pass0 (pa_cons (pv 0) pa_nil)) (fun _ _ => rfl)) pe_int (nomark _)) (pv 0) (pe_call GOp (hr.mono (by decide)) (by rfl) gOp kOp bOp .nil pass0 (pa_cons (pv 0) pa_nil))))), ?_⟩
    refine ⟨.ref a, rfl, .ref a, rfl, a, r, rfl, hA, hz, hne, fun H1 m s1 fm => ?_⟩
    refine ⟨a, _, _, _, rfl, rfl, SqT.of (hA.same s1), atIT fm.1, _, _, rfl, rfl, _, rfl, ite2 (fun c => ?_) (fun c => ?_)⟩
    · exact ⟨.ref a, rfl, q H1 a r s1 (hA.same s1) ⟨.inl rfl, m, fm, of_decide_eq_true c⟩⟩
    · refine ⟨.ref a, rfl, a, r, rfl, hA.same s1, hz, fun H2 p s2 hp => q H2 p _ (s1.trans s2) hp ⟨.inr rfl, m, ⟨?_, ?_, fun j hj => ?_⟩, ?_⟩⟩
      · unfold ngR
        rw [List.length_map]
        exact fm.1
      · rw [ngR_getD]
        have := fm.2.1
        omega
      · rw [ngR_getD, fm.2.2 j hj]
        rfl
      · rw [ngR_getD]
        have := fm.2.1
        have : ¬ r.getD m 0 > 0 := fun z => c (decide_eq_true z)
        omega
def spHas (K : PySem.W.Frag) : Sp := fun vs H Q _ => ∃ (a b : Addr) (r s : List Int), vs = [.ref a, .ref b] ∧ IntsAt H a r ∧ IntsAt H b s ∧ s.length ≤ 100 ∧ s.length ≤ r.length ∧ (∀ x ∈ s, -1000 ≤ x ∧ x ≤ 1000) ∧ ∀ H', Same H H' → Q (.bl (hasS s r)) H'
theorem ok_has {f : Addr} {fd : FuncData} {k : Nat} (F : Fun K "has_signs" "has_signs" sHasSigns f fd) (B : Bl mg) (mz : mg "zip" = none) : FnOk P w K mg base CX0 (k + 1) f fd ["row", "signs"] (spHas K) := by
  refine F.ok scHs (fun vs H Q E h => ?_) (fun cdv A outer s H vs Q E hr h => ?_)
  · obtain ⟨a, b, r, s', rfl, _⟩ := h
    rfl
  · obtain ⟨a, b, r, ss, rfl, hA, hB, hz, hl, hs, q⟩ := h
    refine ⟨_, (pss_one (ps_ret (pe_callB (cr_all rfl) (by rfl) B.all (by decide +kernel) (pa_cons (pe_lc (own := [("sign", 3), ("number", 2)]) (g := gTup K 2 (gCons (gName 3) (gCons (gName 2) gNil))) (tt := tYes) (te := tOp (rI0 fun i j => .bl (decide (i ≥ j))) (tOp (rI CMul fun i j => .int (i * j)) (tVar 3) (tVar 2)) (tC (.int 0))) rfl scHs.nd (pi_zipA (by rfl) mz (pa_cons (pv 1) (pa_cons (pv 0) pa_nil)))
        (blkOk_by (own := [("sign", 3), ("number", 2)]) (N := ["row", "signs", "number", "sign"]) (sc := defScope sHasSigns) (by decide +kernel)) (fun _ _ _ _ _ => (pg_tup rfl (pgs_cons (pg_name (i := 3) scHs.nd rfl (Or.inl rfl)) (pgs_cons (pg_name (i := 2) scHs.nd rfl (Or.inl rfl)) pgs_nil)))) (fun _ _ _ _ _ => pts_nil)
        (fun _ _ _ _ _ => (pe_cmpR op_ge (pe_op op_mul (pv 3) (pv 2)) pe_int (nomark _)))) pa_nil)))), ?_⟩
    refine ⟨.ref b, rfl, .ref a, rfl, b, a, _, _, rfl, .inr ⟨SqT.of hB, SqT.of hA, fun D nD => ?_⟩⟩
    refine ⟨fun i m H' => i + m = ss.length ∧ Same H H' ∧ H' D = some (.lst ((((ss.zip r).take i).map fun q => decide (0 ≤ q.1 * q.2)).map V.bl)), ⟨ss.length, by omega, same_new nD, upd_same⟩, fun i m H' hW => ?_⟩
    obtain ⟨em, sm, hD⟩ := hW
    have sA : SqT K H' a (r.map V.int) := SqT.of (hA.same sm)
    have sB : SqT K H' b (ss.map V.int) := SqT.of (hB.same sm)
    by_cases hi : i < ss.length
    · have hx : ss[i]? = some (ss[i]'hi) := List.getElem?_eq_getElem hi
      have hy : r[i]? = some (r[i]'(by omega)) := List.getElem?_eq_getElem (by omega)
      have g1 : (ss.map V.int)[i]? = some (.int (ss[i]'hi)) := by rw [List.getElem?_map, hx]; rfl
      have g2 : (r.map V.int)[i]? = some (.int (r[i]'(by omega))) := by rw [List.getElem?_map, hy]; rfl
      have hzi : (ss.zip r)[i]? = some (ss[i]'hi, r[i]'(by omega)) := by
        rw [List.getElem?_zip_eq_some]
        exact ⟨hx, hy⟩
      refine .inr ⟨⟨_, _, _, _, sB, sA, g1, g2⟩, fun H2 => Same H H2 ∧ H2 D = some (.lst ((((ss.zip r).take (i + 1)).map fun q => decide (0 ≤ q.1 * q.2)).map V.bl)), fun H2 hN => ⟨m - 1, by omega, by omega, hN⟩, fun x H2 hyy => ?_⟩
      obtain ⟨T, x1, x2, rfl, nT, rfl, f1, f2⟩ := hyy
      have ex1 := Option.some.inj ((f1 _ sB).symm.trans g1)
      have ex2 := Option.some.inj ((f2 _ sA).symm.trans g2)
      subst ex1 ex2
      have sT := same_new (o := .tup [V.int (ss[i]'hi), V.int (r[i]'(by omega))]) nT
      refine ⟨T, _, rfl, SqT.of upd_same, rfl, _, _, rfl, _, _, rfl, rfl, rfl, yes (iteT ?_)⟩
      have hs1 := hs _ (List.getElem_mem hi)
      refine ⟨_, rfl, _, rfl, _, _, rfl, rfl, .inl ⟨by omega, by omega⟩, _, _, rfl, rfl, _, sT _ _ hD, ?_, same_late (sm.trans sT) nD, ?_⟩
      · rw [List.length_map, List.length_map]
        exact small1000 (Nat.le_trans (List.length_take_le _ _) (by omega))
      · rw [upd_same, List.take_add_one, hzi, List.map_append, List.map_append]
        rfl
    · refine .inl ⟨⟨_, _, sB, sA, .inl ?_⟩, ?_⟩
      · rw [List.length_map]
        omega
      · have e : (ss.zip r).take i = ss.zip r := List.take_of_length_le (by rw [List.length_zip]; omega)
        rw [e] at hD
        refine ⟨D, _, rfl, SqL.of hD, ?_⟩
        have e2 : ((ss.zip r).map fun q => decide (0 ≤ q.1 * q.2)).all id = hasS ss r := by
          unfold hasS
          rw [List.all_map]
          rfl
        rw [e2]
        exact q _ sm
def spNoG : Sp := fun vs H Q _ => ∃ (a b : Addr) (r o : List Int) (n : Nat), vs = [.ref a, .ref b, .int (n : Int)] ∧ IntsAt H a r ∧ IntsAt H b o ∧ n ≤ r.length ∧ n ≤ o.length ∧ n ≤ 100 ∧ (noG r o n → Q (.bl true) H) ∧ (¬ noG r o n → Q (.bl false) H)
theorem ok_noG {f : Addr} {fd : FuncData} {k : Nat} (F : Fun K "is_no_greater" "is_no_greater" sNoGr f fd) (B : Bl mg) (mA : mg "abs" = none) : FnOk P w K mg base CX0 (k + 1) f fd ["row", "other", "many"] spNoG := by
  refine F.ok scNg (fun vs H Q E h => ?_) (fun cdv A outer s H vs Q E hr h => ?_)
  · obtain ⟨a, b, r, o, n, rfl, _⟩ := h
    rfl
  · obtain ⟨a, b, r, o, n, rfl, hA, hB, h1, h2, h3, q1, q2⟩ := h
    refine ⟨_, (pss_cons (ps_for PassesOwn.never rfl (pi_range1 (by rfl) B.range (pa_cons (pv 2) pa_nil)) (pg_name (i := 3) scNg.nd rfl (.inl rfl))
      (pss_one (ps_if (pt_cmpR op_gt (pe_callB call_abs (by rfl) mA (by decide +kernel) (pa_cons (pe_ix ix_tup (pv 0) (pv 3) (fun _ _ => rfl)) pa_nil)) (pe_callB call_abs (by rfl) mA (by decide +kernel) (pa_cons (pe_ix ix_tup (pv 1) (pv 3) (fun _ _ => rfl)) pa_nil)) (nomark _)) (pss_one (ps_ret pe_bl)) pss_nil)))
      (pss_one (ps_ret pe_bl))), ?_⟩
    refine ⟨.int (n : Int), rfl, (n : Int), rfl, by omega, by omega, ?_⟩
    refine for_range (lo := 0) (n := ((n : Nat) : Int).toNat) (fun i σ H' => (∃ y3, σ = [some (.ref a), some (.ref b), some (.int (n : Int)), y3]) ∧ H' = H ∧ noG r o i) ⟨⟨none, rfl⟩, rfl, fun j hj => by omega⟩ (fun i σ H1 hi hI => ?_) (fun σ H1 hI => ?_)
    · obtain ⟨⟨y3, rfl⟩, rfl, ng⟩ := hI
      have hi' : i < n := by omega
      have ez : (0 : Int) + (i : Nat) = ((i : Nat) : Int) := by omega
      rw [ez]
      have ga : atI (r.map V.int) ((i : Nat) : Int) = some (.int (r.getD i 0)) := atIT (by omega)
      have gb : atI (o.map V.int) ((i : Nat) : Int) = some (.int (o.getD i 0)) := atIT (by omega)
      refine ⟨.ref a, rfl, .int (i : Int), rfl, a, _, _, _, rfl, rfl, SqT.of hA, ga, _, rfl, .ref b, rfl, .int (i : Int), rfl, b, _, _, _, rfl, rfl, SqT.of hB, gb, _, rfl, _, _, rfl, rfl, _, rfl, ite2 (fun c => ?_) (fun c => ?_)⟩
      · refine q2 fun z => ?_
        have := z i hi'
        have c := of_decide_eq_true c
        omega
      · refine ⟨⟨_, rfl⟩, rfl, fun j hj => ?_⟩
        by_cases e : j = i
        · subst e
          refine Classical.byContradiction fun z => c (decide_eq_true ?_)
          omega
        · exact ng j (by omega)
    · obtain ⟨⟨y3, rfl⟩, rfl, ng⟩ := hI
      rw [Int.toNat_natCast] at ng
      exact q1 ng
end
end HL

set_option pp.maxSteps 3000
namespace HL
open PySem PySem.Spec PyProof.Rows L2
open C8 (pss_cut)
/-! ### what waits: a dict of lists of triples, beside all that stays -/
abbrev Tr := List Int × List Int
abbrev En := Int × Addr × List Tr
/-- the heap without the places that are written to -/
def cutM (M : List Addr) (H : Hp) : Hp := fun b => if b ∈ M then none else H b
theorem cut_le {M : List Addr} {H : Hp} : Same (cutM M H) H := fun b o e => by
  unfold cutM at e
  by_cases c : b ∈ M
  · rw [if_pos c] at e; cases e
  · rw [if_neg c] at e; exact e
theorem cut_of {M : List Addr} {H : Hp} {b : Addr} {o : HO} (n : b ∉ M) (e : H b = some o) : cutM M H b = some o := by
  unfold cutM
  rw [if_neg n]
  exact e
theorem cut_same {M : List Addr} {H H' : Hp} (s : Same H H') : Same (cutM M H) (cutM M H') := fun b o e => by
  unfold cutM at e ⊢
  by_cases c : b ∈ M
  · rw [if_pos c] at e; cases e
  · rw [if_neg c] at e ⊢; exact s _ _ e
theorem cut_upd {M : List Addr} {H : Hp} {m : Addr} {o : HO} (h : m ∈ M) : cutM M (upd H m o) = cutM M H := by
  funext b
  unfold cutM
  by_cases c : b ∈ M
  · rw [if_pos c, if_pos c]
  · rw [if_neg c, if_neg c, upd_ne (fun z => c (by rw [z]; exact h))]
theorem cut_more {M M' : List Addr} {H : Hp} (h : ∀ b, b ∈ M' → b ∈ M ∨ H b = none) : Same (cutM M H) (cutM M' H) := fun b o e => by
  unfold cutM at e ⊢
  by_cases c : b ∈ M
  · rw [if_pos c] at e; cases e
  · rw [if_neg c] at e
    by_cases c' : b ∈ M'
    · rcases h b c' with h | h
      · exact absurd h c
      · rw [h] at e; cases e
    · rw [if_neg c']
      exact e
def TrIn (F : Hp) (v : V) (q : Tr) : Prop := ∃ t a b : Addr, v = .ref t ∧ F t = some (.tup [.ref a, .ref b]) ∧ IntsAt F a q.1 ∧ IntsAt F b q.2
theorem TrIn.same {F F' : Hp} {v : V} {q : Tr} (h : TrIn F v q) (s : Same F F') : TrIn F' v q := by
  obtain ⟨t, a, b, h1, h2, h3, h4⟩ := h
  exact ⟨t, a, b, h1, s _ _ h2, h3.same s, h4.same s⟩
def Trs (F : Hp) (vs : List V) (qs : List Tr) : Prop := vs.length = qs.length ∧ ∀ (i : Nat) (v : V) (q : Tr), vs[i]? = some v → qs[i]? = some q → TrIn F v q
theorem Trs.same {F F' : Hp} {vs : List V} {qs : List Tr} (h : Trs F vs qs) (s : Same F F') : Trs F' vs qs := ⟨h.1, fun i v q a b => (h.2 i v q a b).same s⟩
theorem Trs.at {F : Hp} {vs : List V} {qs : List Tr} (h : Trs F vs qs) {i : Nat} {v : V} (e : vs[i]? = some v) : ∃ q, qs[i]? = some q ∧ TrIn F v q := by
  have hi : i < qs.length := by
    rw [← h.1]
    exact (List.getElem?_eq_some_iff.mp e).1
  exact ⟨qs[i], List.getElem?_eq_getElem hi, h.2 i v _ e (List.getElem?_eq_getElem hi)⟩
theorem Trs.more {F : Hp} {vs : List V} {qs : List Tr} {v : V} {q : Tr} (h : Trs F vs qs) (x : TrIn F v q) : Trs F (vs ++ [v]) (qs ++ [q]) := by
  refine ⟨by rw [List.length_append, List.length_append, h.1]; rfl, fun i v' s' e1 e2 => ?_⟩
  by_cases c : i < vs.length
  · rw [List.getElem?_append_left c] at e1
    rw [List.getElem?_append_left (by rw [← h.1]; exact c)] at e2
    exact h.2 i v' s' e1 e2
  · rw [List.getElem?_append_right (by omega)] at e1
    rw [List.getElem?_append_right (by rw [← h.1]; omega)] at e2
    rw [← h.1] at e2
    have hi : i - vs.length = 0 := by
      have := (List.getElem?_eq_some_iff.mp e1).1
      rw [List.length_singleton] at this
      omega
    rw [hi] at e1 e2
    cases e1
    cases e2
    exact x
def mt (d : Addr) (en : List En) (A : List Addr) : List Addr := d :: (en.map (·.2.1) ++ A)
def kvE (en : List En) : List (Key × V) := en.map fun e => (Sum.inl e.1, V.ref e.2.1)
def tot (en : List En) : List Tr := en.flatMap (·.2.2)
/-- each triple waits under its own key -/
def KO (ky : Tr → Int) (en : List En) : Prop := ∀ e ∈ en, ∀ q ∈ e.2.2, ky q = e.1
def NE (en : List En) : Prop := ∀ e ∈ en, e.2.2 ≠ []
structure WD (H : Hp) (A : List Addr) (d : Addr) (en : List En) : Prop where
  nd : (mt d en A).Nodup
  dict : H d = some (.dK (kvE en))
  keys : (en.map (·.1)).Nodup
  lists : ∀ e ∈ en, ∃ vs, H e.2.1 = some (.lst vs) ∧ Trs (cutM (mt d en A) H) vs e.2.2
  live : ∀ a ∈ A, ∃ us, H a = some (.lst us)
theorem WD.all {H : Hp} {A : List Addr} {d : Addr} {en : List En} (W : WD H A d en) : ∀ b ∈ mt d en A, ∃ o, H b = some o := fun b hb => by
  unfold mt at hb
  rcases List.mem_cons.mp hb with e | hb
  · rw [e]; exact ⟨_, W.dict⟩
  rcases List.mem_append.mp hb with hb | hb
  · obtain ⟨e, he, rfl⟩ := List.mem_map.mp hb
    obtain ⟨vs, h, _⟩ := W.lists e he
    exact ⟨_, h⟩
  · obtain ⟨us, h⟩ := W.live b hb
    exact ⟨_, h⟩
theorem WD.fresh {H : Hp} {A : List Addr} {d : Addr} {en : List En} (W : WD H A d en) {z : Addr} (n : H z = none) : z ∉ mt d en A := fun h => by
  obtain ⟨o, e⟩ := W.all z h
  rw [n] at e
  cases e
theorem WD.same {H H' : Hp} {A : List Addr} {d : Addr} {en : List En} (W : WD H A d en) (s : Same H H') : WD H' A d en where
  nd := W.nd
  dict := s _ _ W.dict
  keys := W.keys
  lists e he := by
    obtain ⟨vs, h, t⟩ := W.lists e he
    exact ⟨vs, s _ _ h, t.same (cut_same s)⟩
  live a ha := by
    obtain ⟨o, e⟩ := W.live a ha
    exact ⟨o, s _ _ e⟩
theorem val_kv {en : List En} {k : Int} {v : V} (h : valV (kvE en) (Sum.inl k : Key) = some v) : ∃ e ∈ en, e.1 = k ∧ v = .ref e.2.1 := by
  unfold valV at h
  cases f : (kvE en).find? (fun kv => decide (kv.1 = (Sum.inl k : Key))) with
  | none => rw [f] at h; cases h
  | some p =>
    rw [f] at h
    have hm := List.mem_of_find?_eq_some f
    have hp := List.find?_some f
    unfold kvE at hm
    obtain ⟨e, he, rfl⟩ := List.mem_map.mp hm
    refine ⟨e, he, ?_, (Option.some.inj h).symm⟩
    have : (Sum.inl e.1 : Key) = Sum.inl k := of_decide_eq_true hp
    exact Sum.inl.inj this
theorem tot_len {en : List En} : (tot en).length = (en.map fun e => e.2.2.length).sum := by
  unfold tot
  rw [List.length_flatMap]
theorem en_le {en : List En} (h : NE en) : en.length ≤ (tot en).length := by
  unfold tot
  induction en with
  | nil => exact Nat.le_refl _
  | cons e en ih =>
    rw [List.flatMap_cons, List.length_append, List.length_cons]
    have h1 := ih fun x hx => h x (List.mem_cons_of_mem _ hx)
    have h2 : 0 < e.2.2.length := List.length_pos_iff.mpr (h e List.mem_cons_self)
    omega
theorem WD.tup {H : Hp} {A : List Addr} {d : Addr} {en : List En} (W : WD H A d en) {p : Addr} {o : HO} (h : H p = some o) (h1 : ∀ us, o ≠ .lst us) (h2 : ∀ ks, o ≠ .dK ks) : p ∉ mt d en A := fun hb => by
  unfold mt at hb
  rcases List.mem_cons.mp hb with e | hb
  · rw [e, W.dict] at h
    exact h2 _ (Option.some.inj h).symm
  rcases List.mem_append.mp hb with hb | hb
  · obtain ⟨e, he, rfl⟩ := List.mem_map.mp hb
    obtain ⟨vs, h', _⟩ := W.lists e he
    rw [h'] at h
    exact h1 _ (Option.some.inj h).symm
  · obtain ⟨us, h'⟩ := W.live _ hb
    rw [h'] at h
    exact h1 _ (Option.some.inj h).symm
theorem WD.ints {H : Hp} {A : List Addr} {d : Addr} {en : List En} (W : WD H A d en) {p : Addr} {r : List Int} (h : IntsAt H p r) : IntsAt (cutM (mt d en A) H) p r := cut_of (W.tup h (fun _ z => by cases z) (fun _ z => by cases z)) h
theorem WD.rows {H : Hp} {A : List Addr} {d : Addr} {en : List En} (W : WD H A d en) {as : List Addr} {ll : List (List Int)} (h : Rows H as ll) : Rows (cutM (mt d en A) H) as ll := h.mono fun a xs e => cut_of (W.tup e (fun _ z => by cases z) (fun _ z => by cases z)) e
/-- the list beside the dict is written to -/
theorem WD.put {H : Hp} {a d : Addr} {en : List En} (W : WD H [a] d en) (us : List V) : WD (upd H a (.lst us)) [a] d en ∧ cutM (mt d en [a]) (upd H a (.lst us)) = cutM (mt d en [a]) H := by
  have ha : a ∈ mt d en [a] := by unfold mt; simp
  have nd := W.nd
  unfold mt at nd
  obtain ⟨n1, n2⟩ := List.nodup_cons.mp nd
  obtain ⟨n3, n4, n5⟩ := List.nodup_append.mp n2
  have ec := cut_upd (H := H) (o := .lst us) ha
  refine ⟨⟨W.nd, ?_, W.keys, ?_, ?_⟩, ec⟩
  · rw [upd_ne (fun z => n1 (List.mem_append_right _ (by rw [z]; exact List.mem_singleton.mpr rfl)))]
    exact W.dict
  · intro e he
    obtain ⟨vs, h1, h2⟩ := W.lists e he
    refine ⟨vs, ?_, by rw [ec]; exact h2⟩
    rw [upd_ne (fun z => n5 _ (List.mem_map_of_mem he) a (List.mem_singleton.mpr rfl) z)]
    exact h1
  · intro b hb
    rw [List.mem_singleton.mp hb]
    exact ⟨us, upd_same⟩
/-- another state of what waits: how the heap may have moved on -/
structure Mv (H : Hp) (A : List Addr) (d : Addr) (en : List En) (H' : Hp) (en' : List En) : Prop where
  wd : WD H' A d en'
  cut : Same (cutM (mt d en A) H) (cutM (mt d en' A) H')
  oth : ∀ a ∈ A, H' a = H a
theorem Mv.refl {H : Hp} {A : List Addr} {d : Addr} {en : List En} (W : WD H A d en) : Mv H A d en H en := ⟨W, Same.refl _, fun _ _ => rfl⟩
theorem Mv.trans {H H1 H2 : Hp} {A : List Addr} {d : Addr} {en en1 en2 : List En} (a : Mv H A d en H1 en1) (b : Mv H1 A d en1 H2 en2) : Mv H A d en H2 en2 := ⟨b.wd, a.cut.trans b.cut, fun x hx => (b.oth x hx).trans (a.oth x hx)⟩
theorem Mv.same {H H' : Hp} {A : List Addr} {d : Addr} {en : List En} (W : WD H A d en) (s : Same H H') : Mv H A d en H' en := ⟨W.same s, cut_same s, fun a ha => by
  obtain ⟨o, e⟩ := W.live a ha
  rw [e, s _ _ e]⟩
/-- one more triple waits -/
theorem add_some {H : Hp} {A : List Addr} {d : Addr} {en : List En} (W : WD H A d en) {e : En} (he : e ∈ en) {t x y : Addr} {q : Tr} (nt : H t = none) (hx : IntsAt (cutM (mt d en A) H) x q.1) (hy : IntsAt (cutM (mt d en A) H) y q.2) {vs : List V} (hv : H e.2.1 = some (.lst vs)) :
    ∃ en', Mv H A d en (upd (upd H t (.tup [.ref x, .ref y])) e.2.1 (.lst (vs ++ [.ref t]))) en' ∧ ((∀ e' ∈ en, e'.2.1 ≠ e.2.1 → e'.2.2 ≠ []) → NE en') ∧ (tot en').length = (tot en).length + 1 ∧ (∀ q', q' ∈ tot en' ↔ q' ∈ tot en ∨ q' = q) ∧ ∀ ky, KO ky en → ky q = e.1 → KO ky en' := by
  obtain ⟨en1, en2, rfl⟩ := List.append_of_mem he
  have s1 := same_new (o := .tup [V.ref x, .ref y]) nt
  have W1 := W.same s1
  generalize eH : upd H t (.tup [V.ref x, .ref y]) = H1 at s1 W1 ⊢
  have ht : H1 t = some (.tup [V.ref x, .ref y]) := by rw [← eH]; exact upd_same
  have emt : mt d (en1 ++ (e.1, e.2.1, e.2.2 ++ [q]) :: en2) A = mt d (en1 ++ e :: en2) A := by
    unfold mt
    simp
  have hl : e.2.1 ∈ mt d (en1 ++ e :: en2) A := by
    unfold mt
    simp
  have hcut : cutM (mt d (en1 ++ e :: en2) A) (upd H1 e.2.1 (.lst (vs ++ [.ref t]))) = cutM (mt d (en1 ++ e :: en2) A) H1 := cut_upd hl
  have sc := cut_same (M := mt d (en1 ++ e :: en2) A) s1
  have nd := W.nd
  have ndl : ∀ e' : En, e' ∈ en1 ∨ e' ∈ en2 → e'.2.1 ≠ e.2.1 := fun e' h z => by
    unfold mt at nd
    have n1 := (List.nodup_append.mp (List.nodup_cons.mp nd).2).1
    rw [List.map_append, List.map_cons] at n1
    obtain ⟨a1, a2, a3⟩ := List.nodup_append.mp n1
    rcases h with h | h
    · exact a3 _ (List.mem_map_of_mem h) _ List.mem_cons_self z
    · exact (List.nodup_cons.mp a2).1 (by rw [← z]; exact List.mem_map_of_mem h)
  have ndd : d ≠ e.2.1 := fun z => by
    unfold mt at nd
    exact (List.nodup_cons.mp nd).1 (by rw [z]; simp)
  have ndA : ∀ a ∈ A, a ≠ e.2.1 := fun a ha z => by
    unfold mt at nd
    have := (List.nodup_append.mp (List.nodup_cons.mp nd).2).2.2
    exact this _ (List.mem_map_of_mem (List.mem_append_right _ List.mem_cons_self)) _ ha z.symm
  refine ⟨en1 ++ (e.1, e.2.1, e.2.2 ++ [q]) :: en2, ⟨⟨by rw [emt]; exact nd, ?_, ?_, ?_, ?_⟩, ?_, ?_⟩, ?_, ?_, ?_, ?_⟩
  · rw [upd_ne ndd]
    have := W1.dict
    have ek : kvE (en1 ++ (e.1, e.2.1, e.2.2 ++ [q]) :: en2) = kvE (en1 ++ e :: en2) := by
      unfold kvE
      simp
    rw [ek]
    exact this
  · have := W.keys
    simpa using this
  · intro e' he'
    rw [emt, hcut]
    rcases List.mem_append.mp he' with h | h
    · obtain ⟨vs', h1, h2⟩ := W1.lists e' (List.mem_append_left _ h)
      exact ⟨vs', by rw [upd_ne (ndl e' (.inl h))]; exact h1, h2⟩
    · rcases List.mem_cons.mp h with h | h
      · subst h
        obtain ⟨vs', h1, h2⟩ := W1.lists e he
        have ev : vs' = vs := by
          rw [s1 _ _ hv] at h1
          cases h1
          rfl
        subst ev
        refine ⟨_, upd_same, h2.more ⟨t, x, y, rfl, ?_, hx.same sc, hy.same sc⟩⟩
        exact cut_of (W.fresh nt) ht
      · obtain ⟨vs', h1, h2⟩ := W1.lists e' (List.mem_append_right _ (List.mem_cons_of_mem _ h))
        exact ⟨vs', by rw [upd_ne (ndl e' (.inr h))]; exact h1, h2⟩
  · intro a ha
    obtain ⟨o, h⟩ := W1.live a ha
    exact ⟨o, by rw [upd_ne (ndA a ha)]; exact h⟩
  · rw [emt, hcut]
    exact sc
  · intro a ha
    obtain ⟨o, h⟩ := W.live a ha
    rw [upd_ne (ndA a ha), s1 _ _ h, h]
  · intro hne e' he'
    rcases List.mem_append.mp he' with h | h
    · exact hne e' (List.mem_append_left _ h) (ndl e' (.inl h))
    · rcases List.mem_cons.mp h with h | h
      · subst h
        simp
      · exact hne e' (List.mem_append_right _ (List.mem_cons_of_mem _ h)) (ndl e' (.inr h))
  · unfold tot
    simp
    omega
  · intro q'
    unfold tot
    simp only [List.mem_flatMap, List.mem_append, List.mem_cons]
    constructor
    · rintro ⟨e', h | h | h, hq⟩
      · exact .inl ⟨e', .inl h, hq⟩
      · subst h
        rcases List.mem_append.mp hq with hq | hq
        · exact .inl ⟨e, .inr (.inl rfl), hq⟩
        · exact .inr (List.mem_singleton.mp hq)
      · exact .inl ⟨e', .inr (.inr h), hq⟩
    · rintro (⟨e', h | h | h, hq⟩ | rfl)
      · exact ⟨e', .inl h, hq⟩
      · subst h
        exact ⟨_, .inr (.inl rfl), List.mem_append_left _ hq⟩
      · exact ⟨e', .inr (.inr h), hq⟩
      · exact ⟨_, .inr (.inl rfl), List.mem_append_right _ (List.mem_singleton.mpr rfl)⟩
  · intro ky hk hq e' he'
    rcases List.mem_append.mp he' with h | h
    · exact hk e' (List.mem_append_left _ h)
    · rcases List.mem_cons.mp h with h | h
      · subst h
        intro q' hq'
        rcases List.mem_append.mp hq' with c | c
        · exact hk e he q' c
        · rw [List.mem_singleton.mp c]
          exact hq
      · exact hk e' (List.mem_append_right _ (List.mem_cons_of_mem _ h))
theorem add_none {H : Hp} {A : List Addr} {d : Addr} {en : List En} (W : WD H A d en) {k : Int} (hk : valV (kvE en) (Sum.inl k : Key) = none) {z : Addr} (nz : H z = none) :
    Mv H A d en (upd (upd H z (.lst [])) d (.dK (putK (kvE en) (Sum.inl k) (.ref z)))) (en ++ [(k, z, [])]) := by
  have fz := W.fresh nz
  have nzd : z ≠ d := fun e => by rw [e, W.dict] at nz; cases nz
  have val : ∀ {b : Addr} {o : HO}, H b = some o → b ≠ d → (upd (upd H z (.lst [])) d (.dK (putK (kvE en) (Sum.inl k) (.ref z)))) b = some o := fun {b o} e hd => by
    have n1 := ne_of_none e nz
    rw [upd_ne hd, upd_ne n1]
    exact e
  have emt : mt d (en ++ [(k, z, [])]) A = d :: (en.map (·.2.1) ++ (z :: A)) := by
    unfold mt
    simp
  have inM : ∀ b, b ∈ mt d (en ++ [(k, z, [])]) A ↔ b ∈ mt d en A ∨ b = z := fun b => by
    rw [emt]
    unfold mt
    simp only [List.mem_cons, List.mem_append]
    constructor
    · rintro (h | h | h | h)
      · exact .inl (.inl h)
      · exact .inl (.inr (.inl h))
      · exact .inr h
      · exact .inl (.inr (.inr h))
    · rintro ((h | h | h) | h)
      · exact .inl h
      · exact .inr (.inl h)
      · exact .inr (.inr (.inr h))
      · exact .inr (.inr (.inl h))
  have sc : Same (cutM (mt d en A) H) (cutM (mt d (en ++ [(k, z, [])]) A) (upd (upd H z (.lst [])) d (.dK (putK (kvE en) (Sum.inl k) (.ref z))))) := fun b o e => by
    have hb : b ∉ mt d en A := fun h => by
      unfold cutM at e
      rw [if_pos h] at e
      cases e
    have e' := cut_le _ _ e
    have nbz := ne_of_none e' nz
    refine cut_of (fun h => ?_) (val e' fun hd => hb (by rw [hd]; unfold mt; exact List.mem_cons_self))
    rcases (inM b).mp h with h | h
    · exact hb h
    · exact nbz h
  have nd := W.nd
  have kn : k ∉ en.map (·.1) := fun h => by
    obtain ⟨e, he, hek⟩ := List.mem_map.mp h
    refine valV_not hk ?_
    unfold kvE
    rw [List.map_map]
    exact List.mem_map.mpr ⟨e, he, by show Sum.inl e.1 = _; rw [hek]⟩
  have nda : ∀ e ∈ en, e.2.1 ≠ d := fun e he z => by
    unfold mt at nd
    exact (List.nodup_cons.mp nd).1 (List.mem_append_left _ (by rw [← z]; exact List.mem_map_of_mem he))
  have ndA : ∀ a ∈ A, a ≠ d := fun a ha z => by
    unfold mt at nd
    exact (List.nodup_cons.mp nd).1 (List.mem_append_right _ (by rw [← z]; exact ha))
  refine ⟨⟨?_, ?_, ?_, ?_, ?_⟩, sc, ?_⟩
  · rw [emt]
    unfold mt at nd fz
    obtain ⟨n1, n2⟩ := List.nodup_cons.mp nd
    obtain ⟨n3, n4, n5⟩ := List.nodup_append.mp n2
    refine List.nodup_cons.mpr ⟨fun h => ?_, List.nodup_append.mpr ⟨n3, List.nodup_cons.mpr ⟨fun h => fz (List.mem_cons_of_mem _ (List.mem_append_right _ h)), n4⟩, fun a ha b hb => ?_⟩⟩
    · rcases List.mem_append.mp h with h | h
      · exact n1 (List.mem_append_left _ h)
      · rcases List.mem_cons.mp h with h | h
        · exact nzd h.symm
        · exact n1 (List.mem_append_right _ h)
    · rcases List.mem_cons.mp hb with h | h
      · intro e
        exact fz (List.mem_cons_of_mem _ (List.mem_append_left _ (by rw [← h, ← e]; exact ha)))
      · exact n5 a ha b h
  · rw [upd_same, putK_new _ hk]
    unfold kvE
    rw [List.map_append]
    rfl
  · rw [List.map_append]
    exact nd_snoc W.keys kn
  · intro e he
    rcases List.mem_append.mp he with h | h
    · obtain ⟨vs, h1, h2⟩ := W.lists e h
      exact ⟨vs, val h1 (nda e h), h2.same sc⟩
    · rw [List.mem_singleton.mp h]
      exact ⟨[], by rw [upd_ne nzd, upd_same], rfl, fun i v q' h1 => by simp at h1⟩
  · intro a ha
    obtain ⟨o, h⟩ := W.live a ha
    exact ⟨o, val h (ndA a ha)⟩
  · intro a ha
    obtain ⟨o, h⟩ := W.live a ha
    rw [val h (ndA a ha), h]
theorem app_setd {K : PySem.W.Frag} {H : Hp} {A : List Addr} {d : Addr} {en : List En} {i : Nat} {ty : TE} {ta : TA} {σ : L2.St} {Q : VK} {kk : Int} (W : WD H A d en) (N : NE en) (hi : σ[i]? = some (some (.ref d))) (hy : ∀ QQ : VK, QQ (.int kk) H → ty σ H QQ) (hz : (tot en).length < sizeLine)
    (h : ∀ (l : Addr) (vs : List V) (H4 : Hp), H4 l = some (.lst vs) → vs.length ≤ (tot en).length → Same (cutM (mt d en A) H) H4 → (∀ (H5 : Hp) (t x y : Addr) (q : Tr), Same H4 H5 → H5 t = none → IntsAt H5 x q.1 → IntsAt H5 y q.2 →
      ∃ en', Mv H A d en (upd (upd H5 t (.tup [.ref x, .ref y])) l (.lst (vs ++ [.ref t]))) en' ∧ NE en' ∧ (tot en').length = (tot en).length + 1 ∧ (∀ q', q' ∈ tot en' ↔ q' ∈ tot en ∨ q' = q) ∧ ∀ ky, KO ky en → ky q = kk → KO ky en') → ta σ H4 fun xs H5 => rAppend (.ref l) xs H5 Q) :
    tBM K "list" rAppend (tDSetd (tVar i) ty (tLst tNil)) ta σ H Q := by
  refine ⟨.ref d, hi, d, rfl, .inl ⟨_, .inl W.dict⟩, hy _ ⟨Nat.zero_le _, fun z nz => ?_⟩⟩
  have s1 := same_new (o := .lst []) nz
  have nzd : z ≠ d := fun e => by rw [e, W.dict] at nz; cases nz
  refine ⟨kvE en, Sum.inl kk, s1 _ _ W.dict, rfl, ?_, fun v hv => ?_, fun hv => ?_⟩
  · have := en_le N
    unfold kvE
    rw [List.length_map]
    omega
  · obtain ⟨e, he, hek, rfl⟩ := val_kv hv
    obtain ⟨vs, h1, h2⟩ := W.lists e he
    refine ⟨.inl ⟨rfl, _, SqL.of (s1 _ _ h1)⟩, h e.2.1 vs _ (s1 _ _ h1) ?_ (cut_le.trans s1) fun H5 t x y q s5 nt hx hy => ?_⟩
    · rw [h2.1]
      obtain ⟨a, b, rfl⟩ := List.append_of_mem he
      unfold tot
      simp
      omega
    · have M1 := Mv.same W (s1.trans s5)
      have W5 := M1.wd
      obtain ⟨en', m, l0, l1, l2, l3⟩ := add_some W5 he nt (W5.ints hx) (W5.ints hy) (s5 _ _ (s1 _ _ h1))
      exact ⟨en', M1.trans m, l0 (fun e' he' _ => N e' he'), l1, l2, fun ky a b => l3 ky a (b.trans hek.symm)⟩
  · have M1 := add_none W hv nz
    refine ⟨.inl ⟨rfl, _, SqL.of (show _ = some (HO.lst []) by rw [upd_ne nzd, upd_same])⟩, h z [] _ (by rw [upd_ne nzd, upd_same]) (Nat.zero_le _) (M1.cut.trans cut_le) fun H5 t x y q s5 nt hx hy => ?_⟩
    have M2 := M1.trans (Mv.same M1.wd s5)
    have W5 := M2.wd
    have he : ((kk, z, []) : En) ∈ en ++ [(kk, z, [])] := List.mem_append_right _ (List.mem_singleton.mpr rfl)
    obtain ⟨en', m, l0, l1, l2, l3⟩ := add_some W5 he nt (W5.ints hx) (W5.ints hy) (s5 _ _ (show _ = some (HO.lst []) by rw [upd_ne nzd, upd_same]))
    have et : tot (en ++ [(kk, z, [])]) = tot en := by
      unfold tot
      simp
    rw [et] at l1
    refine ⟨en', M2.trans m, l0 (fun e' he' hne => ?_), l1, fun q' => by rw [l2 q', et], fun ky a b => l3 ky (fun e' he' => by
      rcases List.mem_append.mp he' with h | h
      · exact a e' h
      · rw [List.mem_singleton.mp h]
        intro q' hq'
        cases hq') b⟩
    rcases List.mem_append.mp he' with h' | h'
    · exact N e' h'
    · rw [List.mem_singleton.mp h'] at hne
      exact absurd rfl hne
/-- what is popped: its list stays, and may be read -/
theorem pop_key {H : Hp} {A : List Addr} {d : Addr} {en : List En} (W : WD H A d en) (N : NE en) {k : Int} (hk : k ∈ en.map (·.1)) :
    ∃ (e : En) (en' : List En) (vs : List V), valV (kvE en) (Sum.inl k : Key) = some (.ref e.2.1) ∧ Mv H A d en (upd H d (.dK (dropK (kvE en) (Sum.inl k)))) en' ∧ (upd H d (.dK (dropK (kvE en) (Sum.inl k)))) e.2.1 = some (.lst vs) ∧ e.2.1 ∉ mt d en' A ∧ Trs (cutM (mt d en' A) (upd H d (.dK (dropK (kvE en) (Sum.inl k))))) vs e.2.2 ∧ e.2.2 ≠ [] ∧ NE en' ∧
      (tot en').length + e.2.2.length = (tot en).length ∧ (∀ q, q ∈ tot en ↔ q ∈ tot en' ∨ q ∈ e.2.2) ∧ e ∈ en ∧ e.1 = k ∧ ∀ x ∈ en', x ∈ en := by
  obtain ⟨e, he, rfl⟩ := List.mem_map.mp hk
  obtain ⟨en1, en2, rfl⟩ := List.append_of_mem he
  have nd := W.nd
  have kn := W.keys
  rw [List.map_append, List.map_cons] at kn
  obtain ⟨k1, k2, k3⟩ := List.nodup_append.mp kn
  have kn1 : ∀ e' ∈ en1, e'.1 ≠ e.1 := fun e' h => k3 _ (List.mem_map_of_mem h) _ List.mem_cons_self
  have kn2 : ∀ e' ∈ en2, e'.1 ≠ e.1 := fun e' h z => (List.nodup_cons.mp k2).1 (by rw [← z]; exact List.mem_map_of_mem h)
  have ev : valV (kvE (en1 ++ e :: en2)) (Sum.inl e.1 : Key) = some (.ref e.2.1) := by
    cases h : valV (kvE (en1 ++ e :: en2)) (Sum.inl e.1 : Key) with
    | none =>
      exfalso
      refine valV_not h ?_
      unfold kvE
      rw [List.map_map]
      exact List.mem_map.mpr ⟨e, he, rfl⟩
    | some v =>
      obtain ⟨e', he', h1, rfl⟩ := val_kv h
      rcases List.mem_append.mp he' with h' | h'
      · exact absurd h1 (kn1 e' h')
      · rcases List.mem_cons.mp h' with h' | h'
        · rw [h']
        · exact absurd h1 (kn2 e' h')
  have ed : dropK (kvE (en1 ++ e :: en2)) (Sum.inl e.1 : Key) = kvE (en1 ++ en2) := by
    unfold dropK kvE
    rw [List.map_append, List.map_cons, List.filter_append, List.filter_cons, if_neg (by simp), List.map_append]
    congr 1
    · exact List.filter_eq_self.mpr fun p hp => by
        obtain ⟨e', he', rfl⟩ := List.mem_map.mp hp
        exact decide_eq_true fun z => kn1 e' he' (Sum.inl.inj z)
    · exact List.filter_eq_self.mpr fun p hp => by
        obtain ⟨e', he', rfl⟩ := List.mem_map.mp hp
        exact decide_eq_true fun z => kn2 e' he' (Sum.inl.inj z)
  have subM : ∀ b, b ∈ mt d (en1 ++ en2) A → b ∈ mt d (en1 ++ e :: en2) A := fun b hb => by
    unfold mt at hb ⊢
    simp only [List.mem_cons, List.mem_append, List.map_append, List.map_cons] at hb ⊢
    rcases hb with h | (h | h) | h
    · exact .inl h
    · exact .inr (.inl (.inl h))
    · exact .inr (.inl (.inr (.inr h)))
    · exact .inr (.inr h)
  have neM : e.2.1 ∉ mt d (en1 ++ en2) A := fun h => by
    unfold mt at nd h
    obtain ⟨n1, n2⟩ := List.nodup_cons.mp nd
    obtain ⟨n3, n4, n5⟩ := List.nodup_append.mp n2
    rcases List.mem_cons.mp h with h | h
    · exact n1 (by rw [← h]; simp)
    · rcases List.mem_append.mp h with h | h
      · rw [List.map_append, List.map_cons] at n3
        obtain ⟨m1, m2, m3⟩ := List.nodup_append.mp n3
        rw [List.map_append] at h
        rcases List.mem_append.mp h with h | h
        · exact m3 _ h _ List.mem_cons_self rfl
        · exact (List.nodup_cons.mp m2).1 h
      · exact n5 e.2.1 (by simp) e.2.1 h rfl
  have ned : e.2.1 ≠ d := fun z => neM (by rw [z]; unfold mt; exact List.mem_cons_self)
  have dM : d ∈ mt d (en1 ++ en2) A := by unfold mt; exact List.mem_cons_self
  have sc : Same (cutM (mt d (en1 ++ e :: en2) A) H) (cutM (mt d (en1 ++ en2) A) (upd H d (.dK (dropK (kvE (en1 ++ e :: en2)) (Sum.inl e.1))))) := by
    rw [cut_upd dM]
    exact cut_more fun b hb => .inl (subM b hb)
  have nda : ∀ e' ∈ en1 ++ e :: en2, e'.2.1 ≠ d := fun e' he' z => by
    unfold mt at nd
    exact (List.nodup_cons.mp nd).1 (List.mem_append_left _ (by rw [← z]; exact List.mem_map_of_mem he'))
  have ndA : ∀ a ∈ A, a ≠ d := fun a ha z => by
    unfold mt at nd
    exact (List.nodup_cons.mp nd).1 (List.mem_append_right _ (by rw [← z]; exact ha))
  have sub2 : ∀ e', e' ∈ en1 ++ en2 → e' ∈ en1 ++ e :: en2 := fun e' h => by
    rcases List.mem_append.mp h with h | h
    · exact List.mem_append_left _ h
    · exact List.mem_append_right _ (List.mem_cons_of_mem _ h)
  obtain ⟨vs, hv1, hv2⟩ := W.lists e he
  refine ⟨e, en1 ++ en2, vs, ev, ⟨⟨?_, ?_, ?_, ?_, ?_⟩, sc, ?_⟩, by rw [upd_ne ned]; exact hv1, neM, hv2.same sc, N e he, fun e' he' => N e' (sub2 e' he'), ?_, ?_, he, rfl, sub2⟩
  · unfold mt at nd ⊢
    refine List.Nodup.sublist ?_ nd
    refine List.Sublist.cons₂ _ (List.Sublist.append ?_ (List.Sublist.refl _))
    rw [List.map_append, List.map_append, List.map_cons]
    exact List.Sublist.append (List.Sublist.refl _) (List.sublist_cons_self _ _)
  · rw [upd_same, ed]
  · have := W.keys
    refine List.Nodup.sublist ?_ this
    rw [List.map_append, List.map_append, List.map_cons]
    exact List.Sublist.append (List.Sublist.refl _) (List.sublist_cons_self _ _)
  · intro e' he'
    obtain ⟨vs', h1, h2⟩ := W.lists e' (sub2 e' he')
    exact ⟨vs', by rw [upd_ne (nda e' (sub2 e' he'))]; exact h1, h2.same sc⟩
  · intro a ha
    obtain ⟨o, h⟩ := W.live a ha
    exact ⟨o, by rw [upd_ne (ndA a ha)]; exact h⟩
  · intro a ha
    rw [upd_ne (ndA a ha)]
  · unfold tot
    simp
    omega
  · intro q
    unfold tot
    simp only [List.mem_flatMap, List.mem_append, List.mem_cons]
    constructor
    · rintro ⟨e', h | h | h, hq⟩
      · exact .inl ⟨e', .inl h, hq⟩
      · subst h
        exact .inr hq
      · exact .inl ⟨e', .inr h, hq⟩
    · rintro (⟨e', h | h, hq⟩ | hq)
      · exact ⟨e', .inl h, hq⟩
      · exact ⟨e', .inr (.inr h), hq⟩
      · exact ⟨e, .inr (.inl rfl), hq⟩
end HL

set_option pp.maxSteps 2000
namespace HL
open PySem PySem.Spec PyProof.Rows L2
open C8 (pss_cut)
abbrev sLetIn : Stmt := topS 39
abbrev sIsNew : Stmt := topS 41
abbrev sTrim : Stmt := topS 42
abbrev NLi : List Str := ["row", "place", "sides", "waiting", "size", "sign", "further", "other", "number"]
theorem scLi : FnScope NLi ["row", "place", "sides", "waiting"] (defScope sLetIn) := ⟨rfl, rfl, rfl, by decide +kernel, rfl, by decide +kernel, by decide +kernel⟩
/-! ### rows as vectors, sizes -/
def vz (r : List Int) : BL.Vec := fun i => r.getD i 0
abbrev szR (p : Nat) (r : List Int) : Nat := GR.sz p (vz r)
def absL (r : List Int) : List Int := r.map fun x => if x < 0 then -x else x
theorem absL_sum {r : List Int} : ∀ {p : Nat}, p ≤ r.length → (absL (r.take p)).sum = (szR p r : Nat)
  | 0, _ => rfl
  | p + 1, h => by
    have ih := absL_sum (r := r) (p := p) (by omega)
    have hx : r[p]? = some (r.getD p 0) := by
      rw [List.getD_eq_getElem?_getD, List.getElem?_eq_getElem (show p < r.length by omega)]
      rfl
    rw [List.take_add_one, hx]
    unfold absL at ih ⊢
    rw [List.map_append, List.sum_append, ih]
    show ((GR.sz p (vz r) : Nat) : Int) + _ = ((GR.sz p (vz r) + (vz r p).natAbs : Nat) : Int)
    have e : vz r p = r.getD p 0 := rfl
    rw [e]
    generalize r.getD p 0 = x
    show _ + ([x].map fun x => if x < 0 then -x else x).sum = _
    have e2 : ([x].map fun x : Int => if x < 0 then -x else x).sum = if x < 0 then -x else x := by simp
    rw [e2]
    split <;> omega
/-! ### the sides of a place -/
abbrev Sd := Nat × List Int
def SdIn (F : Hp) (v : V) (q : Sd) : Prop := ∃ t r : Addr, v = .ref t ∧ F t = some (.tup [.int (q.1 : Nat), .ref r]) ∧ IntsAt F r q.2
theorem SdIn.same {F F' : Hp} {v : V} {q : Sd} (h : SdIn F v q) (s : Same F F') : SdIn F' v q := by
  obtain ⟨t, r, h1, h2, h3⟩ := h
  exact ⟨t, r, h1, s _ _ h2, h3.same s⟩
def Sds (F : Hp) (vs : List V) (qs : List Sd) : Prop := vs.length = qs.length ∧ ∀ (i : Nat) (v : V) (q : Sd), vs[i]? = some v → qs[i]? = some q → SdIn F v q
theorem Sds.same {F F' : Hp} {vs : List V} {qs : List Sd} (h : Sds F vs qs) (s : Same F F') : Sds F' vs qs := ⟨h.1, fun i v q a b => (h.2 i v q a b).same s⟩
theorem Sds.at {F : Hp} {vs : List V} {qs : List Sd} (h : Sds F vs qs) {i : Nat} {v : V} (e : vs[i]? = some v) : ∃ q, qs[i]? = some q ∧ SdIn F v q := by
  have hi : i < qs.length := by
    rw [← h.1]
    exact (List.getElem?_eq_some_iff.mp e).1
  exact ⟨qs[i], List.getElem?_eq_getElem hi, h.2 i v _ e (List.getElem?_eq_getElem hi)⟩
theorem Sds.more {F : Hp} {vs : List V} {qs : List Sd} {v : V} {q : Sd} (h : Sds F vs qs) (x : SdIn F v q) : Sds F (vs ++ [v]) (qs ++ [q]) := by
  refine ⟨by rw [List.length_append, List.length_append, h.1]; rfl, fun i v' s' e1 e2 => ?_⟩
  by_cases c : i < vs.length
  · rw [List.getElem?_append_left c] at e1
    rw [List.getElem?_append_left (by rw [← h.1]; exact c)] at e2
    exact h.2 i v' s' e1 e2
  · rw [List.getElem?_append_right (by omega)] at e1
    rw [List.getElem?_append_right (by rw [← h.1]; omega), ← h.1] at e2
    cases e : i - vs.length with
    | zero =>
      rw [e] at e1 e2
      cases Option.some.inj e1
      cases Option.some.inj e2
      exact x
    | succ n => rw [e] at e1; simp at e1
def Sg3 (σ : Int) : Prop := σ = -1 ∨ σ = 0 ∨ σ = 1
theorem sgn3 (n : Int) : Sg3 (sgnI n) := by
  unfold sgnI Sg3
  split
  · exact .inr (.inl rfl)
  · split
    · exact .inr (.inr rfl)
    · exact .inl rfl
abbrev A3 (la : Int → Addr) : List Addr := [la (-1), la 0, la 1]
theorem A3_mem {la : Int → Addr} {σ : Int} (h : Sg3 σ) : la σ ∈ A3 la := by
  rcases h with h | h | h <;> subst h <;> simp
def sdKv (la : Int → Addr) : List (Key × V) := [(Sum.inl (-1), .ref (la (-1))), (Sum.inl 0, .ref (la 0)), (Sum.inl 1, .ref (la 1))]
theorem sd_val {la : Int → Addr} {σ : Int} (h : Sg3 σ) : valV (sdKv la) (Sum.inl σ : Key) = some (.ref (la σ)) := by
  rcases h with h | h | h <;> subst h <;> rfl
structure CW (H : Hp) (la : Int → Addr) (d sd : Addr) (en : List En) (S : Int → List Sd) : Prop where
  wd : WD H (A3 la) d en
  ne : NE en
  sdc : cutM (mt d en (A3 la)) H sd = some (.dK (sdKv la))
  at_ : ∀ σ, Sg3 σ → ∃ vs, H (la σ) = some (.lst vs) ∧ Sds (cutM (mt d en (A3 la)) H) vs (S σ)
theorem CW.same {H H' : Hp} {la : Int → Addr} {d sd : Addr} {en : List En} {S : Int → List Sd} (c : CW H la d sd en S) (s : Same H H') : CW H' la d sd en S where
  wd := c.wd.same s
  ne := c.ne
  sdc := cut_same s _ _ c.sdc
  at_ σ h := by
    obtain ⟨vs, h1, h2⟩ := c.at_ σ h
    exact ⟨vs, s _ _ h1, h2.same (cut_same s)⟩
theorem CW.mv {H H' : Hp} {la : Int → Addr} {d sd : Addr} {en en' : List En} {S : Int → List Sd} (c : CW H la d sd en S) (m : Mv H (A3 la) d en H' en') (n : NE en') : CW H' la d sd en' S where
  wd := m.wd
  ne := n
  sdc := m.cut _ _ c.sdc
  at_ σ h := by
    obtain ⟨vs, h1, h2⟩ := c.at_ σ h
    exact ⟨vs, by rw [m.oth _ (A3_mem h)]; exact h1, h2.same m.cut⟩
/-- sides[σ] -/
theorem CW.get {H : Hp} {la : Int → Addr} {d sd : Addr} {en : List En} {S : Int → List Sd} (c : CW H la d sd en S) {σ : Int} (h : Sg3 σ) : DGet H sd (.int σ) (some (.ref (la σ))) :=
  .inl ⟨_, Sum.inl σ, .inl (cut_le _ _ c.sdc), rfl, (sd_val h).symm⟩
/-- one of the lists beside the dict is written to -/
theorem WD.putA {H : Hp} {A : List Addr} {a d : Addr} {en : List En} (W : WD H A d en) (hA : a ∈ A) (us : List V) : WD (upd H a (.lst us)) A d en ∧ cutM (mt d en A) (upd H a (.lst us)) = cutM (mt d en A) H := by
  have ha : a ∈ mt d en A := by unfold mt; simp [hA]
  have nd := W.nd
  unfold mt at nd
  obtain ⟨n1, n2⟩ := List.nodup_cons.mp nd
  obtain ⟨n3, n4, n5⟩ := List.nodup_append.mp n2
  have ec := cut_upd (H := H) (o := .lst us) ha
  refine ⟨⟨W.nd, ?_, W.keys, ?_, ?_⟩, ec⟩
  · rw [upd_ne (fun z => n1 (List.mem_append_right _ (by rw [z]; exact hA)))]
    exact W.dict
  · intro e he
    obtain ⟨vs, h1, h2⟩ := W.lists e he
    refine ⟨vs, ?_, by rw [ec]; exact h2⟩
    rw [upd_ne (fun z => n5 _ (List.mem_map_of_mem he) a hA z)]
    exact h1
  · intro b hb
    by_cases c : b = a
    · subst c
      exact ⟨us, upd_same⟩
    · obtain ⟨o, e⟩ := W.live b hb
      exact ⟨o, by rw [upd_ne c]; exact e⟩
/-- a row more on a side -/
theorem CW.put {H : Hp} {la : Int → Addr} {d sd : Addr} {en : List En} {S : Int → List Sd} (c : CW H la d sd en S) {σ : Int} (h : Sg3 σ) {vs : List V} {v : V} {q : Sd} (hv : H (la σ) = some (.lst vs)) (hs : Sds (cutM (mt d en (A3 la)) H) vs (S σ)) (hq : SdIn (cutM (mt d en (A3 la)) H) v q) :
    CW (upd H (la σ) (.lst (vs ++ [v]))) la d sd en (fun τ => if τ = σ then S σ ++ [q] else S τ) ∧ cutM (mt d en (A3 la)) (upd H (la σ) (.lst (vs ++ [v]))) = cutM (mt d en (A3 la)) H := by
  obtain ⟨w1, w2⟩ := c.wd.putA (A3_mem h) (vs ++ [v])
  refine ⟨⟨w1, c.ne, by rw [w2]; exact c.sdc, fun τ hτ => ?_⟩, w2⟩
  rw [w2]
  by_cases e : τ = σ
  · subst e
    rw [if_pos rfl]
    exact ⟨_, upd_same, hs.more hq⟩
  · rw [if_neg e]
    obtain ⟨us, h1, h2⟩ := c.at_ τ hτ
    refine ⟨us, ?_, h2⟩
    have nd := c.wd.nd
    unfold mt at nd
    have n5 := (List.nodup_append.mp (List.nodup_cons.mp nd).2).2.1
    have ne : la τ ≠ la σ := fun z => by
      simp at n5
      rcases hτ with a | a | a <;> rcases h with b | b | b <;> subst a <;> subst b <;> first | exact e rfl | exact n5.1.1 z | exact n5.1.2 z | exact n5.2 z | exact n5.1.1 z.symm | exact n5.1.2 z.symm | exact n5.2 z.symm
    rw [upd_ne ne]
    exact h1
section
variable {P : Program} {w : World} {K : PySem.W.Frag} {mg : Str → Option Value} {base : Heap}
/-- the sizes of a pair -/
def kyP (p : Nat) (q : Tr) : Int := ((szR p q.1 + szR p q.2 : Nat) : Int)
/-- each row of a side is told with its size -/
def SzOk (p : Nat) (S : Int → List Sd) : Prop := ∀ σ, Sg3 σ → ∀ q ∈ S σ, q.1 = szR p q.2
def spLetIn : Sp := fun vs H Q _ => ∃ (a : Addr) (p : Nat) (sd d : Addr) (la : Int → Addr) (en : List En) (S : Int → List Sd) (r : List Int), vs = [.ref a, .int (p : Int), .ref sd, .ref d] ∧ CW H la d sd en S ∧ IntsAt H a r ∧ p < r.length ∧ r.length ≤ 100 ∧ SzOk p S ∧
  (∀ σ, Sg3 σ → (S σ).length ≤ 6000) ∧ (tot en).length + 6000 < sizeLine ∧ KO (kyP p) en ∧
  ∀ H' en', CW H' la d sd en' (fun τ => if τ = sgnI (r.getD p 0) then S (sgnI (r.getD p 0)) ++ [(szR p r, r)] else S τ) → Same (cutM (mt d en (A3 la)) H) (cutM (mt d en' (A3 la)) H') → KO (kyP p) en' → (tot en').length ≤ (tot en).length + 6000 →
    (∀ q, q ∈ tot en' ↔ q ∈ tot en ∨ (sgnI (r.getD p 0) ≠ 0 ∧ ∃ o ∈ S (-sgnI (r.getD p 0)), q = (r, o.2))) → Q .non H'
theorem ok_letIn {f : Addr} {fd : FuncData} (F : Fun K "let_in" "let_in" sLetIn f fd) (B : Bl mg) (mA : mg "abs" = none) (CS : Cal P w K mg base CX0 1 "sign_of" ["number"] spSign) : FnOk P w K mg base CX0 2 f fd ["row", "place", "sides", "waiting"] spLetIn := by
  obtain ⟨fSo, fdSo, GSo, gSo, kSo, bSo⟩ := CS.ex
  refine F.ok scLi (fun vs H Q E h => ?_) (fun cdv A outer s H vs Q E hr h => ?_)
  · obtain ⟨a, p, sd, d, la, en, S, r, rfl, _⟩ := h
    rfl
  · obtain ⟨a, p, sd, d, la, en, S, r, rfl, C, hA, hp, hz, hsz, h6, ht, ko, q⟩ := h
    have hu := hu_of hr
    refine ⟨_, (pss_cons (ps_set (i := 4) scLi.nd rfl (.inl rfl) (pe_callB (cr_sum rfl) (by rfl) B.sum (by decide +kernel) (pa_cons (pe_lc (own := [("number", 8)]) (g := gName 8) (tt := tYes) rfl scLi.nd (pi_tup (pe_slice sl_tupA (pv 0) po_none (po_some (pv 1))))
        (blkOk_by (own := [("number", 8)]) (N := NLi) (sc := defScope sLetIn) (by decide +kernel)) (fun _ _ _ _ _ => pg_name (i := 8) scLi.nd rfl (Or.inl rfl)) (fun _ _ _ _ _ => pts_nil)
        (fun _ _ _ _ _ => (pe_callB call_abs (by rfl) mA (by decide +kernel) (pa_cons (pv 8) pa_nil)))) pa_nil)))
      (pss_cons (ps_set (i := 5) scLi.nd rfl (.inl rfl) (pe_call GSo (hr.mono (by decide)) (by rfl) gSo kSo bSo .nil pass0 (pa_cons (pe_ix ix_tup (pv 0) (pv 1) (fun _ _ => rfl)) pa_nil)))
      (pss_cut (ps_if (pt_cmpR op_ne (pv 5) pe_int (nomark _)) (pss_one (ps_for PassesOwn.never rfl (pi_list (pe_dget hu (pv 2) (pe_un un_neg (pv 5)) (fun _ _ => rfl))) (pg_tup rfl (pgs_cons (pg_name (i := 6) scLi.nd rfl (.inl rfl)) (pgs_cons (pg_name (i := 7) scLi.nd rfl (.inl rfl)) pgs_nil)))
      (pss_one (ps_expr (pe_bm PySem.F.plainAttrs_list PySem.F.slot_list_append PySem.F.type_list_append mt_append (pe_dsetd (pv 3) (pe_op op_add (pv 4) (pv 6)) (pe_lst pa_nil) ⟨rfl, rfl, rfl, rfl⟩) (pa_cons (pe_tup (pa_cons (pv 0) (pa_cons (pv 7) pa_nil))) pa_nil)))))) pss_nil)
      (pss_one (ps_expr (pe_bm PySem.F.plainAttrs_list PySem.F.slot_list_append PySem.F.type_list_append mt_append (pe_dget hu (pv 2) (pv 5) (fun _ _ => rfl)) (pa_cons (pe_tup (pa_cons (pv 4) (pa_cons (pv 0) pa_nil))) pa_nil))))))), ?_⟩
    -- its size
    refine ⟨.ref a, rfl, .int (p : Int), rfl, (p : Int), rfl, slice_read hA fun t H1 s1 h1 => ?_⟩
    rw [cut_to, ← List.map_take] at h1
    refine ⟨t, rfl, ⟨_, SqT.of h1⟩, fun D nD => ?_⟩
    refine lc_it (walk_tup (K := K) (a := t) (xs := (r.take p).map V.int)) (fun i H' => Same H1 H' ∧ H' D = some (.lst (((absL (r.take p)).take i).map V.int))) ⟨same_new nD, upd_same⟩ (fun i H' _ hP => SqT.of (hP.1 _ _ h1)) (fun i x H2 H3 hi ⟨sm, hD⟩ hy => ?_) (fun H2 ⟨s2, hD⟩ => ?_)
    · obtain ⟨rfl, hx⟩ := hy
      obtain ⟨n, hn, rfl⟩ : ∃ n, (r.take p)[i]? = some n ∧ x = V.int n := by
        rw [List.getElem?_map] at hx
        cases e : (r.take p)[i]? with
        | none => rw [e] at hx; cases hx
        | some n => rw [e] at hx; exact ⟨n, rfl, (Option.some.inj hx).symm⟩
      refine ⟨rfl, yes (iteT ⟨.int n, rfl, n, rfl, _, hD, ?_, same_late sm nD, ?_⟩)⟩
      · rw [List.length_map]
        have := List.length_take_le' i (absL (r.take p))
        have e : (absL (r.take p)).length ≤ r.length := by unfold absL; rw [List.length_map]; exact List.length_take_le' _ _
        exact small1000 (by omega)
      · have e : (absL (r.take p))[i]? = some (if n < 0 then -n else n) := by unfold absL; rw [List.getElem?_map, hn]; rfl
        rw [upd_same, List.take_add_one, e, List.map_append]
        rfl
    have el : ((r.take p).map V.int).length = (absL (r.take p)).length := by unfold absL; rw [List.length_map, List.length_map]
    rw [el, List.take_length] at hD
    refine ⟨D, _, rfl, SqL.of hD, ?_⟩
    rw [absL_sum (by omega)]
    have s12 := s1.trans s2
    have hA2 := hA.same s12
    have C2 := C.same s12
    have c02 := cut_same (M := mt d en (A3 la)) s12
    -- its sign
    refine ⟨.ref a, rfl, .int (p : Int), rfl, a, _, _, _, rfl, rfl, SqT.of hA2, atIT hp, _, rfl, ?_⟩
    generalize eσ : sgnI (r.getD p 0) = σ at q ⊢
    have h3 : Sg3 σ := by rw [← eσ]; exact sgn3 _
    have h3n : Sg3 (-σ) := by unfold Sg3 at h3 ⊢; omega
    -- the other side
    refine ⟨fun σ' H' => ∃ en', (∃ y6 y7, σ' = [some (.ref a), some (.int (p : Int)), some (.ref sd), some (.ref d), some (.int (szR p r : Nat)), some (.int σ), y6, y7, none]) ∧ CW H' la d sd en' S ∧ Same (cutM (mt d en (A3 la)) H) (cutM (mt d en' (A3 la)) H') ∧ KO (kyP p) en' ∧ (tot en').length ≤ (tot en).length + 6000 ∧ (∀ q, q ∈ tot en' ↔ q ∈ tot en ∨ (σ ≠ 0 ∧ ∃ o ∈ S (-σ), q = (r, o.2))), ?_, ?_⟩
    · refine ⟨.int σ, rfl, rfl, _, rfl, ite2 (fun c => ?_) (fun c => ?_)⟩
      · have hne : σ ≠ 0 := fun z => by
          rw [z, decide_eq_true rfl] at c
          cases c
        obtain ⟨us, hus, hSd⟩ := C2.at_ (-σ) h3n
        have h6' := h6 (-σ) h3n
        have husl := hSd.1
        refine ⟨.ref sd, rfl, .int σ, rfl, σ, rfl, sd, _, rfl, C2.get h3n, la (-σ), rfl, ⟨_, SqL.of hus⟩, ?_⟩
        refine for_list (K := K) (a := la (-σ)) (xs := us) (fun i σ' H' => ∃ en', (∃ y6 y7, σ' = [some (.ref a), some (.int (p : Int)), some (.ref sd), some (.ref d), some (.int (szR p r : Nat)), some (.int σ), y6, y7, none]) ∧ CW H' la d sd en' S ∧ H' (la (-σ)) = some (.lst us) ∧ Same (cutM (mt d en (A3 la)) H) (cutM (mt d en' (A3 la)) H') ∧ Sds (cutM (mt d en' (A3 la)) H') us (S (-σ)) ∧ KO (kyP p) en' ∧ (tot en').length ≤ (tot en).length + i ∧ (∀ q, q ∈ tot en' ↔ q ∈ tot en ∨ ∃ o ∈ (S (-σ)).take i, q = (r, o.2)))
          ⟨en, ⟨none, none, rfl⟩, C2, hus, c02, hSd, ko, Nat.le_refl _, fun q => ⟨.inl, fun h => h.elim id fun ⟨o, ho, _⟩ => by simp at ho⟩⟩ (fun i σ' H' _ hI => by
            obtain ⟨en', _, _, h, _⟩ := hI
            exact SqL.of h) (fun i x σ' H3 hx hI => ?_) (fun σ' H3 hI => ?_)
        · obtain ⟨en3, ⟨y6, y7, rfl⟩, C3, hus3, c03, hSd3, ko3, l3, m3⟩ := hI
          obtain ⟨o, ho, t2, ra, rfl, ht2, hra⟩ := hSd3.at hx
          have ht3 := cut_le _ _ ht2
          have hi2 : i < (S (-σ)).length := (List.getElem?_eq_some_iff.mp ho).1
          refine ⟨t2, _, rfl, SqT.of ht3, rfl, _, _, rfl, _, _, rfl, rfl, ?_⟩
          refine app_setd (kk := kyP p (r, o.2)) C3.wd C3.ne rfl (fun QQ hq => ⟨.int (szR p r : Nat), rfl, .int (o.1 : Nat), rfl, _, _, rfl, rfl, ?_⟩) (by omega) fun l vs H4 hl hvl sc4 add => ?_
          · rw [hsz (-σ) h3n o (List.mem_of_getElem? ho)]
            have e : ((szR p r : Nat) : Int) + ((szR p o.2 : Nat) : Int) = kyP p (r, o.2) := by
              show _ = ((szR p r + szR p o.2 : Nat) : Int)
              omega
            show QQ (.int (((szR p r : Nat) : Int) + ((szR p o.2 : Nat) : Int))) H3
            rw [e]
            exact hq
          · have xa : IntsAt H4 a r := (c03 _ _ (C.wd.ints hA)) |> sc4 _ _
            have xr : IntsAt H4 ra o.2 := sc4 _ _ hra
            refine ⟨.ref a, rfl, .ref ra, rfl, sz_2 _ _, fun t3 nt3 => ?_⟩
            obtain ⟨en', mv, N', l', m', o'⟩ := add H4 t3 a ra (r, o.2) (Same.refl _) nt3 xa xr
            refine ⟨l, vs, .ref t3, rfl, rfl, (same_new nt3) _ _ hl, by omega, ?_⟩
            refine ⟨en', ⟨_, _, rfl⟩, C3.mv mv N', ?_, c03.trans mv.cut, hSd3.same mv.cut, o' _ ko3 rfl, by omega, fun q' => ?_⟩
            · rw [mv.oth _ (A3_mem h3n)]
              exact hus3
            · rw [m' q', m3 q', List.take_add_one, ho]
              constructor
              · rintro ((h | ⟨o2, h, e⟩) | h)
                · exact .inl h
                · exact .inr ⟨o2, List.mem_append_left _ h, e⟩
                · exact .inr ⟨o, List.mem_append_right _ (List.mem_singleton.mpr rfl), h⟩
              · rintro (h | ⟨o2, h, e⟩)
                · exact .inl (.inl h)
                · rcases List.mem_append.mp h with h | h
                  · exact .inl (.inr ⟨o2, h, e⟩)
                  · have : o2 = o := List.mem_singleton.mp h
                    rw [this] at e
                    exact .inr e
        · obtain ⟨en3, ⟨y6, y7, rfl⟩, C3, hus3, c03, hSd3, ko3, l3, m3⟩ := hI
          refine ⟨en3, ⟨y6, y7, rfl⟩, C3, c03, ko3, by omega, fun q' => ?_⟩
          rw [m3 q', husl, List.take_length]
          exact ⟨fun h => h.imp id fun h => ⟨hne, h⟩, fun h => h.imp id fun h => h.2⟩
      · have hz0 : σ = 0 := by
          by_cases z : σ = 0
          · exact z
          · rw [decide_eq_false (fun y => z (V.int.inj y))] at c
            exact absurd rfl c
        exact ⟨en, ⟨none, none, rfl⟩, C2, c02, ko, by omega, fun q' => ⟨.inl, fun h => h.elim id fun h => absurd hz0 h.1⟩⟩
    rintro σ' H3 ⟨en3, ⟨y6, y7, rfl⟩, C3, c03, ko3, l3, m3⟩
    obtain ⟨us, hus, hSd⟩ := C3.at_ σ h3
    refine ⟨.ref sd, rfl, .int σ, rfl, sd, _, rfl, C3.get h3, .inl ⟨rfl, _, SqL.of hus⟩, .int (szR p r : Nat), rfl, .ref a, rfl, sz_2 _ _, fun t nt => ?_⟩
    have st := same_new (o := .tup [.int (szR p r : Nat), .ref a]) nt
    have C4 := C3.same st
    have hus4 := st _ _ hus
    have sc := cut_same (M := mt d en3 (A3 la)) st
    have ht4 : cutM (mt d en3 (A3 la)) (upd H3 t (.tup [.int (szR p r : Nat), .ref a])) t = some (.tup [.int (szR p r : Nat), .ref a]) := cut_of (C3.wd.fresh nt) upd_same
    have ha4 : IntsAt (cutM (mt d en3 (A3 la)) (upd H3 t (.tup [.int (szR p r : Nat), .ref a]))) a r := sc _ _ (c03 _ _ (C.wd.ints hA))
    obtain ⟨C5, e5⟩ := C4.put h3 (q := (szR p r, r)) hus4 (hSd.same sc) ⟨t, a, rfl, ht4, ha4⟩
    refine ⟨la σ, us, .ref t, rfl, rfl, hus4, ?_, ?_⟩
    · have := hSd.1
      have := h6 σ h3
      exact Nat.lt_of_le_of_lt (show us.length ≤ 6000 by omega) (by decide)
    · exact q _ en3 C5 (by rw [e5]; exact c03.trans sc) ko3 l3 m3
end
end HL

set_option pp.maxSteps 2000
namespace HL
open PySem PySem.Spec PyProof.Rows L2
open C8 (pss_cut)
theorem scNo : FnScope ["row", "number"] ["row"] (defScope sIsNought) := ⟨rfl, rfl, rfl, by decide +kernel, rfl, by decide +kernel, by decide +kernel⟩
abbrev NIn : List Str := ["row", "place", "sides", "sign", "side", "size", "other"]
theorem scIn : FnScope NIn ["row", "place", "sides"] (defScope sIsNew) := ⟨rfl, rfl, rfl, by decide +kernel, rfl, by decide +kernel, by decide +kernel⟩
theorem scTr : FnScope ["row", "place", "fresh"] ["row", "place", "fresh"] (defScope sTrim) := ⟨rfl, rfl, rfl, by decide +kernel, rfl, by decide +kernel, by decide +kernel⟩
section
variable {P : Program} {w : World} {K : PySem.W.Frag} {mg : Str → Option Value} {base : Heap}
def spNought : Sp := fun vs H Q _ => ∃ (a : Addr) (xs : List Int), vs = [.ref a] ∧ IntsAt H a xs ∧ xs.length ≤ 100 ∧ ∀ H', Same H H' → Q (.bl (zeroB xs)) H'
theorem ok_nought {f : Addr} {fd : FuncData} {k : Nat} (F : Fun K "is_nought" "is_nought" sIsNought f fd) (B : Bl mg) : FnOk P w K mg base CX0 (k + 1) f fd ["row"] spNought := by
  refine F.ok scNo (fun vs H Q E h => ?_) (fun cdv A outer s H vs Q E hr h => ?_)
  · obtain ⟨a, xs, rfl, _⟩ := h
    rfl
  · obtain ⟨a, xs, rfl, hA, hz, q⟩ := h
    refine ⟨_, (pss_one (ps_ret (pe_callB (cr_all rfl) (by rfl) B.all (by decide +kernel) (pa_cons (pe_lc (own := [("number", 1)]) (g := gName 1) (tt := tYes) rfl scNo.nd (pi_tup (pv 0))
        (blkOk_by (own := [("number", 1)]) (N := ["row", "number"]) (sc := defScope sIsNought) (by decide +kernel)) (fun _ _ _ _ _ => pg_name (i := 1) scNo.nd rfl (Or.inl rfl)) (fun _ _ _ _ _ => pts_nil)
        (fun _ _ _ _ _ => (pe_cmpR op_eq (pv 1) pe_int (nomark _)))) pa_nil)))), ?_⟩
    refine ⟨.ref a, rfl, a, rfl, ⟨_, SqT.of hA⟩, fun D nD => ?_⟩
    refine lc_tup (K := K) (a := a) (xs := xs.map V.int) (fun i H' => Same H H' ∧ H' D = some (.lst (((xs.take i).map fun n => decide (n = 0)).map V.bl))) ⟨same_new nD, upd_same⟩ (fun i H' _ hP => SqT.of (hA.same hP.1)) (fun i x H' hx ⟨sm, hD⟩ => ?_) (fun H' ⟨sm, hD⟩ => ?_)
    · obtain ⟨n, hn, rfl⟩ : ∃ n, xs[i]? = some n ∧ x = V.int n := by
        rw [List.getElem?_map] at hx
        cases e : xs[i]? with
        | none => rw [e] at hx; cases hx
        | some n => rw [e] at hx; exact ⟨n, rfl, (Option.some.inj hx).symm⟩
      refine ⟨rfl, yes (iteT ⟨.int n, rfl, rfl, _, hD, ?_, same_late sm nD, ?_⟩)⟩
      · rw [List.length_map, List.length_map]
        exact small1000 (Nat.le_trans (List.length_take_le' _ _) (by omega))
      · rw [upd_same, List.take_add_one, hn, List.map_append, List.map_append]
        have e : decide (V.int n = V.int 0) = decide (n = 0) := by
          by_cases c : n = 0
          · rw [decide_eq_true c, decide_eq_true (congrArg V.int c)]
          · rw [decide_eq_false c, decide_eq_false fun z => c (V.int.inj z)]
        show some (HO.lst (_ ++ [V.bl (decide (V.int n = V.int 0))])) = _
        rw [e]
        rfl
    · rw [List.length_map, List.take_length] at hD
      have := q H' sm
      unfold zeroB at this
      have e : (xs.map fun n => decide (n = 0)).all id = xs.all fun n => decide (n = 0) := by
        rw [List.all_map]
        rfl
      rw [← e] at this
      exact ⟨D, _, rfl, SqL.of hD, this⟩
/-- a row that no told one is within -/
def NewR (p : Nat) (S : Int → List Sd) (r : List Int) : Prop := GR.Nz (p + 1) (vz r) ∧ ∀ σ, σ = 0 ∨ σ = sgnI (r.getD p 0) → ∀ q ∈ S σ, ¬ noG q.2 r (p + 1)
theorem nz_take {r : List Int} {p : Nat} : zeroB (r.take (p + 1)) = true ↔ ¬ GR.Nz (p + 1) (vz r) := by
  rw [zeroB_iff]
  constructor
  · rintro h ⟨i, hi, hx⟩
    refine hx ?_
    show r.getD i 0 = 0
    rw [List.getD_eq_getElem?_getD]
    cases e : r[i]? with
    | none => rfl
    | some z => exact h z (List.mem_of_getElem? (i := i) (by rw [List.getElem?_take, if_pos hi]; exact e))
  · intro h n hn
    obtain ⟨i, hi, e⟩ := List.mem_iff_getElem.mp hn
    have e' := List.getElem?_eq_some_iff.mpr ⟨hi, e⟩
    rw [List.getElem?_take] at e'
    by_cases c : i < p + 1
    · rw [if_pos c] at e'
      refine Classical.byContradiction fun z => h ⟨i, c, ?_⟩
      show r.getD i 0 ≠ 0
      rw [List.getD_eq_getElem?_getD, e']
      exact z
    · rw [if_neg c] at e'
      cases e'
def spIsNew : Sp := fun vs H Q _ => ∃ (a : Addr) (p : Nat) (sd d : Addr) (la : Int → Addr) (en : List En) (S : Int → List Sd) (r : List Int), vs = [.ref a, .int (p : Int), .ref sd] ∧ CW H la d sd en S ∧ IntsAt H a r ∧ p < r.length ∧ r.length ≤ 100 ∧ (∀ σ, Sg3 σ → ∀ q ∈ S σ, q.2.length = r.length) ∧
  ∀ H', Same H H' → (NewR p S r → Q (.bl true) H') ∧ (¬ NewR p S r → Q (.bl false) H')
theorem ok_isNew {f : Addr} {fd : FuncData} (F : Fun K "is_new" "is_new" sIsNew f fd) (CN : Cal P w K mg base CX0 1 "is_nought" ["row"] spNought) (CS : Cal P w K mg base CX0 1 "sign_of" ["number"] spSign) (CG : Cal P w K mg base CX0 1 "is_no_greater" ["row", "other", "many"] spNoG) : FnOk P w K mg base CX0 2 f fd ["row", "place", "sides"] spIsNew := by
  obtain ⟨fNo, fdNo, GNo, gNo, kNo, bNo⟩ := CN.ex
  obtain ⟨fSo, fdSo, GSo, gSo, kSo, bSo⟩ := CS.ex
  obtain ⟨fNg, fdNg, GNg, gNg, kNg, bNg⟩ := CG.ex
  refine F.ok scIn (fun vs H Q E h => ?_) (fun cdv A outer s H vs Q E hr h => ?_)
  · obtain ⟨a, p, sd, d, la, en, S, r, rfl, _⟩ := h
    rfl
  · obtain ⟨a, p, sd, d, la, en, S, r, rfl, C, hA, hp, hz, hln, q⟩ := h
    have hu := hu_of hr
    refine ⟨_, (pss_cons (ps_if (pt_val (pe_call GNo (hr.mono (by decide)) (by rfl) gNo kNo bNo .nil pass0 (pa_cons (pe_slice sl_tupA (pv 0) po_none (po_some (pe_op op_add (pv 1) pe_int))) pa_nil))) (pss_one (ps_ret pe_bl)) pss_nil)
      (pss_cons (ps_set (i := 3) scIn.nd rfl (.inl rfl) (pe_call GSo (hr.mono (by decide)) (by rfl) gSo kSo bSo .nil pass0 (pa_cons (pe_ix ix_tup (pv 0) (pv 1) (fun _ _ => rfl)) pa_nil)))
      (pss_cons (ps_for PassesOwn.never rfl (pi_tup (pe_tup (pa_cons pe_int (pa_cons (pv 3) pa_nil)))) (pg_name (i := 4) scIn.nd rfl (.inl rfl))
      (pss_one (ps_for PassesOwn.never rfl (pi_list (pe_dget hu (pv 2) (pv 4) (fun _ _ => rfl))) (pg_tup rfl (pgs_cons (pg_name (i := 5) scIn.nd rfl (.inl rfl)) (pgs_cons (pg_name (i := 6) scIn.nd rfl (.inl rfl)) pgs_nil)))
      (pss_one (ps_if (pt_val (pe_call GNg (hr.mono (by decide)) (by rfl) gNg kNg bNg .nil pass0 (pa_cons (pv 6) (pa_cons (pv 0) (pa_cons (pe_op op_add (pv 1) pe_int) pa_nil))))) (pss_one (ps_ret pe_bl)) pss_nil)))))
      (pss_one (ps_ret pe_bl))))), ?_⟩
    refine ⟨.ref a, rfl, .int (p : Int), rfl, _, _, rfl, rfl, _, rfl, slice_read hA fun t H1 s1 h1 => ?_⟩
    have ep : (p : Int) + 1 = ((p + 1 : Nat) : Int) := by omega
    rw [ep, cut_to, ← List.map_take] at h1
    refine ⟨t, _, rfl, h1, by have := List.length_take_le' (p + 1) r; omega, fun H2 s2 => ⟨_, rfl, ite2 (fun c => ?_) (fun c => ?_)⟩⟩
    · exact (q H2 (s1.trans s2)).2 fun h => (nz_take.mp c) h.1
    · have nz : GR.Nz (p + 1) (vz r) := Classical.byContradiction fun z => c (nz_take.mpr z)
      have s12 := s1.trans s2
      have hA2 := hA.same s12
      refine ⟨.ref a, rfl, .int (p : Int), rfl, a, _, _, _, rfl, rfl, SqT.of hA2, atIT hp, _, rfl, ?_⟩
      generalize eσ : sgnI (r.getD p 0) = σ
      have h3 : Sg3 σ := by rw [← eσ]; exact sgn3 _
      refine ⟨.int σ, rfl, sz_2 _ _, fun tt ntt => ?_⟩
      have stt := same_new (o := .tup [.int 0, .int σ]) ntt
      have s3 := s12.trans stt
      refine ⟨tt, rfl, ⟨_, SqT.of upd_same⟩, ?_⟩
      have httH : (upd H2 tt (.tup [.int 0, .int σ])) tt = some (.tup [.int 0, .int σ]) := upd_same
      generalize upd H2 tt (.tup [.int 0, .int σ]) = H3 at stt s3 httH
      refine for_tup (K := K) (a := tt) (xs := [V.int 0, V.int σ]) (fun i σ' H' => (∃ y4 y5 y6, σ' = [some (.ref a), some (.int (p : Int)), some (.ref sd), some (.int σ), y4, y5, y6]) ∧ Same H3 H' ∧ ∀ τ, (τ = 0 ∧ 1 ≤ i) ∨ (τ = σ ∧ 2 ≤ i) → ∀ q ∈ S τ, ¬ noG q.2 r (p + 1)) ⟨⟨none, none, none, rfl⟩, Same.refl _, fun τ h => by omega⟩ (fun i σ' H' _ hI => SqT.of (hI.2.1 _ _ httH)) (fun i x σ' H4 hx hI => ?_) (fun σ' H4 hI => ?_)
      · obtain ⟨⟨y4, y5, y6, rfl⟩, s4, hno⟩ := hI
        obtain ⟨τ, rfl, hτ, hi⟩ : ∃ τ, x = .int τ ∧ Sg3 τ ∧ ((i = 0 ∧ τ = 0) ∨ (i = 1 ∧ τ = σ)) := by
          match i, hx with
          | 0, hx => exact ⟨0, (Option.some.inj hx).symm, .inr (.inl rfl), .inl ⟨rfl, rfl⟩⟩
          | 1, hx => exact ⟨σ, (Option.some.inj hx).symm, h3, .inr ⟨rfl, rfl⟩⟩
          | i + 2, hx => simp at hx
        have C4 := C.same (s3.trans s4)
        have hA4 := hA.same (s3.trans s4)
        obtain ⟨us, hus, hSd⟩ := C4.at_ τ hτ
        refine ⟨.ref sd, rfl, .int τ, rfl, sd, _, rfl, C4.get hτ, la τ, rfl, ⟨_, SqL.of hus⟩, ?_⟩
        refine for_list (K := K) (a := la τ) (xs := us) (fun j σ' H' => (∃ y5 y6, σ' = [some (.ref a), some (.int (p : Int)), some (.ref sd), some (.int σ), some (.int τ), y5, y6]) ∧ H' = H4 ∧ ∀ q ∈ (S τ).take j, ¬ noG q.2 r (p + 1)) ⟨⟨y5, y6, rfl⟩, rfl, fun q hq => by simp at hq⟩ (fun j σ' H' _ hI => by rw [hI.2.1]; exact SqL.of hus) (fun j x σ' H5 hx hI => ?_) (fun σ' H5 hI => ?_)
        · obtain ⟨⟨y5, y6, rfl⟩, rfl, hno2⟩ := hI
          obtain ⟨o, ho, t2, ra, rfl, ht2, hra⟩ := hSd.at hx
          have ol := hln τ hτ o (List.mem_of_getElem? ho)
          refine ⟨t2, _, rfl, SqT.of (cut_le _ _ ht2), rfl, _, _, rfl, _, _, rfl, rfl, ?_⟩
          refine ⟨.ref ra, rfl, .ref a, rfl, .int (p : Int), rfl, _, _, rfl, rfl, ra, a, o.2, r, p + 1, by rw [← ep]; rfl, cut_le _ _ hra, hA4, by omega, by omega, by omega, fun hn => ⟨_, rfl, iteT ?_⟩, fun hn => ⟨_, rfl, iteF ?_⟩⟩
          · refine (q H5 (s3.trans s4)).2 fun h => ?_
            refine h.2 τ ?_ o (List.mem_of_getElem? ho) hn
            rcases hi with ⟨_, h⟩ | ⟨_, h⟩
            · exact .inl h
            · exact .inr (by rw [h, eσ])
          · refine ⟨⟨_, _, rfl⟩, rfl, fun q hq => ?_⟩
            rw [List.take_add_one, ho] at hq
            rcases List.mem_append.mp hq with h | h
            · exact hno2 q h
            · rw [List.mem_singleton.mp h]
              exact hn
        · obtain ⟨⟨y5, y6, rfl⟩, rfl, hno2⟩ := hI
          rw [hSd.1, List.take_length] at hno2
          refine ⟨⟨_, _, _, rfl⟩, s4, fun τ' h q hq => ?_⟩
          by_cases e : τ' = τ
          · rw [e] at hq
            exact hno2 q hq
          · exact hno τ' (by omega) q hq
      · obtain ⟨⟨y4, y5, y6, rfl⟩, s4, hno⟩ := hI
        refine (q H4 (s3.trans s4)).1 ⟨nz, fun τ hτ => hno τ ?_⟩
        rw [eσ] at hτ
        exact hτ.imp (fun h => ⟨h, show 1 ≤ 2 by decide⟩) fun h => ⟨h, show 2 ≤ 2 by decide⟩
/-- less a fresh row, as often as makes it least at a place -/
def trimR (p : Nat) (f : Option (List Int)) (r : List Int) : List Int := match f with
  | none => r
  | some f => subR r f (sgnI (r.getD p 0) * (((r.getD p 0).natAbs : Int) / f.getD p 0))
def frV (H : Hp) (v : V) : Option (List Int) → Prop
  | none => v = .non
  | some f => ∃ c, v = .ref c ∧ IntsAt H c f
def spTrim : Sp := fun vs H Q _ => ∃ (a : Addr) (p : Nat) (v : V) (r : List Int) (f : Option (List Int)) (kb : Nat), vs = [.ref a, .int (p : Int), v] ∧ IntsAt H a r ∧ p < r.length ∧ r.length ≤ 100 ∧ frV H v f ∧ (∀ g, f = some g → g.length = r.length ∧ 0 < g.getD p 0 ∧ g.getD p 0 < 1000000 ∧ Ent (2 ^ kb) g) ∧ kb < 900000 ∧ -1000000 ≤ r.getD p 0 ∧ r.getD p 0 ≤ 1000000 ∧
  ∀ H' t, Same H H' → IntsAt H' t (trimR p f r) → Q (.ref t) H'
def CalLess16 (P : Program) (w : World) (K : PySem.W.Frag) (mg : Str → Option Value) (base : Heap) : Prop := ∃ (f : Addr) (fd : FuncData), FnOk P w K mg base CX0 1 f fd ["row", "other", "times"] spLess ∧ mg "less" = some (.ref f) ∧ PySem.W.keepIn K (.ref f) = true ∧ L2.Binds K fd ["row", "other", "times"] []
theorem ok_trim {f : Addr} {fd : FuncData} (F : Fun K "trimmed" "trimmed" sTrim f fd) (mA : mg "abs" = none) (CLe : CalLess16 P w K mg base) (CS : Cal P w K mg base CX0 1 "sign_of" ["number"] spSign) : FnOk P w K mg base CX0 2 f fd ["row", "place", "fresh"] spTrim := by
  obtain ⟨fLe, fdLe, GLe, gLe, kLe, bLe⟩ := CLe
  obtain ⟨fSo, fdSo, GSo, gSo, kSo, bSo⟩ := CS.ex
  refine F.ok scTr (fun vs H Q E h => ?_) (fun cdv A outer s H vs Q E hr h => ?_)
  · obtain ⟨a, p, v, r, f, kb, rfl, _⟩ := h
    rfl
  · obtain ⟨a, p, v, r, f, kb, rfl, hA, hp, hz, hf, hg, hkb, r0, r1, q⟩ := h
    refine ⟨_, (pss_cons (ps_if (pt_cmpR op_isN (pv 2) pe_non (nomark _)) (pss_one (ps_ret (pv 0))) pss_nil)
      (pss_one (ps_ret (pe_call GLe (hr.mono (by decide)) (by rfl) gLe kLe bLe .nil pass0 (pa_cons (pv 0) (pa_cons (pv 2) (pa_cons (pe_op op_mul (pe_call GSo (hr.mono (by decide)) (by rfl) gSo kSo bSo .nil pass0 (pa_cons (pe_ix ix_tup (pv 0) (pv 1) (fun _ _ => rfl)) pa_nil)) (pe_op op_fdiv (pe_callB call_abs (by rfl) mA (by decide +kernel) (pa_cons (pe_ix ix_tup (pv 0) (pv 1) (fun _ _ => rfl)) pa_nil)) (pe_ix ix_tup (pv 2) (pv 1) (fun _ _ => rfl)))) pa_nil))))))), ?_⟩
    cases f with
    | none =>
      have hv : v = .non := hf
      subst hv
      exact ⟨.non, rfl, rfl, _, rfl, iteT ⟨.ref a, rfl, q H a (Same.refl _) hA⟩⟩
    | some g =>
      obtain ⟨c, rfl, hc⟩ := hf
      obtain ⟨g1, g2, g3, g4⟩ := hg g rfl
      refine ⟨.ref c, rfl, rfl, _, rfl, iteF ?_⟩
      refine ⟨.ref a, rfl, .ref c, rfl, .ref a, rfl, .int (p : Int), rfl, a, _, _, _, rfl, rfl, SqT.of hA, atIT hp, _, rfl, .ref a, rfl, .int (p : Int), rfl, a, _, _, _, rfl, rfl, SqT.of hA, atIT hp, _, rfl, .ref c, rfl, .int (p : Int), rfl, c, _, _, _, rfl, rfl, SqT.of hc, atIT (by omega), _, _, rfl, rfl, ⟨g2, by omega⟩, _, _, rfl, rfl, ?_, ?_⟩
      · refine .inl ?_
        have := sgn3 (r.getD p 0)
        unfold Sg3 at this
        omega
      · have eabs : (if r.getD p 0 < 0 then -r.getD p 0 else r.getD p 0) = ((r.getD p 0).natAbs : Int) := by split <;> omega
        have hq0 : 0 ≤ ((r.getD p 0).natAbs : Int) / g.getD p 0 := Int.ediv_nonneg (by omega) (by omega)
        have hq1 : ((r.getD p 0).natAbs : Int) / g.getD p 0 ≤ 1000000 := Int.le_trans (Int.ediv_le_self _ (by omega)) (by omega)
        refine ⟨a, c, r, g, _, 20, kb, rfl, hA, hc, g1.symm, hz, ?_, g4, by omega, fun H' t s ht => q H' t s ?_⟩
        · show -(2 : Int) ^ 20 ≤ sgnI (r.getD p 0) * ((if r.getD p 0 < 0 then -r.getD p 0 else r.getD p 0) / g.getD p 0) ∧ sgnI (r.getD p 0) * ((if r.getD p 0 < 0 then -r.getD p 0 else r.getD p 0) / g.getD p 0) ≤ (2 : Int) ^ 20
          rw [eabs]
          generalize ((r.getD p 0).natAbs : Int) / g.getD p 0 = x at hq0 hq1
          have e20 : (2 : Int) ^ 20 = 1048576 := by decide
          rw [e20]
          rcases sgn3 (r.getD p 0) with h | h | h <;> rw [h] <;> omega
        · unfold trimR
          have ht' : IntsAt H' t (subR r g (sgnI (r.getD p 0) * ((if r.getD p 0 < 0 then -r.getD p 0 else r.getD p 0) / g.getD p 0))) := ht
          rw [eabs] at ht'
          exact ht'
end
end HL

set_option pp.maxSteps 2000
namespace HL
open PySem PySem.Spec PyProof.Rows L2
open GR (Sys Least Nz EqP Cf Orth Sgn Han Latt pairT trimC)
/-! ### what is kept while rows are completed -/
def InR (S : Int → List Sd) (r : List Int) : Prop := ∃ σ, Sg3 σ ∧ ∃ q ∈ S σ, q.2 = r
def InV (S : Int → List Sd) (x : BL.Vec) : Prop := ∃ r, InR S r ∧ vz r = x
def allS (S : Int → List Sd) : List (List Int) := (S (-1) ++ (S 0 ++ S 1)).map (·.2)
theorem allS_mem {S : Int → List Sd} {r : List Int} : r ∈ allS S ↔ InR S r := by
  unfold allS InR
  rw [List.mem_map]
  constructor
  · rintro ⟨q, hq, rfl⟩
    rcases List.mem_append.mp hq with h | h
    · exact ⟨-1, .inl rfl, q, h, rfl⟩
    · rcases List.mem_append.mp h with h | h
      · exact ⟨0, .inr (.inl rfl), q, h, rfl⟩
      · exact ⟨1, .inr (.inr rfl), q, h, rfl⟩
  · rintro ⟨σ, hσ, q, hq, rfl⟩
    refine ⟨q, ?_, rfl⟩
    rcases hσ with h | h | h <;> subst h
    · exact List.mem_append_left _ hq
    · exact List.mem_append_right _ (List.mem_append_left _ hq)
    · exact List.mem_append_right _ (List.mem_append_right _ hq)
theorem side_le {S : Int → List Sd} {σ : Int} (h : Sg3 σ) : (S σ).length ≤ (allS S).length := by
  unfold allS
  rw [List.length_map, List.length_append, List.length_append]
  rcases h with h | h | h <;> subst h <;> omega
abbrev addS (S : Int → List Sd) (σ : Int) (q : Sd) : Int → List Sd := fun τ => if τ = σ then S σ ++ [q] else S τ
theorem addS_perm {S : Int → List Sd} {σ : Int} {q : Sd} (h : Sg3 σ) : (allS (addS S σ q)).Perm (q.2 :: allS S) := by
  unfold allS
  show List.Perm _ ((q :: (S (-1) ++ (S 0 ++ S 1))).map (·.2))
  refine List.Perm.map _ ?_
  rcases h with h | h | h <;> subst h
  · show List.Perm ((S (-1) ++ [q]) ++ (S 0 ++ S 1)) _
    rw [List.append_assoc]
    exact List.perm_middle
  · show List.Perm (S (-1) ++ ((S 0 ++ [q]) ++ S 1)) _
    rw [List.append_assoc, ← List.append_assoc]
    exact List.perm_middle.trans (by rw [List.append_assoc]; exact List.Perm.refl _)
  · show List.Perm (S (-1) ++ (S 0 ++ (S 1 ++ [q]))) _
    rw [← List.append_assoc, ← List.append_assoc]
    refine List.perm_append_comm.trans ?_
    rw [List.append_assoc]
    exact List.Perm.refl _
theorem addS_in {S : Int → List Sd} {σ : Int} {q : Sd} (h : Sg3 σ) {r : List Int} : InR (addS S σ q) r ↔ InR S r ∨ r = q.2 := by
  rw [← allS_mem, (addS_perm h).mem_iff, List.mem_cons, allS_mem]
  exact ⟨Or.symm, Or.symm⟩
theorem addS_side {S : Int → List Sd} {σ τ : Int} {q : Sd} {x : Sd} : x ∈ addS S σ q τ ↔ x ∈ S τ ∨ (τ = σ ∧ x = q) := by
  show x ∈ (if τ = σ then S σ ++ [q] else S τ) ↔ _
  by_cases c : τ = σ
  · subst c
    rw [if_pos rfl, List.mem_append, List.mem_singleton]
    exact ⟨fun h => h.imp id fun h => ⟨rfl, h⟩, fun h => h.imp id fun h => h.2⟩
  · rw [if_neg c]
    exact ⟨.inl, fun h => h.elim id fun h => absurd h.1 c⟩
theorem sgn_cases (n : Int) : (n = 0 ∧ sgnI n = 0) ∨ (0 < n ∧ sgnI n = 1) ∨ (n < 0 ∧ sgnI n = -1) := by
  unfold sgnI
  by_cases c : n = 0
  · rw [if_pos c]; exact .inl ⟨c, rfl⟩
  · rw [if_neg c]
    by_cases d : 0 < n
    · rw [if_pos d]; exact .inr (.inl ⟨d, rfl⟩)
    · rw [if_neg d]; exact .inr (.inr ⟨by omega, rfl⟩)
def fvO : Option (List Int) → BL.Vec
  | none => fun _ => 0
  | some f => vz f
/-- rows that are least up to a place are few, and their numbers small -/
structure LBnd (L : BL.Vec → Prop) (P : Nat) : Prop where
  few : ∀ G : List BL.Vec, (∀ g ∈ G, L g ∧ Nz P g ∧ Least L P g) → (G.Pairwise fun a b => ¬ EqP P a b) → G.length ≤ 1331
  sm : ∀ x, L x → Nz P x → Least L P x → ∀ i, i < P → -5 ≤ x i ∧ x i ≤ 5
def FrOk (p n : Nat) (f : Option (List Int)) (kf : Nat) : Prop := ∀ g, f = some g → g.length = n ∧ 0 < g.getD p 0 ∧ g.getD p 0 < 1000000 ∧ Ent (2 ^ kf) g
theorem two_pow_mono {a b : Nat} (h : a ≤ b) : (2 : Int) ^ a ≤ (2 : Int) ^ b := by
  have := Nat.pow_le_pow_right (n := 2) (by decide) h
  have e : ∀ k : Nat, ((2 ^ k : Nat) : Int) = (2 : Int) ^ k := fun k => by rw [Int.natCast_pow]; rfl
  rw [← e, ← e]
  exact Int.ofNat_le.mpr this
theorem two_pow_pos {a : Nat} : 0 < (2 : Int) ^ a := by
  have := two_pow_mono (a := 0) (b := a) (Nat.zero_le _)
  have e : (2 : Int) ^ 0 = 1 := rfl
  omega
theorem pair_row {p n kf K : Nat} {f : Option (List Int)} (hp : p < n) (hf : FrOk p n f kf) (hk : kf + 4 ≤ K) {a b : List Int} (la : a.length = n) (lb : b.length = n) (ea : Ent (2 ^ K) a) (eb : Ent (2 ^ K) b) (a5 : -5 ≤ a.getD p 0 ∧ a.getD p 0 ≤ 5) (b5 : -5 ≤ b.getD p 0 ∧ b.getD p 0 ≤ 5) :
    (subR a b (-1)).length = n ∧ (-10 ≤ (subR a b (-1)).getD p 0 ∧ (subR a b (-1)).getD p 0 ≤ 10) ∧ (trimR p f (subR a b (-1))).length = n ∧ vz (trimR p f (subR a b (-1))) = pairT p (fvO f) (vz a) (vz b) ∧ Ent (2 ^ (K + 2)) (trimR p f (subR a b (-1))) := by
  have hl : a.length = b.length := by omega
  have e0 : ∀ i, (subR a b (-1)).getD i 0 = a.getD i 0 + b.getD i 0 := fun i => by
    rw [subR_get hl]
    omega
  have l0 : (subR a b (-1)).length = n := by rw [subR_len hl]; exact la
  have P2 : (2 : Int) ^ (K + 1) = 2 * 2 ^ K := by rw [Int.pow_succ]; omega
  have P3 : (2 : Int) ^ (K + 2) = 4 * 2 ^ K := by rw [Int.pow_succ, P2]; omega
  have P4 : 16 * (2 : Int) ^ kf ≤ 2 ^ K := by
    have h := two_pow_mono hk
    have : (2 : Int) ^ (kf + 4) = 16 * 2 ^ kf := by
      rw [Int.pow_succ, Int.pow_succ, Int.pow_succ, Int.pow_succ]
      omega
    omega
  have hK := two_pow_pos (a := K)
  have hkf := two_pow_pos (a := kf)
  have E0 : Ent (2 ^ K + 1 * 2 ^ K) (subR a b (-1)) := sub_ent (by decide) (by decide) (by decide) (by omega) ea eb
  have b10 : -10 ≤ (subR a b (-1)).getD p 0 ∧ (subR a b (-1)).getD p 0 ≤ 10 := by rw [e0]; omega
  refine ⟨l0, b10, ?_⟩
  cases f with
  | none =>
    refine ⟨l0, funext fun i => ?_, E0.mono (by omega)⟩
    show (subR a b (-1)).getD i 0 = a.getD i 0 + b.getD i 0 - _ * 0
    rw [e0]
    omega
  | some g =>
    obtain ⟨g1, g2, g3, g4⟩ := hf g rfl
    have hg : (subR a b (-1)).length = g.length := by omega
    generalize ec : sgnI ((subR a b (-1)).getD p 0) * ((((subR a b (-1)).getD p 0).natAbs : Int) / g.getD p 0) = c
    have et : trimR p (some g) (subR a b (-1)) = subR (subR a b (-1)) g c := by rw [← ec]; rfl
    have q0 : 0 ≤ (((subR a b (-1)).getD p 0).natAbs : Int) / g.getD p 0 := Int.ediv_nonneg (by omega) (by omega)
    have q1 : (((subR a b (-1)).getD p 0).natAbs : Int) / g.getD p 0 ≤ 10 := Int.le_trans (Int.ediv_le_self _ (by omega)) (by omega)
    have c10 : -10 ≤ c ∧ c ≤ 10 := by
      rw [← ec]
      generalize (((subR a b (-1)).getD p 0).natAbs : Int) / g.getD p 0 = x at q0 q1
      rcases sgn3 ((subR a b (-1)).getD p 0) with h | h | h <;> rw [h] <;> omega
    rw [et]
    refine ⟨by rw [subR_len hg]; exact l0, funext fun i => ?_, ?_⟩
    · show (subR (subR a b (-1)) g c).getD i 0 = a.getD i 0 + b.getD i 0 - trimC (g.getD p 0) (a.getD p 0 + b.getD p 0) * g.getD i 0
      rw [subR_get hg, e0]
      have : c = trimC (g.getD p 0) (a.getD p 0 + b.getD p 0) := by
        rw [← ec, ← e0 p]
        unfold GR.trimC
        rw [if_pos g2]
        rcases sgn_cases ((subR a b (-1)).getD p 0) with ⟨h1, h2⟩ | ⟨h1, h2⟩ | ⟨h1, h2⟩
        · rw [h2, if_pos (by omega), h1]
          show 0 * _ = ((0 : Nat) : Int) / _
          simp
        · rw [h2, if_pos (by omega), Int.one_mul]
        · rw [h2, if_neg (by omega)]
          omega
      rw [this]
    · exact (sub_ent (t := 10) (by decide) c10.1 c10.2 (by omega) E0 g4).mono (by omega)
structure CI (L : BL.Vec → Prop) (p n : Nat) (f : Option (List Int)) (s : BL.Vec) (kb : Nat) (S : Int → List Sd) (W : Tr → Prop) (k : Int) : Prop where
  T : Latt L
  y : Sys L p (fvO f) s (InV S)
  sz : SzOk p S
  sg : ∀ σ, Sg3 σ → ∀ q ∈ S σ, sgnI (q.2.getD p 0) = σ
  len : ∀ r, InR S r → r.length = n
  least : ∀ r, InR S r → Least L (p + 1) (vz r)
  ent : ∀ r, InR S r → Ent (2 ^ (kb + 2 * (allS S).length)) r
  nd : ((allS S).map vz).Pairwise fun a b => ¬ EqP (p + 1) a b
  win : ∀ q, W q → InR S q.1 ∧ InR S q.2 ∧ k ≤ kyP p q
  pr : ∀ a b, InR S a → InR S b → 0 < a.getD p 0 → b.getD p 0 < 0 → Han p (fvO f) (InV S) (vz a) (vz b) ∨ W (a, b) ∨ W (b, a)
section
variable {L : BL.Vec → Prop} {p n : Nat} {f : Option (List Int)} {s : BL.Vec} {kb : Nat} {S : Int → List Sd} {W : Tr → Prop} {k : Int}
theorem CI.few (C : CI L p n f s kb S W k) (B : LBnd L (p + 1)) : (allS S).length ≤ 1331 := by
  have := B.few ((allS S).map vz) (fun g hg => by
    obtain ⟨r, hr, rfl⟩ := List.mem_map.mp hg
    have hr := allS_mem.mp hr
    have := C.y.FL (vz r) ⟨r, hr, rfl⟩
    exact ⟨this.1, this.2.2, C.least r hr⟩) C.nd
  rwa [List.length_map] at this
theorem CI.five (C : CI L p n f s kb S W k) (B : LBnd L (p + 1)) {r : List Int} (hr : InR S r) : -5 ≤ r.getD p 0 ∧ r.getD p 0 ≤ 5 := by
  have := C.y.FL (vz r) ⟨r, hr, rfl⟩
  exact B.sm (vz r) this.1 this.2.2 (C.least r hr) p (by omega)
theorem CI.key (C : CI L p n f s kb S W k) {k' : Int} (h : ∀ q, W q → k' ≤ kyP p q) : CI L p n f s kb S W k' :=
  { C with win := fun q hq => ⟨(C.win q hq).1, (C.win q hq).2.1, h q hq⟩ }
theorem CI.sub (C : CI L p n f s kb S W k) {W' : Tr → Prop} (h : ∀ q, W q ↔ W' q) : CI L p n f s kb S W' k := by
  have e : W = W' := funext fun q => propext (h q)
  rw [← e]
  exact C
theorem CI.isnew (C : CI L p n f s kb S W k) {t : List Int} (hO : Orth s p (vz t)) : NewR p S t ↔ Nz (p + 1) (vz t) ∧ ∀ x, InV S x → ¬ Cf (p + 1) x (vz t) := by
  constructor
  · rintro ⟨nz, h⟩
    refine ⟨nz, ?_⟩
    rintro x ⟨r, ⟨σ, hσ, q, hq, rfl⟩, rfl⟩ cf
    have hs := C.sg σ hσ q hq
    have hp := cf p (by omega)
    have e1 : vz q.2 p = q.2.getD p 0 := rfl
    have e2 : vz t p = t.getD p 0 := rfl
    rw [e1, e2] at hp
    refine h σ ?_ q hq fun j hj => ?_
    · rcases sgn_cases (q.2.getD p 0) with a | a | a <;> rcases sgn_cases (t.getD p 0) with b | b | b <;> omega
    · have := cf j hj
      have e3 : vz q.2 j = q.2.getD j 0 := rfl
      have e4 : vz t j = t.getD j 0 := rfl
      rw [e3, e4] at this
      omega
  · rintro ⟨nz, h⟩
    refine ⟨nz, fun σ hσ q hq ng => ?_⟩
    have h3 : Sg3 σ := by
      rcases hσ with e | e
      · rw [e]; exact .inr (.inl rfl)
      · rw [e]; exact sgn3 _
    have hs := C.sg σ h3 q hq
    have hin : InV S (vz q.2) := ⟨q.2, ⟨σ, h3, q, hq, rfl⟩, rfl⟩
    refine h _ hin fun j hj => ?_
    have h1 := ng j hj
    show (0 ≤ q.2.getD j 0 ∧ q.2.getD j 0 ≤ t.getD j 0) ∨ (t.getD j 0 ≤ q.2.getD j 0 ∧ q.2.getD j 0 ≤ 0)
    by_cases e : j = p
    · subst e
      rcases sgn_cases (q.2.getD j 0) with a | a | a <;> rcases sgn_cases (t.getD j 0) with b | b | b <;> omega
    · have o1 := (GR.sgn_mul C.y.sg).mp ((C.y.FL _ hin).2.1 j (by omega))
      have o2 := (GR.sgn_mul C.y.sg).mp (hO j (by omega))
      have e3 : vz q.2 j = q.2.getD j 0 := rfl
      have e4 : vz t j = t.getD j 0 := rfl
      rw [e3] at o1
      rw [e4] at o2
      omega
theorem pairT_comm {f a b : BL.Vec} : pairT p f a b = pairT p f b a := funext fun i => by
  show a i + b i - trimC (f p) (a p + b p) * f i = b i + a i - trimC (f p) (b p + a p) * f i
  rw [Int.add_comm (a i), Int.add_comm (a p)]
/-- the pair is handled -/
theorem CI.done (C : CI L p n f s kb S W k) {a b : List Int} (ha : InR S a) (hb : InR S b) {W' : Tr → Prop} (h1 : ∀ q, W q → q = (a, b) ∨ W' q) (h2 : ∀ q, W' q → W q) (hh : ¬ Nz (p + 1) (pairT p (fvO f) (vz a) (vz b)) ∨ ∃ r, InV S r ∧ Cf (p + 1) r (pairT p (fvO f) (vz a) (vz b))) : CI L p n f s kb S W' k :=
  { C with
    win := fun q hq => C.win q (h2 q hq)
    pr := fun a' b' ha' hb' a0 b0 => by
      rcases C.pr a' b' ha' hb' a0 b0 with h | h | h
      · exact .inl h
      · rcases h1 _ h with e | e
        · cases e
          exact .inl (GR.han_of C.y hh)
        · exact .inr (.inl e)
      · rcases h1 _ h with e | e
        · cases e
          refine .inl (GR.han_of C.y ?_)
          rw [pairT_comm]
          exact hh
        · exact .inr (.inr e) }
theorem CI.orth (C : CI L p n f s kb S W k) {a b t : List Int} (ha : InR S a) (hb : InR S b) (et : vz t = pairT p (fvO f) (vz a) (vz b)) : L (vz t) ∧ Orth s p (vz t) ∧ szR p t = szR p a + szR p b ∧ (0 < fvO f p → (vz t p).natAbs < (fvO f p).natAbs) := by
  obtain ⟨h1, h2, h3, h4, h5⟩ := GR.pairT_ok C.y C.T (a := vz a) (b := vz b) ⟨a, ha, rfl⟩ ⟨b, hb, rfl⟩
  rw [← et] at h1 h3 h4 h5
  exact ⟨h1, h3, h4, h5⟩
theorem CI.old (C : CI L p n f s kb S W k) {t a b : List Int} (hn : ¬ NewR p S t) (ha : InR S a) (hb : InR S b) (et : vz t = pairT p (fvO f) (vz a) (vz b)) {W' : Tr → Prop} (h1 : ∀ q, W q → q = (a, b) ∨ W' q) (h2 : ∀ q, W' q → W q) : CI L p n f s kb S W' k := by
  refine C.done ha hb h1 h2 ?_
  rw [← et]
  obtain ⟨_, hO, _⟩ := C.orth ha hb et
  rw [C.isnew hO] at hn
  by_cases c : Nz (p + 1) (vz t)
  · refine .inr (Classical.byContradiction fun no => hn ⟨c, fun x hx cf => no ⟨x, hx, cf⟩⟩)
  · exact .inl c
theorem CI.new (C : CI L p n f s kb S W k) {t a b : List Int} (hN : NewR p S t) (ha : InR S a) (hb : InR S b) (et : vz t = pairT p (fvO f) (vz a) (vz b)) (lt : t.length = n) (en : Ent (2 ^ (kb + 2 * (allS S).length + 2)) t) (hk : kyP p (a, b) = k) {W' W'' : Tr → Prop} (h1 : ∀ q, W q → q = (a, b) ∨ W' q) (h2 : ∀ q, W' q → W q)
    (h3 : ∀ q, W'' q ↔ W' q ∨ (sgnI (t.getD p 0) ≠ 0 ∧ ∃ o ∈ S (-sgnI (t.getD p 0)), q = (t, o.2))) : CI L p n f s kb (addS S (sgnI (t.getD p 0)) (szR p t, t)) W'' k := by
  obtain ⟨tL, tO, tz, tf⟩ := C.orth ha hb et
  obtain ⟨nz, ncf⟩ := (C.isnew tO).mp hN
  have g3 := sgn3 (t.getD p 0)
  have gn : Sg3 (-sgnI (t.getD p 0)) := by unfold Sg3 at g3 ⊢; omega
  have inV : ∀ x, InV (addS S (sgnI (t.getD p 0)) (szR p t, t)) x ↔ InV S x ∨ x = vz t := fun x => by
    constructor
    · rintro ⟨r, hr, rfl⟩
      rcases (addS_in g3).mp hr with h | h
      · exact .inl ⟨r, h, rfl⟩
      · exact .inr (by rw [h])
    · rintro (⟨r, hr, rfl⟩ | rfl)
      · exact ⟨r, (addS_in g3).mpr (.inl hr), rfl⟩
      · exact ⟨t, (addS_in g3).mpr (.inr rfl), rfl⟩
  have lest : Least L (p + 1) (vz t) := by
    refine GR.new_least C.y (k := szR p t) (fun x z hx hz x0 z0 hlt => ?_) tL tO (Nat.le_refl _) tf ncf
    obtain ⟨a', ha', rfl⟩ := hx
    obtain ⟨b', hb', rfl⟩ := hz
    have hlt : szR p a' + szR p b' < szR p t := hlt
    have ek : kyP p (a, b) = ((szR p a + szR p b : Nat) : Int) := rfl
    rcases C.pr a' b' ha' hb' x0 z0 with h | h | h
    · exact h
    · have := (C.win _ h).2.2
      have e : kyP p (a', b') = ((szR p a' + szR p b' : Nat) : Int) := rfl
      omega
    · have := (C.win _ h).2.2
      have e : kyP p (b', a') = ((szR p b' + szR p a' : Nat) : Int) := rfl
      omega
  have hlen : (allS (addS S (sgnI (t.getD p 0)) (szR p t, t))).length = (allS S).length + 1 := by
    rw [(addS_perm g3).length_eq, List.length_cons]
  exact {
    T := C.T
    y := C.y.more tL tO nz inV
    sz := fun σ hσ q hq => by
      rcases addS_side.mp hq with h | ⟨_, h⟩
      · exact C.sz σ hσ q h
      · rw [h]
    sg := fun σ hσ q hq => by
      rcases addS_side.mp hq with h | ⟨e, h⟩
      · exact C.sg σ hσ q h
      · rw [h, e]
    len := fun r hr => by
      rcases (addS_in g3).mp hr with h | h
      · exact C.len r h
      · rw [h]; exact lt
    least := fun r hr => by
      rcases (addS_in g3).mp hr with h | h
      · exact C.least r h
      · rw [h]; exact lest
    ent := fun r hr => by
      rw [hlen]
      rcases (addS_in g3).mp hr with h | h
      · exact (C.ent r h).mono (two_pow_mono (by omega))
      · rw [h]; exact en.mono (two_pow_mono (by omega))
    nd := by
      refine ((List.Perm.map vz (addS_perm g3)).pairwise_iff fun {x y} h e => h e.symm).mpr ?_
      rw [List.map_cons]
      refine List.pairwise_cons.mpr ⟨fun x hx e => ?_, C.nd⟩
      obtain ⟨r, hr, rfl⟩ := List.mem_map.mp hx
      exact ncf _ ⟨r, allS_mem.mp hr, rfl⟩ (EqP.symm e).cf
    win := fun q hq => by
      rcases (h3 q).mp hq with h | ⟨ne, o, ho, e⟩
      · obtain ⟨w1, w2, w3⟩ := C.win q (h2 q h)
        exact ⟨(addS_in g3).mpr (.inl w1), (addS_in g3).mpr (.inl w2), w3⟩
      · rw [e]
        refine ⟨(addS_in g3).mpr (.inr rfl), (addS_in g3).mpr (.inl ⟨_, gn, o, ho, rfl⟩), ?_⟩
        have e1 : kyP p (t, o.2) = ((szR p t + szR p o.2 : Nat) : Int) := rfl
        have e2 : kyP p (a, b) = ((szR p a + szR p b : Nat) : Int) := rfl
        omega
    pr := fun a' b' ha' hb' a0 b0 => by
      have nw : ∀ {o : List Int}, InR S o → sgnI (o.getD p 0) = -sgnI (t.getD p 0) → sgnI (t.getD p 0) ≠ 0 → W'' (t, o) := fun {o} ho hs hne => by
        obtain ⟨τ, hτ, q, hq, rfl⟩ := ho
        have := C.sg τ hτ q hq
        rw [hs] at this
        rw [← this] at hq
        exact (h3 _).mpr (.inr ⟨hne, q, hq, rfl⟩)
      rcases (addS_in g3).mp ha' with h | h
      · rcases (addS_in g3).mp hb' with h' | h'
        · rcases C.pr a' b' h h' a0 b0 with c | c | c
          · exact .inl (c.more fun x hx => (inV x).mpr (.inl hx))
          · rcases h1 _ c with e | e
            · cases e
              refine .inl (GR.han_of (C.y.more tL tO nz inV) (.inr ⟨vz t, (inV _).mpr (.inr rfl), ?_⟩))
              rw [← et]
              exact (EqP.cf fun _ _ => rfl)
            · exact .inr (.inl ((h3 _).mpr (.inl e)))
          · rcases h1 _ c with e | e
            · cases e
              refine .inl (GR.han_of (C.y.more tL tO nz inV) (.inr ⟨vz t, (inV _).mpr (.inr rfl), ?_⟩))
              rw [pairT_comm, ← et]
              exact (EqP.cf fun _ _ => rfl)
            · exact .inr (.inr ((h3 _).mpr (.inl e)))
        · have h' : b' = t := h'
          rw [h'] at b0 ⊢
          refine .inr (.inr (nw h ?_ ?_))
          · rcases sgn_cases (a'.getD p 0) with c | c | c <;> rcases sgn_cases (t.getD p 0) with d | d | d <;> omega
          · rcases sgn_cases (t.getD p 0) with d | d | d <;> omega
      · have h : a' = t := h
        rw [h] at a0 ⊢
        rcases (addS_in g3).mp hb' with h' | h'
        · refine .inr (.inl (nw h' ?_ ?_))
          · rcases sgn_cases (b'.getD p 0) with c | c | c <;> rcases sgn_cases (t.getD p 0) with d | d | d <;> omega
          · rcases sgn_cases (t.getD p 0) with d | d | d <;> omega
        · have h' : b' = t := h'
          rw [h'] at b0
          omega }
structure MI (p : Nat) (S : Int → List Sd) (W : Tr → Prop) (done : List (List Int)) : Prop where
  sz : SzOk p S
  sg : ∀ σ, Sg3 σ → ∀ q ∈ S σ, sgnI (q.2.getD p 0) = σ
  prm : (allS S).Perm done
  win : ∀ q, W q → InR S q.1 ∧ InR S q.2
  pr : ∀ a b, InR S a → InR S b → 0 < a.getD p 0 → b.getD p 0 < 0 → W (a, b) ∨ W (b, a)
theorem MI.step {done : List (List Int)} (M : MI p S W done) {r : List Int} {W'' : Tr → Prop} (h3 : ∀ q, W'' q ↔ W q ∨ (sgnI (r.getD p 0) ≠ 0 ∧ ∃ o ∈ S (-sgnI (r.getD p 0)), q = (r, o.2))) : MI p (addS S (sgnI (r.getD p 0)) (szR p r, r)) W'' (done ++ [r]) := by
  have g3 := sgn3 (r.getD p 0)
  have gn : Sg3 (-sgnI (r.getD p 0)) := by unfold Sg3 at g3 ⊢; omega
  have nw : ∀ {o : List Int}, InR S o → sgnI (o.getD p 0) = -sgnI (r.getD p 0) → sgnI (r.getD p 0) ≠ 0 → W'' (r, o) := fun {o} ho hs hne => by
    obtain ⟨τ, hτ, q, hq, rfl⟩ := ho
    have := M.sg τ hτ q hq
    rw [hs] at this
    rw [← this] at hq
    exact (h3 _).mpr (.inr ⟨hne, q, hq, rfl⟩)
  exact {
    sz := fun σ hσ q hq => by
      rcases addS_side.mp hq with h | ⟨_, h⟩
      · exact M.sz σ hσ q h
      · rw [h]
    sg := fun σ hσ q hq => by
      rcases addS_side.mp hq with h | ⟨e, h⟩
      · exact M.sg σ hσ q h
      · rw [h, e]
    prm := (addS_perm g3).trans ((List.Perm.cons _ M.prm).trans (List.perm_append_comm (l₁ := [r])))
    win := fun q hq => by
      rcases (h3 q).mp hq with h | ⟨ne, o, ho, e⟩
      · obtain ⟨w1, w2⟩ := M.win q h
        exact ⟨(addS_in g3).mpr (.inl w1), (addS_in g3).mpr (.inl w2)⟩
      · rw [e]
        exact ⟨(addS_in g3).mpr (.inr rfl), (addS_in g3).mpr (.inl ⟨_, gn, o, ho, rfl⟩)⟩
    pr := fun a' b' ha' hb' a0 b0 => by
      rcases (addS_in g3).mp ha' with h | h
      · rcases (addS_in g3).mp hb' with h' | h'
        · rcases M.pr a' b' h h' a0 b0 with c | c
          · exact .inl ((h3 _).mpr (.inl c))
          · exact .inr ((h3 _).mpr (.inl c))
        · have h' : b' = r := h'
          rw [h'] at b0 ⊢
          refine .inr (nw h ?_ ?_)
          · rcases sgn_cases (a'.getD p 0) with c | c | c <;> rcases sgn_cases (r.getD p 0) with d | d | d <;> omega
          · rcases sgn_cases (r.getD p 0) with d | d | d <;> omega
      · have h : a' = r := h
        rw [h] at a0 ⊢
        rcases (addS_in g3).mp hb' with h' | h'
        · refine .inl (nw h' ?_ ?_)
          · rcases sgn_cases (b'.getD p 0) with c | c | c <;> rcases sgn_cases (r.getD p 0) with d | d | d <;> omega
          · rcases sgn_cases (r.getD p 0) with d | d | d <;> omega
        · have h' : b' = r := h'
          rw [h'] at b0
          omega }
/-- what completed is handed -/
structure CPre (L : BL.Vec → Prop) (p n : Nat) (f : Option (List Int)) (s : BL.Vec) (kb kf : Nat) (M : List (List Int)) : Prop where
  T : Latt L
  y : Sys L p (fvO f) s (fun x => ∃ r ∈ M, vz r = x)
  len : ∀ r ∈ M, r.length = n
  least : ∀ r ∈ M, Least L (p + 1) (vz r)
  ent : ∀ r ∈ M, Ent (2 ^ kb) r
  nd : (M.map vz).Pairwise fun a b => ¬ EqP (p + 1) a b
  fr : FrOk p n f kf
  kfb : kf + 4 ≤ kb
  kb : kb ≤ 800000
  bnd : LBnd L (p + 1)
  hp : p < n
  hn : n ≤ 100
theorem CPre.few {kf : Nat} {M : List (List Int)} (C : CPre L p n f s kb kf M) : M.length ≤ 1331 := by
  have := C.bnd.few (M.map vz) (fun g hg => by
    obtain ⟨r, hr, rfl⟩ := List.mem_map.mp hg
    have := C.y.FL (vz r) ⟨r, hr, rfl⟩
    exact ⟨this.1, this.2.2, C.least r hr⟩) C.nd
  rwa [List.length_map] at this
theorem MI.ci {kf : Nat} {M : List (List Int)} (C : CPre L p n f s kb kf M) (I : MI p S W M) : CI L p n f s kb S W 0 := by
  have hm : ∀ r, InR S r ↔ r ∈ M := fun r => by rw [← allS_mem]; exact I.prm.mem_iff
  have hv : ∀ x, InV S x ↔ ∃ r ∈ M, vz r = x := fun x => ⟨fun ⟨r, h, e⟩ => ⟨r, (hm r).mp h, e⟩, fun ⟨r, h, e⟩ => ⟨r, (hm r).mpr h, e⟩⟩
  have e : InV S = fun x => ∃ r ∈ M, vz r = x := funext fun x => propext (hv x)
  exact {
    T := C.T
    y := by rw [e]; exact C.y
    sz := I.sz
    sg := I.sg
    len := fun r hr => C.len r ((hm r).mp hr)
    least := fun r hr => C.least r ((hm r).mp hr)
    ent := fun r hr => (C.ent r ((hm r).mp hr)).mono (two_pow_mono (by omega))
    nd := ((I.prm.map vz).pairwise_iff fun {x y} h e => h e.symm).mpr C.nd
    win := fun q hq => ⟨(I.win q hq).1, (I.win q hq).2, by
      show (0 : Int) ≤ ((szR p q.1 + szR p q.2 : Nat) : Int)
      omega⟩
    pr := fun a b ha hb a0 b0 => .inr (I.pr a b ha hb a0 b0) }
/-- what completed tells -/
structure CPost (L : BL.Vec → Prop) (p n : Nat) (s : BL.Vec) (kb : Nat) (R : List (List Int)) : Prop where
  ok : ∀ r ∈ R, r.length = n ∧ Ent (2 ^ (kb + 2662)) r ∧ L (vz r) ∧ Orth s p (vz r) ∧ Nz (p + 1) (vz r) ∧ Least L (p + 1) (vz r)
  all : ∀ x, L x → Orth s p x → Nz (p + 1) x → Least L (p + 1) x → ∃ r ∈ R, EqP (p + 1) x (vz r)
  few : R.length ≤ 1331
theorem CI.post (C : CI L p n f s kb S W k) (B : LBnd L (p + 1)) (h : ∀ q, ¬ W q) : CPost L p n s kb (allS S) where
  ok r hr := by
    have hr := allS_mem.mp hr
    obtain ⟨h1, h2, h3⟩ := C.y.FL (vz r) ⟨r, hr, rfl⟩
    have := C.few B
    exact ⟨C.len r hr, (C.ent r hr).mono (two_pow_mono (by omega)), h1, h2, h3, C.least r hr⟩
  all x h1 h2 h3 h4 := by
    obtain ⟨r, ⟨r', hr, rfl⟩, e⟩ := GR.all_told C.y (fun a b ha hb a0 b0 => by
      obtain ⟨a', ha', rfl⟩ := ha
      obtain ⟨b', hb', rfl⟩ := hb
      rcases C.pr a' b' ha' hb' a0 b0 with c | c | c
      · exact c
      · exact absurd c (h _)
      · exact absurd c (h _)) h1 h2 h3 h4
    exact ⟨r', allS_mem.mpr hr, e⟩
  few := C.few B
end
end HL

set_option pp.maxSteps 3000
namespace HL
open PySem PySem.Spec PyProof.Rows L2
open C8 (pss_cut)
open GR (Sys Least Nz EqP Cf Orth Sgn Han Latt pairT trimC)
abbrev sCompl : Stmt := topS 43
abbrev NCo : List Str := ["members", "place", "fresh", "sides", "waiting", "row", "pairs", "one", "other", "side", "size"]
theorem scCo : FnScope NCo ["members", "place", "fresh"] (defScope sCompl) := ⟨rfl, rfl, rfl, by decide +kernel, rfl, by decide +kernel, by decide +kernel⟩
theorem sz_3 (a b c : V) : ([a, b, c] : List V).length ≤ sizeLine := by show 3 ≤ sizeLine; decide
theorem cw_start {H H2 : Hp} {sd d : Addr} {la : Int → Addr} (ns : H sd = none) (na : ∀ σ, Sg3 σ → H (la σ) = none) (nd : H d = none) (dis : [d, la (-1), la 0, la 1, sd].Nodup) (h1 : H2 sd = some (.dK (sdKv la))) (h2 : ∀ σ, Sg3 σ → H2 (la σ) = some (.lst [])) (h5 : H2 d = some (.dK [])) (hs : Same H H2) :
    CW H2 la d sd [] (fun _ => []) ∧ Same H (cutM (mt d [] (A3 la)) H2) := by
  have em : mt d [] (A3 la) = [d, la (-1), la 0, la 1] := rfl
  have dis' := dis
  rw [show [d, la (-1), la 0, la 1, sd] = [d, la (-1), la 0, la 1] ++ [sd] from rfl] at dis'
  obtain ⟨d1, _, d3⟩ := List.nodup_append.mp dis'
  have nsd : sd ∉ mt d [] (A3 la) := fun h => by
    rw [em] at h
    exact d3 sd h sd (List.mem_singleton.mpr rfl) rfl
  refine ⟨⟨⟨by rw [em]; exact d1, h5, List.nodup_nil, fun e he => by simp at he, fun a ha => ?_⟩, fun e he => by simp at he, cut_of nsd h1, fun σ hσ => ⟨[], h2 σ hσ, rfl, fun i v q e => by simp at e⟩⟩, fun b o e => ?_⟩
  · simp at ha
    rcases ha with h | h | h <;> rw [h]
    · exact ⟨_, h2 _ (.inl rfl)⟩
    · exact ⟨_, h2 _ (.inr (.inl rfl))⟩
    · exact ⟨_, h2 _ (.inr (.inr rfl))⟩
  · refine cut_of (fun h => ?_) (hs _ _ e)
    rw [em] at h
    simp at h
    rcases h with h | h | h | h <;> rw [h] at e
    · rw [nd] at e; cases e
    · rw [na _ (.inl rfl)] at e; cases e
    · rw [na _ (.inr (.inl rfl))] at e; cases e
    · rw [na _ (.inr (.inr rfl))] at e; cases e
def preS (S : Int → List Sd) : Nat → List Sd
  | 0 => []
  | 1 => S (-1)
  | 2 => S (-1) ++ S 0
  | _ => S (-1) ++ (S 0 ++ S 1)
theorem preS_more {S : Int → List Sd} {a : Nat} (h : a < 3) : preS S (a + 1) = preS S a ++ S ((a : Int) - 1) := by
  match a, h with
  | 0, _ => exact (List.nil_append _).symm
  | 1, _ => rfl
  | 2, _ => exact (List.append_assoc _ _ _).symm
theorem tup3 {i : Nat} {x : V} (h : [V.int (-1), V.int 0, V.int 1][i]? = some x) : i < 3 ∧ x = .int ((i : Int) - 1) := by
  match i, h with
  | 0, h => exact ⟨by decide, (Option.some.inj h).symm⟩
  | 1, h => exact ⟨by decide, (Option.some.inj h).symm⟩
  | 2, h => exact ⟨by decide, (Option.some.inj h).symm⟩
  | i + 3, h => simp at h
theorem Sds.rows {F : Hp} {vs : List V} {qs : List Sd} (h : Sds F vs qs) {i : Nat} {v : V} (e : vs[i]? = some v) : ∃ q, qs[i]? = some q ∧ SdIn F v q := h.at e
section
variable {P : Program} {w : World} {K : PySem.W.Frag} {mg : Str → Option Value} {base : Heap}
def spCompl : Sp := fun vs H Q _ => ∃ (m : Addr) (p n : Nat) (v : V) (ma : List Addr) (M : List (List Int)) (f : Option (List Int)) (L : BL.Vec → Prop) (s : BL.Vec) (kb kf : Nat), vs = [.ref m, .int (p : Int), v] ∧ H m = some (.lst (ma.map V.ref)) ∧ Rows H ma M ∧ frV H v f ∧ CPre L p n f s kb kf M ∧
  ∀ H' l ra R, Same H H' → H l = none → H' l = some (.lst (ra.map V.ref)) → Rows H' ra R → CPost L p n s kb R → Q (.ref l) H'
theorem frV.same {H H' : Hp} {v : V} {f : Option (List Int)} (h : frV H v f) (s : Same H H') : frV H' v f := by
  cases f with
  | none => exact h
  | some f =>
    obtain ⟨c, e, hc⟩ := h
    exact ⟨c, e, hc.same s⟩
theorem ok_compl {f : Addr} {fd : FuncData} (F : Fun K "completed" "completed" sCompl f fd) (B : Bl mg) (CLi : Cal P w K mg base CX0 2 "let_in" ["row", "place", "sides", "waiting"] spLetIn) (CLe : CalLess16 P w K mg base) (CTr : Cal P w K mg base CX0 2 "trimmed" ["row", "place", "fresh"] spTrim)
    (CIn : Cal P w K mg base CX0 2 "is_new" ["row", "place", "sides"] spIsNew) : FnOk P w K mg base CX0 3 f fd ["members", "place", "fresh"] spCompl := by
  obtain ⟨fLi, fdLi, GLi, gLi, kLi, bLi⟩ := CLi.ex
  obtain ⟨fLe, fdLe, GLe, gLe, kLe, bLe⟩ := CLe
  obtain ⟨fTr, fdTr, GTr, gTr, kTr, bTr⟩ := CTr.ex
  obtain ⟨fIn, fdIn, GIn, gIn, kIn, bIn⟩ := CIn.ex
  refine F.ok scCo (fun vs H Q E h => ?_) (fun cdv A outer s H vs Q E hr h => ?_)
  · obtain ⟨m, p, n, v, ma, M, f, L, s, kb, kf, rfl, _⟩ := h
    rfl
  · obtain ⟨m, p, n, v, ma, M, f, L, s, kb, kf, rfl, hm, hM, hf, CP, q⟩ := h
    have hu := hu_of hr
    have hp := CP.hp
    have hn := CP.hn
    have Bd := CP.bnd
    have hfewM := CP.few
    have hMl := hM.len
    refine ⟨_, (pss_cons (ps_set (i := 3) scCo.nd rfl (.inr rfl) (pe_disp (pps_cons (pe_un un_neg pe_int) (pe_lst pa_nil) (pps_cons pe_int (pe_lst pa_nil) (pps_cons pe_int (pe_lst pa_nil) pps_nil))) rfl rfl (fun z => by cases z) (by decide)))
      (pss_cons (ps_set (i := 4) scCo.nd rfl (.inl rfl) pe_dnewK)
      (pss_cut (ps_for PassesOwn.never rfl (pi_list (pv 0)) (pg_name (i := 5) scCo.nd rfl (.inl rfl))
        (pss_one (ps_expr (pe_call GLi (hr.mono (by decide)) (by rfl) gLi kLi bLi .nil pass0 (pa_cons (pv 5) (pa_cons (pv 1) (pa_cons (pv 3) (pa_cons (pv 4) pa_nil))))))))
      (pss_cons (ps_while PassesOwn.never (pt_truth (pv 4) (by intro _; rfl))
        (pss_cons (ps_set (i := 6) scCo.nd rfl (.inl rfl) (pe_dpop1 (pv 4) (pe_callB (cr_minK rfl) (by rfl) B.min (by decide +kernel) (pa_cons (pv 4) pa_nil)) ⟨rfl, rfl, rfl, rfl⟩))
        (pss_one (ps_for PassesOwn.never rfl (pi_list (pv 6)) (pg_tup rfl (pgs_cons (pg_name (i := 7) scCo.nd rfl (.inl rfl)) (pgs_cons (pg_name (i := 8) scCo.nd rfl (.inl rfl)) pgs_nil)))
          (pss_cons (ps_set (i := 5) scCo.nd rfl (.inl rfl) (pe_call GTr (hr.mono (by decide)) (by rfl) gTr kTr bTr .nil pass0 (pa_cons (pe_call GLe (hr.mono (by decide)) (by rfl) gLe kLe bLe .nil pass0 (pa_cons (pv 7) (pa_cons (pv 8) (pa_cons (pe_un un_neg pe_int) pa_nil)))) (pa_cons (pv 1) (pa_cons (pv 2) pa_nil)))))
          (pss_one (ps_if (pt_val (pe_call GIn (hr.mono (by decide)) (by rfl) gIn kIn bIn .nil pass0 (pa_cons (pv 5) (pa_cons (pv 1) (pa_cons (pv 3) pa_nil))))) (pss_one (ps_expr (pe_call GLi (hr.mono (by decide)) (by rfl) gLi kLi bLi .nil pass0 (pa_cons (pv 5) (pa_cons (pv 1) (pa_cons (pv 3) (pa_cons (pv 4) pa_nil))))))) pss_nil)))))))
      (pss_one (ps_ret (pe_lc2 (own := [("side", 9), ("size", 10), ("row", 5)]) (vs1 := [10, 5]) (g := gName 9) (g1 := gTup K 2 (gCons (gName 10) (gCons (gName 5) gNil))) (tt := tYes) (tt1 := tYes) (wi1 := iList K (tDGet (tVar 3) (tVar 9))) (te := tVar 5) rfl scCo.nd (pi_tup (pe_tup (pa_cons (pe_un un_neg pe_int) (pa_cons pe_int (pa_cons pe_int pa_nil)))))
        (blkOk_by (own := [("side", 9), ("size", 10), ("row", 5)]) (N := NCo) (sc := defScope sCompl) (by decide +kernel)) (by decide) (fun _ _ _ _ _ => pg_name (i := 9) scCo.nd rfl (Or.inl rfl)) (fun _ _ _ _ _ => pts_nil)
        (fun _ _ _ _ _ => pi_list (pe_dget hu (pv 3) (pv 9) (fun _ _ => rfl))) (fun _ _ _ _ _ => pg_tup rfl (pgs_cons (pg_name (i := 10) scCo.nd rfl (Or.inl rfl)) (pgs_cons (pg_name (i := 5) scCo.nd rfl (Or.inl rfl)) pgs_nil))) (fun _ _ _ _ _ => pts_nil)
        (fun _ _ _ _ _ => pv 5)))))))), ?_⟩
    -- the sides
    refine fun sd nsd => ⟨1, rfl, Nat.zero_le _, fun a na => ⟨Nat.zero_le _, fun b nb => ⟨Nat.zero_le _, fun c nc => ?_⟩⟩⟩
    have s0 := same_new (o := .dK []) nsd
    have s1 := same_new (o := .lst []) na
    have s2 := same_new (o := .lst []) nb
    have s3 := same_new (o := .lst []) nc
    have a1 : (upd (upd (upd (upd H sd (.dK [])) a (.lst [])) b (.lst [])) c (.lst [])) a = some (.lst []) := s3 _ _ (s2 _ _ upd_same)
    have b1 : (upd (upd (upd (upd H sd (.dK [])) a (.lst [])) b (.lst [])) c (.lst [])) b = some (.lst []) := s3 _ _ upd_same
    have c1 : (upd (upd (upd (upd H sd (.dK [])) a (.lst [])) b (.lst [])) c (.lst [])) c = some (.lst []) := upd_same
    have d1 : (upd (upd (upd (upd H sd (.dK [])) a (.lst [])) b (.lst [])) c (.lst [])) sd = some (.dK []) := s3 _ _ (s2 _ _ (s1 _ _ upd_same))
    have asd : a ≠ sd := fun e => by rw [e, upd_same] at na; cases na
    have ba : b ≠ a := fun e => by rw [e, upd_same] at nb; cases nb
    have bsd : b ≠ sd := fun e => by rw [e, upd_ne asd.symm, upd_same] at nb; cases nb
    have cb : c ≠ b := fun e => by rw [e, upd_same] at nc; cases nc
    have ca : c ≠ a := fun e => by rw [e, upd_ne ba.symm, upd_same] at nc; cases nc
    have csd : c ≠ sd := fun e => by rw [e, upd_ne bsd.symm, upd_ne asd.symm, upd_same] at nc; cases nc
    have na0 : H a = none := by rwa [upd_ne asd] at na
    have nb0 : H b = none := by rwa [upd_ne ba, upd_ne bsd] at nb
    have nc0 : H c = none := by rwa [upd_ne cb, upd_ne ca, upd_ne csd] at nc
    have s03 : Same H (upd (upd (upd (upd H sd (.dK [])) a (.lst [])) b (.lst [])) c (.lst [])) := s0.trans (s1.trans (s2.trans s3))
    generalize upd (upd (upd (upd H sd (.dK [])) a (.lst [])) b (.lst [])) c (.lst []) = H3 at a1 b1 c1 d1 s03 ⊢
    obtain ⟨la, l1, l2, l3⟩ : ∃ la : Int → Addr, la (-1) = a ∧ la 0 = b ∧ la 1 = c := ⟨fun σ => if σ = -1 then a else if σ = 0 then b else c, rfl, rfl, rfl⟩
    subst l1 l2 l3
    refine ⟨d1, sdKv la, rfl, (show 3 ≤ 15 by decide), ?_⟩
    rw [show mergeK [] (sdKv la) = sdKv la from rfl]
    refine fun d nd => ?_
    have dsd : d ≠ sd := fun e => by rw [e, upd_same] at nd; cases nd
    have nd3 : H3 d = none := by rwa [upd_ne dsd] at nd
    have nd0 : H d = none := by
      cases e : H d with
      | none => rfl
      | some o => rw [s03 _ _ e] at nd3; cases nd3
    have da : ∀ σ, Sg3 σ → d ≠ la σ ∧ sd ≠ la σ ∧ H3 (la σ) = some (.lst []) ∧ H (la σ) = none := fun σ hσ => by
      rcases hσ with e | e | e <;> subst e
      · exact ⟨(fun z => by rw [z, a1] at nd3; cases nd3), asd.symm, a1, na0⟩
      · exact ⟨(fun z => by rw [z, b1] at nd3; cases nd3), bsd.symm, b1, nb0⟩
      · exact ⟨(fun z => by rw [z, c1] at nd3; cases nd3), csd.symm, c1, nc0⟩
    obtain ⟨C0, s0d⟩ := cw_start (H := H) (H2 := upd (upd H3 sd (.dK (sdKv la))) d (.dK [])) (sd := sd) (d := d) (la := la) nsd (fun σ hσ => (da σ hσ).2.2.2) nd0 (by
      refine List.nodup_cons.mpr ⟨fun h => ?_, List.nodup_cons.mpr ⟨fun h => ?_, List.nodup_cons.mpr ⟨fun h => ?_, List.nodup_cons.mpr ⟨fun h => ?_, List.nodup_cons.mpr ⟨fun h => (by cases h), List.nodup_nil⟩⟩⟩⟩⟩
      · simp at h
        rcases h with h | h | h | h
        · exact (da _ (.inl rfl)).1 h
        · exact (da _ (.inr (.inl rfl))).1 h
        · exact (da _ (.inr (.inr rfl))).1 h
        · exact dsd h
      · simp at h
        rcases h with h | h | h
        · exact ba h.symm
        · exact ca h.symm
        · exact asd h
      · simp at h
        rcases h with h | h
        · exact cb h.symm
        · exact bsd h
      · simp at h
        exact csd h) (by rw [upd_ne dsd.symm, upd_same]) (fun σ hσ => by rw [upd_ne (da σ hσ).1.symm, upd_ne (da σ hσ).2.1.symm]; exact (da σ hσ).2.2.1) upd_same (fun x o e => by
      have e3 := s03 _ _ e
      rw [upd_ne (fun z => by rw [z, nd3] at e3; cases e3), upd_ne (fun z => by rw [z, nsd] at e; cases e)]
      exact e3)
    generalize upd (upd H3 sd (.dK (sdKv la))) d (.dK []) = H4 at C0 s0d ⊢
    clear d1 a1 b1 c1 da
    -- the members
    refine ⟨fun σ' H' => ∃ (en : List En) (S : Int → List Sd) (y5 : Option V), σ' = [some (.ref m), some (.int (p : Int)), some v, some (.ref sd), some (.ref d), y5, none, none, none, none, none] ∧ CW H' la d sd en S ∧ Same H (cutM (mt d en (A3 la)) H') ∧ KO (kyP p) en ∧ (tot en).length ≤ M.length * 6000 ∧ MI p S (fun q => q ∈ tot en) M, ?_, ?_⟩
    · refine ⟨.ref m, rfl, m, rfl, ⟨_, SqL.of ((s0d.trans cut_le) _ _ hm)⟩, ?_⟩
      refine for_list (K := K) (a := m) (xs := ma.map V.ref) (fun i σ' H' => ∃ (en : List En) (S : Int → List Sd) (y5 : Option V), σ' = [some (.ref m), some (.int (p : Int)), some v, some (.ref sd), some (.ref d), y5, none, none, none, none, none] ∧ CW H' la d sd en S ∧ Same H (cutM (mt d en (A3 la)) H') ∧ KO (kyP p) en ∧ (tot en).length ≤ i * 6000 ∧ MI p S (fun q => q ∈ tot en) (M.take i))
        ⟨[], fun _ => [], none, rfl, C0, s0d, (fun e he => by cases he), Nat.zero_le _, ⟨fun σ _ q hq => (by cases hq), fun σ _ q hq => (by cases hq), List.Perm.refl _, fun q hq => (by cases hq), fun a b ⟨σ, _, q, hq, _⟩ => (by cases hq)⟩⟩
        (fun i σ' H' _ ⟨en, S, _, _, _, sH, _⟩ => SqL.of ((sH.trans cut_le) _ _ hm)) (fun i x σ' H5 hx hI => ?_) (fun σ' H5 hI => ?_)
      · obtain ⟨en, S, y5, rfl, C5, s5, ko, tl, I⟩ := hI
        obtain ⟨c, hc, rfl⟩ := refAt hx
        obtain ⟨r, hr1, hr2⟩ := (hM.same (s5.trans cut_le)).at hc
        have hrm := List.mem_of_getElem? hr1
        have hrl := CP.len r hrm
        have hi : i < M.length := (List.getElem?_eq_some_iff.mp hr1).1
        have hal : (allS S).length = i := by
          rw [I.prm.length_eq, List.length_take]
          omega
        refine ⟨.ref c, rfl, .int (p : Int), rfl, .ref sd, rfl, .ref d, rfl, c, p, sd, d, la, en, S, r, rfl, C5, hr2, by omega, by omega, I.sz, fun σ hσ => ?_, ?_, ko, fun H6 en6 C6 s6 ko6 l6 m6 => ?_⟩
        · have := side_le (S := S) hσ
          omega
        · have : sizeLine = 16777216 := by decide
          omega
        · refine ⟨en6, _, _, rfl, C6, s5.trans s6, ko6, by omega, ?_⟩
          rw [List.take_add_one, hr1]
          exact I.step m6
      · obtain ⟨en, S, y5, rfl, C5, s5, ko, tl, I⟩ := hI
        rw [List.length_map, hMl] at tl I
        rw [List.take_length] at I
        exact ⟨en, S, y5, rfl, C5, s5, ko, tl, I⟩
    rintro σ' H5 ⟨en, S, y5, rfl, C5, s5, ko5, l5, I5⟩
    -- the loop
    let Wv : Nat → L2.St → Hp → Prop := fun mm σ' H' => ∃ (en : List En) (S : Int → List Sd) (k : Int) (y5 y6 y7 y8 : Option V), σ' = [some (.ref m), some (.int (p : Int)), some v, some (.ref sd), some (.ref d), y5, y6, y7, y8, none, none] ∧ CW H' la d sd en S ∧ Same H (cutM (mt d en (A3 la)) H') ∧ KO (kyP p) en ∧ CI L p n f s kb S (fun q => q ∈ tot en) k ∧ (tot en).length ≤ (allS S).length * 6000 ∧ mm = (tot en).length + (1332 - (allS S).length) * 6000
    refine ⟨Wv, ⟨_, en, S, 0, y5, none, none, none, rfl, C5, s5, ko5, I5.ci CP, by rw [I5.prm.length_eq]; exact l5, rfl⟩, ?_⟩
    clear C5 s5 ko5 l5 I5 en S y5 C0 s0d
    rintro mm σ' H5 ⟨en, S, k, y5, y6, y7, y8, rfl, C5, s5, ko5, I5, l5, rfl⟩
    have few5 := I5.few Bd
    refine ⟨.ref d, rfl, _, .inr (.inr ⟨_, C5.wd.dict, rfl⟩), ?_⟩
    by_cases hen : en = []
    · -- nothing waits
      subst hen
      refine iteF ?_
      refine ⟨1, rfl, sz_3 _ _ _, fun tt ntt => ?_⟩
      have st := same_new (o := .tup [.int (-1), .int 0, .int 1]) ntt
      have C6 := C5.same st
      have s6 := s5.trans (cut_same st)
      have htt : upd H5 tt (.tup [.int (-1), .int 0, .int 1]) tt = some (.tup [.int (-1), .int 0, .int 1]) := upd_same
      refine ⟨tt, rfl, ⟨_, SqT.of htt⟩, fun D nD => ?_⟩
      change (upd H5 tt (.tup [.int (-1), .int 0, .int 1])) D = none at nD
      generalize hH6 : upd H5 tt (.tup [.int (-1), .int 0, .int 1]) = H6 at C6 s6 htt nD
      have e6 : upd H5 tt (HO.tup [.int (-1), .int 0, .int 1]) = H6 := hH6
      refine ⟨fun a mm H' => a + mm = 3 ∧ Same H6 H' ∧ ∃ ds : List Addr, H' D = some (.lst (ds.map V.ref)) ∧ Rows H' ds ((preS S a).map (·.2)), ⟨3, rfl, by rw [← e6]; exact same_new (by rw [e6]; exact nD), [], upd_same, True.intro⟩, fun a mm H7 hW => ?_⟩
      obtain ⟨em, s7, hds⟩ := hW
      by_cases ha : a < 3
      · have hx : ([V.int (-1), V.int 0, V.int 1] : List V)[a]? = some (.int ((a : Int) - 1)) := by
          match a, ha with
          | 0, _ => rfl
          | 1, _ => rfl
          | 2, _ => rfl
        have h3 : Sg3 ((a : Int) - 1) := by unfold Sg3; omega
        refine .inr ⟨⟨_, _, SqT.of (s7 _ _ htt), hx⟩, fun H' => Same H6 H' ∧ ∃ ds : List Addr, H' D = some (.lst (ds.map V.ref)) ∧ Rows H' ds ((preS S (a + 1)).map (·.2)), fun H' hN => ⟨mm - 1, by omega, by omega, hN⟩, fun x H8 hy => ?_⟩
        obtain ⟨rfl, f8⟩ := hy
        have ex := Option.some.inj ((f8 _ (SqT.of (s7 _ _ htt))).symm.trans hx)
        subst ex
        obtain ⟨τ, eτ⟩ : ∃ τ : Int, (a : Int) - 1 = τ := ⟨_, rfl⟩
        rw [preS_more ha, eτ]
        rw [eτ] at h3
        have C7 := C6.same s7
        obtain ⟨us, hus, hSd⟩ := C7.at_ τ h3
        have few6 : ((preS S a).map (·.2)).length ≤ 4000 := by
          have h1 := side_le (S := S) (σ := -1) (.inl rfl)
          have h2 := side_le (S := S) (σ := 0) (.inr (.inl rfl))
          rw [List.length_map]
          match a, ha with
          | 0, _ => exact Nat.zero_le _
          | 1, _ => show (S (-1)).length ≤ 4000; omega
          | 2, _ => show (S (-1) ++ S 0).length ≤ 4000; rw [List.length_append]; omega
        have fewτ := side_le (S := S) h3
        refine ⟨rfl, yes (iteT ?_)⟩
        refine ⟨.ref sd, rfl, .int τ, rfl, sd, _, rfl, C7.get h3, la τ, rfl, ⟨_, SqL.of hus⟩, ?_⟩
        refine ⟨fun j kk H' => j + kk = us.length ∧ Same H6 H' ∧ ∃ ds : List Addr, H' D = some (.lst (ds.map V.ref)) ∧ Rows H' ds ((preS S a ++ (S τ).take j).map (·.2)), ⟨us.length, by omega, s7, by rw [List.take_zero, List.append_nil]; exact hds⟩, fun j kk H9 hW9 => ?_⟩
        obtain ⟨em9, s9, hds9⟩ := hW9
        have C9 := C6.same s9
        have hus9 : H9 (la τ) = some (.lst us) := by
          obtain ⟨us', hus', _⟩ := C6.at_ τ h3
          have e1 := s7 _ _ hus'
          rw [hus] at e1
          cases e1
          exact s9 _ _ hus'
        by_cases hj : j < us.length
        · have hjx : us[j]? = some (us[j]'hj) := List.getElem?_eq_getElem hj
          refine .inr ⟨⟨_, _, SqL.of hus9, hjx⟩, fun H' => Same H6 H' ∧ ∃ ds : List Addr, H' D = some (.lst (ds.map V.ref)) ∧ Rows H' ds ((preS S a ++ (S τ).take (j + 1)).map (·.2)), fun H' hN => ⟨kk - 1, by omega, by omega, hN⟩, fun x H10 hy => ?_⟩
          obtain ⟨rfl, f10⟩ := hy
          have ex := Option.some.inj ((f10 _ (SqL.of hus9)).symm.trans hjx)
          subst ex
          obtain ⟨us2, hus2, hSd2⟩ := C9.at_ τ h3
          rw [hus9] at hus2
          cases hus2
          obtain ⟨o, ho, t2, ra, e2, ht2, hra⟩ := hSd2.at hjx
          rw [e2]
          refine ⟨t2, _, rfl, SqT.of (cut_le _ _ ht2), rfl, _, _, rfl, _, _, rfl, rfl, rfl, yes (iteT ?_)⟩
          refine ⟨.ref ra, rfl, ?_⟩
          have := row_more (cc := o.2) nD s9 hds9 (by
            rw [List.map_append, List.length_append, List.length_map (as := (S τ).take j), List.length_take]
            omega) (Same.refl _) (cut_le _ _ hra)
          rw [List.take_add_one, ho, ← List.append_assoc, List.map_append]
          exact this
        · refine .inl ⟨⟨_, SqL.of hus9, by omega⟩, s9, ?_⟩
          have el := hSd.1
          rw [List.take_of_length_le (by omega)] at hds9
          exact hds9
      · have ea : a = 3 := by omega
        subst ea
        have ep : (preS S 3).map (·.2) = allS S := rfl
        rw [ep] at hds
        obtain ⟨ds, hD, hR⟩ := hds
        refine .inl ⟨⟨_, SqT.of (s7 _ _ htt), show 3 ≤ 3 from Nat.le_refl _⟩, ?_⟩
        have s07 := (s6.trans cut_le).trans s7
        have hDn : H D = none := by
          cases e : H D with
          | none => rfl
          | some o => rw [(s6.trans cut_le) _ _ e] at nD; cases nD
        exact q H7 D ds (allS S) s07 hDn hD hR (I5.post Bd fun q hq => by cases hq)
    · -- the least key
      have hne : (!(kvE en).isEmpty) = true := by
        unfold kvE
        cases en with
        | nil => exact absurd rfl hen
        | cons e en => rfl
      refine (if_pos hne).mpr ?_
      have hkeys : (kvE en).map (·.1) = (en.map (·.1)).map Sum.inl := by
        unfold kvE
        rw [List.map_map, List.map_map]
        rfl
      have hnk : en.map (·.1) ≠ [] := fun z => hen (List.map_eq_nil_iff.mp z)
      refine ⟨fun σ' H' => ∃ m', m' < (tot en).length + (1332 - (allS S).length) * 6000 ∧ Wv m' σ' H', fun σ' H' h => h, ?_⟩
      refine ⟨.ref d, rfl, d, rfl, .inl ⟨_, .inl C5.wd.dict⟩, .ref d, rfl, d, kvE en, en.map (·.1), rfl, C5.wd.dict, hkeys, hnk, fun kmin hkm hkl => ?_⟩
      obtain ⟨e, en1, vs, ev, mv1, hvs, nin, htr, hne2, N1, lt1, mt1, hein, hek, hsub⟩ := pop_key C5.wd C5.ne hkm
      refine ⟨kvE en, Sum.inl kmin, .ref e.2.1, C5.wd.dict, rfl, ev, ?_⟩
      have C6 := C5.mv mv1 N1
      have c6 := mv1.cut
      generalize upd H5 d (.dK (dropK (kvE en) (Sum.inl kmin))) = H6 at C6 c6 hvs htr ⊢
      have hvl : cutM (mt d en1 (A3 la)) H6 e.2.1 = some (.lst vs) := cut_of nin hvs
      have ko1 : KO (kyP p) en1 := fun x hx => ko5 x (hsub x hx)
      have s6 := s5.trans c6
      have hmin : ∀ q, q ∈ tot en → kmin ≤ kyP p q := fun q hq => by
        obtain ⟨x, hx, hqx⟩ := List.mem_flatMap.mp hq
        rw [ko5 x hx q hqx]
        exact hkl _ (List.mem_map_of_mem hx)
      have I6 : CI L p n f s kb S (fun q => q ∈ tot en1 ∨ q ∈ e.2.2.drop 0) kmin := (I5.key hmin).sub fun q => by rw [List.drop_zero]; exact mt1 q
      have hke : ∀ q ∈ e.2.2, kyP p q = kmin := fun q hq => by rw [ko5 e hein q hq, hek]
      have pos2 : 0 < e.2.2.length := List.length_pos_iff.mpr hne2
      let Pw : Nat → L2.St → Hp → Prop := fun j σ' H' => ∃ (en' : List En) (S' : Int → List Sd) (y5 y7 y8 : Option V), σ' = [some (.ref m), some (.int (p : Int)), some v, some (.ref sd), some (.ref d), y5, some (.ref e.2.1), y7, y8, none, none] ∧ CW H' la d sd en' S' ∧ Same (cutM (mt d en1 (A3 la)) H6) (cutM (mt d en' (A3 la)) H') ∧ KO (kyP p) en' ∧ CI L p n f s kb S' (fun q => q ∈ tot en' ∨ q ∈ e.2.2.drop j) kmin ∧ (tot en').length ≤ (allS S').length * 6000 ∧ (tot en').length + (1332 - (allS S').length) * 6000 ≤ (tot en1).length + (1332 - (allS S).length) * 6000
      refine ⟨.ref e.2.1, rfl, e.2.1, rfl, ⟨_, SqL.of hvs⟩, for_list (K := K) (a := e.2.1) (xs := vs) Pw ⟨en1, S, y5, y7, y8, rfl, C6, Same.refl _, ko1, I6, by omega, Nat.le_refl _⟩ (fun j σ' H' _ ⟨_, _, _, _, _, _, _, c, _⟩ => SqL.of (cut_le _ _ (c _ _ hvl))) ?_ ?_⟩
      · rintro j x σ' H7 hx ⟨en7, S7, y5, y7, y8, rfl, C7, c7, ko7, I7, l7, m7⟩
        obtain ⟨t, ht1, tt, xa, oa, rfl, htt, hxa, hoa⟩ := (htr.same c7).at hx
        have hjl : j < e.2.2.length := (List.getElem?_eq_some_iff.mp ht1).1
        have hdrop : e.2.2.drop j = t :: e.2.2.drop (j + 1) := by
          rw [List.drop_eq_getElem_cons hjl]
          congr 1
          rw [List.getElem?_eq_getElem hjl] at ht1
          exact Option.some.inj ht1
        have htm : t ∈ e.2.2 := List.mem_of_getElem? ht1
        obtain ⟨wa, wb, _⟩ := I7.win t (.inr (by rw [hdrop]; exact List.mem_cons_self))
        have hd1 : ∀ q, (q ∈ tot en7 ∨ q ∈ e.2.2.drop j) → q = (t.1, t.2) ∨ (q ∈ tot en7 ∨ q ∈ e.2.2.drop (j + 1)) := fun q hq => by
          rw [hdrop] at hq
          rcases hq with h | h
          · exact .inr (.inl h)
          · rcases List.mem_cons.mp h with h | h
            · exact .inl h
            · exact .inr (.inr h)
        have hd2 : ∀ q, (q ∈ tot en7 ∨ q ∈ e.2.2.drop (j + 1)) → (q ∈ tot en7 ∨ q ∈ e.2.2.drop j) := fun q hq => by
          rw [hdrop]
          exact hq.elim .inl fun h => .inr (List.mem_cons_of_mem _ h)
        have few7 := I7.few Bd
        have la7 := I7.len t.1 wa
        have lb7 := I7.len t.2 wb
        have hkfb := CP.kfb
        have hkb := CP.kb
        obtain ⟨r1, r2, r3, r4, r5⟩ := pair_row hp CP.fr (K := kb + 2 * (allS S7).length) (by omega) la7 lb7 (I7.ent _ wa) (I7.ent _ wb) (I7.five Bd wa) (I7.five Bd wb)
        have hx7 : IntsAt H7 xa t.1 := hxa.same cut_le
        have ho7 : IntsAt H7 oa t.2 := hoa.same cut_le
        have hf7 : frV H7 v f := hf.same ((s6.trans c7).trans cut_le)
        refine ⟨tt, _, rfl, SqT.of (cut_le _ _ htt), rfl, _, _, rfl, _, _, rfl, rfl, ?_⟩
        refine ⟨.ref xa, rfl, .ref oa, rfl, 1, rfl, xa, oa, t.1, t.2, -1, 0, kb + 2 * (allS S7).length, rfl, hx7, ho7, by omega, by omega, by decide, I7.ent _ wb, by omega, fun H8 p8 s8 h8 => ?_⟩
        refine ⟨.int (p : Int), rfl, v, rfl, p8, p, v, _, f, kf, rfl, h8, by omega, by omega, hf7.same s8, fun g hg => by rw [r1]; exact CP.fr g hg, by omega, by omega, by omega, fun H9 z s9 h9 => ?_⟩
        have s79 := s8.trans s9
        generalize trimR p f (subR t.1 t.2 (-1)) = tr at r3 r4 r5 h9
        refine ⟨.ref z, rfl, .int (p : Int), rfl, .ref sd, rfl, z, p, sd, d, la, en7, S7, tr, rfl, C7.same s79, h9, by omega, by omega, fun σ hσ q hq => by rw [I7.len q.2 ⟨σ, hσ, q, hq, rfl⟩, r3], fun H10 s10 => ⟨fun hn => ⟨_, rfl, iteT ?_⟩, fun hn => ⟨_, rfl, iteF ?_⟩⟩⟩
        · have s710 := s79.trans s10
          refine ⟨.ref z, rfl, .int (p : Int), rfl, .ref sd, rfl, .ref d, rfl, z, p, sd, d, la, en7, S7, tr, rfl, C7.same s710, h9.same s10, by omega, by omega, I7.sz, fun σ hσ => ?_, ?_, ko7, fun H11 en11 C11 c11 ko11 l11 m11 => ?_⟩
          · have := side_le (S := S7) hσ
            omega
          · have : sizeLine = 16777216 := by decide
            omega
          · have IN := I7.new hn wa wb r4 r3 r5 (hke t htm) hd1 hd2 (W'' := fun q => q ∈ tot en11 ∨ q ∈ e.2.2.drop (j + 1)) fun q => by
              show (q ∈ tot en11 ∨ _) ↔ _
              rw [m11 q]
              constructor
              · rintro ((h | h) | h)
                · exact .inl (.inl h)
                · exact .inr h
                · exact .inl (.inr h)
              · rintro ((h | h) | h)
                · exact .inl (.inl h)
                · exact .inr h
                · exact .inl (.inr h)
            have hlen : (allS (addS S7 (sgnI (tr.getD p 0)) (szR p tr, tr))).length = (allS S7).length + 1 := by
              rw [(addS_perm (sgn3 _)).length_eq, List.length_cons]
            refine ⟨en11, _, _, _, _, rfl, C11, c7.trans ((cut_same s710).trans c11), ko11, IN, ?_, ?_⟩
            · rw [hlen]
              omega
            · rw [hlen]
              omega
        · have s710 := s79.trans s10
          exact ⟨en7, S7, _, _, _, rfl, C7.same s710, c7.trans (cut_same s710), ko7, I7.old hn wa wb r4 hd1 hd2, l7, m7⟩
      · rintro σ' H7 ⟨en7, S7, y5, y7, y8, rfl, C7, c7, ko7, I7, l7, m7⟩
        refine ⟨_, ?_, en7, S7, kmin, y5, _, y7, y8, rfl, C7, s6.trans c7, ko7, I7.sub fun q => ⟨fun h => h.elim id fun h => ?_, .inl⟩, l7, rfl⟩
        · omega
        · rw [htr.1, List.drop_length] at h
          cases h
end
end HL

set_option pp.maxSteps 3000
namespace HL
open PySem PySem.Spec PyProof.Rows L2
open C8 (pss_cut)
abbrev sSignRows : Stmt := topS 37
abbrev NSr : List Str := ["many", "rows", "place", "row", "sign"]
theorem scSr : FnScope NSr ["many"] (defScope sSignRows) := ⟨rfl, rfl, rfl, by decide +kernel, rfl, by decide +kernel, by decide +kernel⟩
/-! ### rows of signs -/
def extS (i : Nat) (r : List Int) : List (List Int) := if 0 < i then [r ++ [1], r ++ [-1]] else [r ++ [1]]
def sgL : Nat → List (List Int)
  | 0 => [[]]
  | k + 1 => (sgL k).flatMap (extS k)
theorem extS_len {i : Nat} {r : List Int} : (extS i r).length ≤ 2 := by
  unfold extS
  split <;> simp
theorem sgL_len : ∀ {k : Nat}, (sgL k).length ≤ 2 ^ k
  | 0 => Nat.le_refl _
  | k + 1 => by
    have ih := sgL_len (k := k)
    show ((sgL k).flatMap (extS k)).length ≤ 2 ^ (k + 1)
    have : ∀ l : List (List Int), (l.flatMap (extS k)).length ≤ 2 * l.length := fun l => by
      induction l with
      | nil => exact Nat.le_refl _
      | cons a l ihl =>
        rw [List.flatMap_cons, List.length_append, List.length_cons]
        have := extS_len (i := k) (r := a)
        omega
    have := this (sgL k)
    rw [Nat.pow_succ]
    omega
theorem sgL_ok : ∀ {k : Nat}, ∀ r ∈ sgL k, r.length = k ∧ ∀ x ∈ r, x = 1 ∨ x = -1
  | 0, r, h => by
    have : r = [] := List.mem_singleton.mp h
    rw [this]
    exact ⟨rfl, fun x hx => by cases hx⟩
  | k + 1, r, h => by
    obtain ⟨q, hq, hr⟩ := List.mem_flatMap.mp h
    obtain ⟨h1, h2⟩ := sgL_ok q hq
    have hr : r = q ++ [1] ∨ r = q ++ [-1] := by
      unfold extS at hr
      split at hr
      · rcases List.mem_cons.mp hr with e | e
        · exact .inl e
        · exact .inr (List.mem_singleton.mp e)
      · exact .inl (List.mem_singleton.mp hr)
    rcases hr with e | e <;> rw [e]
    · refine ⟨by rw [List.length_append, h1]; rfl, fun x hx => (List.mem_append.mp hx).elim (h2 x) fun hx => .inl (List.mem_singleton.mp hx)⟩
    · refine ⟨by rw [List.length_append, h1]; rfl, fun x hx => (List.mem_append.mp hx).elim (h2 x) fun hx => .inr (List.mem_singleton.mp hx)⟩
theorem getD_app {r : List Int} {x : Int} {i : Nat} : (r ++ [x]).getD i 0 = if i < r.length then r.getD i 0 else if i = r.length then x else 0 := by
  rw [List.getD_eq_getElem?_getD]
  by_cases c : i < r.length
  · rw [if_pos c, List.getElem?_append_left c, List.getD_eq_getElem?_getD]
  · rw [if_neg c, List.getElem?_append_right (by omega)]
    by_cases e : i = r.length
    · rw [if_pos e, e, Nat.sub_self]; rfl
    · rw [if_neg e, List.getElem?_eq_none (by rw [List.length_singleton]; omega)]; rfl
/-- signs whose first is 1 are told -/
theorem sgL_has {s : Nat → Int} (S : ∀ i, s i = 1 ∨ s i = -1) (h0 : s 0 = 1) : ∀ {k : Nat}, ∃ r ∈ sgL k, ∀ i, i < k → r.getD i 0 = s i
  | 0 => ⟨[], List.mem_singleton.mpr rfl, fun i h => by omega⟩
  | k + 1 => by
    obtain ⟨r, hr, h⟩ := sgL_has S h0 (k := k)
    obtain ⟨l, _⟩ := sgL_ok r hr
    refine ⟨r ++ [s k], List.mem_flatMap.mpr ⟨r, hr, ?_⟩, fun i hi => ?_⟩
    · unfold extS
      by_cases c : 0 < k
      · rw [if_pos c]
        rcases S k with e | e <;> rw [e] <;> simp
      · rw [if_neg c, show k = 0 by omega, h0]
        exact List.mem_singleton.mpr rfl
    · rw [getD_app]
      by_cases c : i < r.length
      · rw [if_pos c]; exact h i (by omega)
      · rw [if_neg c, if_pos (by omega), show i = k by omega]
def extJ (i : Nat) (r : List Int) : Nat → List (List Int)
  | 0 => []
  | 1 => [r ++ [1]]
  | _ => extS i r
theorem sign_test {a b c : V} {i : Nat} {x : Int} {H : Hp} {Q : Bool → Hp → Prop} (h1 : (0 < i ∨ x = 1) → Q true H) (h2 : ¬ (0 < i ∨ x = 1) → Q false H) : tOr (tTest (tOp (rI0 fun i j => .bl (decide (j < i))) (tVar 2) (tC (.int 0)))) (tTest (tOp rEq (tVar 4) (tC (.int 1)))) [some a, some b, some (.int (i : Int)), some c, some (.int x)] H Q := by
  refine ⟨.int (i : Int), rfl, _, _, rfl, rfl, _, rfl, ite2 (fun c => ?_) (fun c => ?_)⟩
  · have c := of_decide_eq_true c
    exact h1 (.inl (by omega))
  · have c : ¬ (0 : Int) < (i : Int) := fun z => c (decide_eq_true z)
    refine ⟨.int x, rfl, rfl, _, rfl, ?_⟩
    by_cases e : x = 1
    · rw [decide_eq_true (congrArg V.int e)]
      exact h1 (.inr e)
    · rw [decide_eq_false fun z => e (V.int.inj z)]
      exact h2 fun z => z.elim (fun z => c (by omega)) e
section
variable {P : Program} {w : World} {K : PySem.W.Frag} {mg : Str → Option Value} {base : Heap}
def spSignRows : Sp := fun vs H Q _ => ∃ (k : Nat), vs = [.int (k : Int)] ∧ k ≤ 5 ∧ ∀ H' l ra, Same H H' → H' l = some (.lst (ra.map V.ref)) → Rows H' ra (sgL k) → Q (.ref l) H'
theorem ok_signRows {f : Addr} {fd : FuncData} {k : Nat} (F : Fun K "sign_rows" "sign_rows" sSignRows f fd) (B : Bl mg) : FnOk P w K mg base CX0 (k + 1) f fd ["many"] spSignRows := by
  refine F.ok scSr (fun vs H Q E h => ?_) (fun cdv A outer s H vs Q E hr h => ?_)
  · obtain ⟨k, rfl, _⟩ := h
    rfl
  · obtain ⟨k, rfl, hk, q⟩ := h
    refine ⟨_, (pss_cons (ps_set (i := 1) scSr.nd rfl (.inl rfl) (pe_lst (pa_cons (pe_tup pa_nil) pa_nil)))
      (pss_cons (ps_for PassesOwn.never rfl (pi_range1 (by rfl) B.range (pa_cons (pv 0) pa_nil)) (pg_name (i := 2) scSr.nd rfl (.inr rfl))
        (pss_one (ps_setLc2 (i := 1) (own := [("row", 3), ("sign", 4)]) (vs1 := [4]) (g := gName 3) (g1 := gName 4) (wi1 := iTup K (tTup (tCons (tC (.int 1)) (tCons (tUn (rU fun i => .int (-i)) (tC (.int 1))) tNil)))) (tt := tYes) (tt1 := tOr (tTest (tOp (rI0 fun i j => .bl (decide (j < i))) (tVar 2) (tC (.int 0)))) (tTest (tOp rEq (tVar 4) (tC (.int 1))))) (te := tOp (rCatA K) (tVar 3) (tTup (tCons (tVar 4) tNil))) rfl scSr.nd rfl rfl (sw_true rfl rfl rfl (by decide +kernel)) (pi_list (pv 1))
          (blkOk_by (own := [("row", 3), ("sign", 4)]) (N := NSr) (sc := defScope sSignRows) (by decide +kernel)) (by decide) (fun _ _ _ _ _ => pg_name (i := 3) scSr.nd rfl (Or.inl rfl)) (fun _ _ _ _ _ => pts_nil)
          (fun _ _ _ _ _ => pi_tup (pe_tup (pa_cons pe_int (pa_cons (pe_un un_neg pe_int) pa_nil)))) (fun _ _ _ _ _ => pg_name (i := 4) scSr.nd rfl (Or.inl rfl))
          (fun _ _ _ _ _ => pts_one (PW.pt (pw_or (pt_cmpR op_gt (pv 2) pe_int (nomark _)) (pw_or1 (pt_cmpR op_eq (pv 4) pe_int (nomark _))))))
          (fun _ _ _ _ _ => pe_op (r := rCatA K) op_catA (pv 3) (pe_tup (pa_cons (pv 4) pa_nil))))))
      (pss_one (ps_ret (pv 1))))), ?_⟩
    refine ⟨Nat.zero_le _, fun t0 nt0 => ⟨sz_1 _, fun l0 nl0 => ?_⟩⟩
    have s0 := (same_new (o := .tup []) nt0).trans (same_new (o := .lst [.ref t0]) nl0)
    refine ⟨.int (k : Int), rfl, (k : Int), rfl, by omega, by omega, ?_⟩
    refine for_range (lo := 0) (n := ((k : Nat) : Int).toNat) (fun i σ' H' => ∃ (l : Addr) (bs : List Addr) (y2 : Option V), σ' = [some (.int (k : Int)), some (.ref l), y2, none, none] ∧ Same H H' ∧ H' l = some (.lst (bs.map V.ref)) ∧ Rows H' bs (sgL i)) ⟨l0, [t0], none, rfl, s0, upd_same, ⟨(same_new nl0) _ _ upd_same, True.intro⟩⟩ (fun i σ' H3 hi hI => ?_) (fun σ' H3 hI => ?_)
    · obtain ⟨l, bs, y2, rfl, s3, hl, hR⟩ := hI
      have hi' : i < k := by omega
      have ez : (0 : Int) + (i : Nat) = ((i : Nat) : Int) := by omega
      rw [ez]
      have hbl := hR.len
      have few : (sgL i).length ≤ 32 := Nat.le_trans sgL_len (Nat.pow_le_pow_right (n := 2) (by decide) (show i ≤ 5 by omega))
      have fewA : ∀ a, (((sgL i).take a).flatMap (extS i)).length ≤ 64 := fun a => by
        have : ∀ l : List (List Int), (l.flatMap (extS i)).length ≤ 2 * l.length := fun l => by
          induction l with
          | nil => exact Nat.le_refl _
          | cons a l ihl =>
            rw [List.flatMap_cons, List.length_append, List.length_cons]
            have := extS_len (i := i) (r := a)
            omega
        have h1 := this ((sgL i).take a)
        have h2 := List.length_take_le' a (sgL i)
        omega
      refine ⟨.ref l, rfl, l, rfl, ⟨_, SqL.of hl⟩, fun D nD => ?_⟩
      refine ⟨fun a mm H' => a + mm = bs.length ∧ Same H3 H' ∧ ∃ ds : List Addr, H' D = some (.lst (ds.map V.ref)) ∧ Rows H' ds (((sgL i).take a).flatMap (extS i)), ⟨bs.length, by omega, same_new nD, [], upd_same, True.intro⟩, fun a mm H4 hW => ?_⟩
      obtain ⟨em, s4, hds⟩ := hW
      by_cases ha : a < bs.length
      · have hba : bs[a]? = some (bs[a]'ha) := List.getElem?_eq_getElem ha
        generalize bs[a]'ha = cb at hba
        obtain ⟨c, hc1, hc2⟩ := hR.at hba
        have hli : H4 l = some (.lst (bs.map V.ref)) := s4 _ _ hl
        have g1 : (bs.map V.ref)[a]? = some (.ref cb) := by rw [List.getElem?_map, hba]; rfl
        have hcl := (sgL_ok c (List.mem_of_getElem? hc1)).1
        have etk : ((sgL i).take (a + 1)).flatMap (extS i) = ((sgL i).take a).flatMap (extS i) ++ extS i c := by
          rw [List.take_add_one, hc1, List.flatMap_append]
          simp
        refine .inr ⟨⟨_, _, SqL.of hli, g1⟩, fun H5 => Same H3 H5 ∧ ∃ ds : List Addr, H5 D = some (.lst (ds.map V.ref)) ∧ Rows H5 ds (((sgL i).take (a + 1)).flatMap (extS i)), fun H5 hN => ⟨mm - 1, by omega, by omega, hN⟩, fun x H5 hy => ?_⟩
        rw [etk]
        obtain ⟨rfl, f5⟩ := hy
        have exx := Option.some.inj ((f5 _ (SqL.of hli)).symm.trans g1)
        subst exx
        refine ⟨rfl, yes (iteT ?_)⟩
        refine ⟨1, rfl, sz_2 _ _, fun tt ntt => ?_⟩
        have st := same_new (o := .tup [.int 1, .int (-1)]) ntt
        have hds5 : ∃ ds : List Addr, (upd H5 tt (.tup [.int 1, .int (-1)])) D = some (.lst (ds.map V.ref)) ∧ Rows (upd H5 tt (.tup [.int 1, .int (-1)])) ds (((sgL i).take a).flatMap (extS i)) := by
          obtain ⟨ds, d1, d2⟩ := hds
          exact ⟨ds, st _ _ d1, d2.same st⟩
        have htt : (upd H5 tt (.tup [.int 1, .int (-1)])) tt = some (.tup [.int 1, .int (-1)]) := upd_same
        have s5 := s4.trans st
        refine ⟨tt, rfl, ⟨_, SqT.of htt⟩, ?_⟩
        change ∃ W1 : Nat → Nat → Hp → Prop, (∃ m, W1 0 m (upd H5 tt (.tup [.int 1, .int (-1)]))) ∧ _
        generalize upd H5 tt (.tup [.int 1, .int (-1)]) = H6 at hds5 htt s5
        refine ⟨fun j kk H' => j + kk = 2 ∧ Same H3 H' ∧ H' tt = some (.tup [.int 1, .int (-1)]) ∧ ∃ ds : List Addr, H' D = some (.lst (ds.map V.ref)) ∧ Rows H' ds (((sgL i).take a).flatMap (extS i) ++ extJ i c j), ⟨2, rfl, s5, htt, by rw [show extJ i c 0 = [] from rfl, List.append_nil]; exact hds5⟩, fun j kk H7 hW7 => ?_⟩
        obtain ⟨em7, s7, htt7, hds7⟩ := hW7
        have nDt : tt ≠ D := fun e => by
          obtain ⟨ds, d1, _⟩ := hds7
          rw [← e, htt7] at d1
          cases d1
        have fin : ∀ (H8 H9 : Hp) (z : Addr) (x : Int) (j' : Nat), Same H7 H8 → Same H8 H9 → IntsAt H9 z (c ++ [x]) → extJ i c j' = extJ i c j ++ [c ++ [x]] → j < 2 →
            ∃ acc, H9 D = some (.lst acc) ∧ acc.length < sizeLine ∧ (Same H3 (upd H9 D (.lst (acc ++ [.ref z]))) ∧ (upd H9 D (.lst (acc ++ [.ref z]))) tt = some (.tup [.int 1, .int (-1)]) ∧ ∃ ds : List Addr, (upd H9 D (.lst (acc ++ [.ref z]))) D = some (.lst (ds.map V.ref)) ∧ Rows (upd H9 D (.lst (acc ++ [.ref z]))) ds (((sgL i).take a).flatMap (extS i) ++ extJ i c j')) := fun H8 H9 z x j' s8 s9 hz ej hj => by
          have l2 : (extJ i c j).length ≤ 1 := by
            match j, hj with
            | 0, _ => exact Nat.zero_le _
            | 1, _ => exact Nat.le_refl _
          obtain ⟨acc, m1, m2, m3, m4⟩ := row_more (cc := c ++ [x]) nD s7 hds7 (by
            rw [List.length_append]
            have := fewA a
            omega) (s8.trans s9) hz
          rw [ej, ← List.append_assoc]
          exact ⟨acc, m1, m2, m3, by rw [upd_ne nDt]; exact (s8.trans s9) _ _ htt7, m4⟩
        by_cases hj : j < 2
        · have hx : ([V.int 1, V.int (-1)] : List V)[j]? = some (.int (if j = 0 then 1 else -1)) := by
            match j, hj with
            | 0, _ => rfl
            | 1, _ => rfl
          refine .inr ⟨⟨_, _, SqT.of htt7, hx⟩, fun H' => Same H3 H' ∧ H' tt = some (.tup [.int 1, .int (-1)]) ∧ ∃ ds : List Addr, H' D = some (.lst (ds.map V.ref)) ∧ Rows H' ds (((sgL i).take a).flatMap (extS i) ++ extJ i c (j + 1)), fun H' hN => ⟨kk - 1, by omega, by omega, hN⟩, fun x H8 hy => ?_⟩
          obtain ⟨rfl, f8⟩ := hy
          have exx := Option.some.inj ((f8 _ (SqT.of htt7)).symm.trans hx)
          subst exx
          refine ⟨rfl, sign_test (fun cc => iteT ?_) (fun cc => iteF ?_)⟩
          · refine ⟨.ref cb, rfl, .int (if j = 0 then 1 else -1), rfl, sz_1 _, fun t nt => ?_⟩
            have st8 := same_new (o := .tup [.int (if j = 0 then 1 else -1)]) nt
            have hcc : IntsAt H8 cb c := s7 _ _ hc2
            refine cat_ints (ys := [if j = 0 then 1 else -1]) (hcc.same st8) (show IntsAt _ t [if j = 0 then 1 else -1] from upd_same) (by rw [List.length_singleton]; omega) fun z H9 s9 hz9 => ?_
            refine fin _ H9 z _ (j + 1) st8 s9 hz9 ?_ hj
            match j, hj, cc with
            | 0, _, _ => rfl
            | 1, _, cc =>
              have c0 : 0 < i := cc.elim id fun z => by simp at z
              show extS i c = [c ++ [1]] ++ [c ++ [-1]]
              unfold extS
              rw [if_pos c0]
              rfl
          · refine ⟨s7, htt7, ?_⟩
            have j1 : j = 1 := by
              refine Classical.byContradiction fun z => ?_
              have : j = 0 := by omega
              subst this
              exact cc (.inr rfl)
            subst j1
            have c0 : ¬ 0 < i := fun z => cc (.inl z)
            have ej : extJ i c (1 + 1) = extJ i c 1 := by
              show extS i c = [c ++ [1]]
              unfold extS
              rw [if_neg c0]
            rw [ej]
            exact hds7
        · have ej : j = 2 := by omega
          subst ej
          exact .inl ⟨⟨_, SqT.of htt7, show 2 ≤ 2 from Nat.le_refl _⟩, s7, hds7⟩
      · refine .inl ⟨⟨_, SqL.of (s4 _ _ hl), by rw [List.length_map]; omega⟩, ?_⟩
        obtain ⟨ds, d1, d2⟩ := hds
        rw [List.take_of_length_le (by omega)] at d2
        exact ⟨D, ds, _, rfl, s3.trans s4, d1, d2⟩
    · obtain ⟨l, bs, y2, rfl, s3, hl, hR⟩ := hI
      rw [Int.toNat_natCast] at hR
      exact ⟨.ref l, rfl, q H3 l bs s3 hl hR⟩
end
end HL

set_option pp.maxSteps 2000
namespace HL
open PySem PySem.Spec PyProof.Rows L2
open GR (Sys Least Nz EqP Cf Orth Sgn Han Latt pairT trimC Grb)
/-! ### one place more -/
def sV (g : List Int) : BL.Vec := fun i => if i < g.length then g.getD i 0 else 1
theorem sV_sgn {g : List Int} (h : ∀ x ∈ g, x = 1 ∨ x = -1) : Sgn (sV g) := fun i => by
  unfold sV
  by_cases c : i < g.length
  · rw [if_pos c, List.getD_eq_getElem?_getD, List.getElem?_eq_getElem c]
    exact h _ (List.getElem_mem c)
  · rw [if_neg c]
    exact .inl rfl
theorem hasS_iff {g r : List Int} (hl : g.length ≤ r.length) : hasS g r = true ↔ Orth (sV g) g.length (vz r) := by
  unfold hasS
  rw [List.all_eq_true]
  have e1 : ∀ i, i < g.length → sV g i = g.getD i 0 := fun i hi => by unfold sV; rw [if_pos hi]
  have gg : ∀ {l : List Int} {i : Nat} (h : i < l.length), l.getD i 0 = l[i] := fun {l i} h => by rw [List.getD_eq_getElem?_getD, List.getElem?_eq_getElem h]; rfl
  constructor
  · intro h i hi
    rw [e1 i hi, gg hi]
    show 0 ≤ g[i] * r.getD i 0
    rw [gg (show i < r.length by omega)]
    exact of_decide_eq_true (h (g[i], r[i]) (List.mem_iff_getElem.mpr ⟨i, by rw [List.length_zip]; omega, by rw [List.getElem_zip]⟩))
  · intro h q hq
    obtain ⟨i, hi, rfl⟩ := List.mem_iff_getElem.mp hq
    rw [List.length_zip] at hi
    rw [List.getElem_zip]
    have := h i (by omega)
    rw [e1 i (by omega), gg (show i < g.length by omega)] at this
    have this : 0 ≤ g[i] * r.getD i 0 := this
    rw [gg (show i < r.length by omega)] at this
    exact decide_eq_true this
theorem vz_ng {r : List Int} : vz (ngR r) = GR.ng (vz r) := funext fun i => by
  show (ngR r).getD i 0 = -r.getD i 0
  exact ngR_getD
theorem ngR_len {r : List Int} : (ngR r).length = r.length := by unfold ngR; rw [List.length_map]
theorem ngR_ent {M : Int} {r : List Int} (h : Ent M r) : Ent M (ngR r) := fun x hx => by
  unfold ngR at hx
  obtain ⟨y, hy, rfl⟩ := List.mem_map.mp hx
  have := h y hy
  omega
def smR (p : Nat) (f : Option (List Int)) (r : List Int) : List Int := match f with
  | none => r
  | some g => subR r g ((r.getD p 0).fdiv (g.getD p 0))
def lfR (p : Nat) (f : Option (List Int)) (R : List (List Int)) : List (List Int) := R.map (smR p f) ++ f.toList
def lfB (p : Nat) (f : Option (List Int)) (R : List (List Int)) : List (List Int) := lfR p f R ++ (lfR p f R).map ngR
structure LPre (L : BL.Vec → Prop) (p n : Nat) (f : Option (List Int)) (kb kf : Nat) (R : List (List Int)) : Prop where
  T : Latt L
  fr : GR.Fresh L p (fvO f)
  g : Grb L p (R.map vz)
  len : ∀ r ∈ R, r.length = n
  ent : ∀ r ∈ R, Ent (2 ^ kb) r
  fo : FrOk p n f kf
  few : R.length ≤ 1331
  kb : kb + kf + 6 ≤ 800000
  bnd : LBnd L (p + 1)
  hp : p < n
  hn : n ≤ 100
section
variable {L : BL.Vec → Prop} {p n : Nat} {f : Option (List Int)} {kb kf : Nat} {R : List (List Int)}
theorem LPre.sm (C : LPre L p n f kb kf R) : ∀ r ∈ R, (smR p f r).length = n ∧ Ent (2 ^ (kb + kf + 2)) (smR p f r) := fun r hr => by
  have l := C.len r hr
  have e := C.ent r hr
  cases hf : f with
  | none => exact ⟨l, e.mono (two_pow_mono (by omega))⟩
  | some g =>
    obtain ⟨g1, g2, g3, g4⟩ := C.fo g hf
    have hlg : r.length = g.length := by omega
    refine ⟨by show (subR r g _).length = n; rw [subR_len hlg]; exact l, ?_⟩
    have hk := two_pow_pos (a := kb)
    have hkf := two_pow_pos (a := kf)
    have b := e.at (by omega) p
    have q := quot_any (b := g.getD p 0) (by omega) b.1 b.2
    have s := sub_ent (q := (r.getD p 0).fdiv (g.getD p 0)) (t := 2 ^ kb + 1) (by omega) q.1 q.2 (by omega) e g4
    refine Ent.mono s ?_
    have e1 : (2 : Int) ^ (kb + kf + 2) = 4 * (2 ^ kb * 2 ^ kf) := by
      rw [Int.pow_add, Int.pow_add]
      show _ * 4 = _
      rw [Int.mul_comm]
    rw [e1, Int.add_mul]
    have m1 : (2 : Int) ^ kb * 1 ≤ 2 ^ kb * 2 ^ kf := Int.mul_le_mul_of_nonneg_left (by omega) (by omega)
    have m2 : 1 * (2 : Int) ^ kf ≤ 2 ^ kb * 2 ^ kf := Int.mul_le_mul_of_nonneg_right (by omega) (by omega)
    omega
theorem LPre.lf (C : LPre L p n f kb kf R) : ∀ r ∈ lfR p f R, r.length = n ∧ Ent (2 ^ (kb + kf + 2)) r := fun r hr => by
  unfold lfR at hr
  rcases List.mem_append.mp hr with h | h
  · obtain ⟨q, hq, rfl⟩ := List.mem_map.mp h
    exact C.sm q hq
  · obtain ⟨g1, _, _, g4⟩ := C.fo r (Option.mem_toList.mp h)
    exact ⟨g1, g4.mono (two_pow_mono (by omega))⟩
theorem LPre.lb (C : LPre L p n f kb kf R) : ∀ r ∈ lfB p f R, r.length = n ∧ Ent (2 ^ (kb + kf + 2)) r := fun r hr => by
  unfold lfB at hr
  rcases List.mem_append.mp hr with h | h
  · exact C.lf r h
  · obtain ⟨q, hq, rfl⟩ := List.mem_map.mp h
    obtain ⟨a, b⟩ := C.lf q hq
    exact ⟨ngR_len.trans a, ngR_ent b⟩
theorem lfR_len : (lfR p f R).length ≤ R.length + 1 := by
  unfold lfR
  rw [List.length_append, List.length_map]
  cases f <;> simp
theorem LPre.small (C : LPre L p n f kb kf R) : GR.Small L p (fvO f) ((R.map (smR p f)).map vz) := by
  cases hf : f with
  | none =>
    have h := C.g
    have e : (R.map (smR p none)).map vz = R.map vz := by rw [List.map_map]; rfl
    rw [e]
    exact GR.small_none h rfl
  | some g =>
    obtain ⟨g1, g2, g3, g4⟩ := C.fo g hf
    have fr := C.fr
    rw [hf] at fr
    have h := GR.small_of C.T fr C.g (fun x => (x p).fdiv (g.getD p 0)) fun _ r hr => by
      have := fdiv_pos (a := r p) g2
      exact this
    have e : (R.map (smR p (some g))).map vz = (R.map vz).map fun r => fun i => r i - (r p).fdiv (g.getD p 0) * (fvO (some g)) i := by
      rw [List.map_map, List.map_map]
      refine List.map_congr_left fun r hr => funext fun i => ?_
      show (subR r g _).getD i 0 = r.getD i 0 - (r.getD p 0).fdiv (g.getD p 0) * g.getD i 0
      rw [subR_get (by rw [C.len r hr, g1])]
    rw [e]
    exact h
theorem fvO_pos (C : LPre L p n f kb kf R) : 0 < fvO f p ↔ ∃ g, f = some g := by
  constructor
  · intro h
    cases f with
    | none =>
      have : (0 : Int) < 0 := h
      omega
    | some g => exact ⟨g, rfl⟩
  · rintro ⟨g, e⟩
    rw [e]
    exact (C.fo g e).2.1
theorem LPre.mem (C : LPre L p n f kb kf R) {g : List Int} (hg : g.length = p) : GR.Mem p (fvO f) (sV g) ((R.map (smR p f)).map vz) (((lfB p f R).filter (hasS g)).map vz) where
  mem x := by
    have key : ∀ r ∈ lfB p f R, hasS g r = true ↔ Orth (sV g) p (vz r) := fun r hr => by
      have := C.lb r hr
      have hp := C.hp
      rw [hasS_iff (by omega), hg]
    constructor
    · intro h
      obtain ⟨r, hr, rfl⟩ := List.mem_map.mp h
      obtain ⟨h1, h2⟩ := List.mem_filter.mp hr
      refine ⟨(key r h1).mp h2, ?_⟩
      unfold lfB at h1
      have two : ∀ q ∈ lfR p f R, (∃ r ∈ (R.map (smR p f)).map vz, vz q = r) ∨ (0 < fvO f p ∧ vz q = fvO f) := fun q hq => by
        unfold lfR at hq
        rcases List.mem_append.mp hq with h | h
        · exact .inl ⟨_, List.mem_map.mpr ⟨q, h, rfl⟩, rfl⟩
        · have e := Option.mem_toList.mp h
          exact .inr ⟨(fvO_pos C).mpr ⟨q, e⟩, by rw [e]; rfl⟩
      rcases List.mem_append.mp h1 with h | h
      · rcases two r h with ⟨v, hv, e⟩ | ⟨h0, e⟩
        · exact .inl ⟨v, hv, .inl e⟩
        · exact .inr ⟨h0, .inl e⟩
      · obtain ⟨q, hq, rfl⟩ := List.mem_map.mp h
        rw [vz_ng]
        rcases two q hq with ⟨v, hv, e⟩ | ⟨h0, e⟩
        · exact .inl ⟨v, hv, .inr (by rw [e])⟩
        · exact .inr ⟨h0, .inr (by rw [e])⟩
    · rintro ⟨hO, h⟩
      have put : ∀ r ∈ lfB p f R, vz r = x → x ∈ ((lfB p f R).filter (hasS g)).map vz := fun r hr e => by
        refine List.mem_map.mpr ⟨r, List.mem_filter.mpr ⟨hr, (key r hr).mpr ?_⟩, e⟩
        rw [e]
        exact hO
      have inR : ∀ q ∈ lfR p f R, q ∈ lfB p f R ∧ ngR q ∈ lfB p f R := fun q hq => by
        unfold lfB
        exact ⟨List.mem_append_left _ hq, List.mem_append_right _ (List.mem_map_of_mem hq)⟩
      rcases h with ⟨v, hv, e⟩ | ⟨h0, e⟩
      · obtain ⟨q, hq, rfl⟩ := List.mem_map.mp hv
        have hq' : q ∈ lfR p f R := by unfold lfR; exact List.mem_append_left _ hq
        rcases e with e | e
        · exact put q (inR q hq').1 e.symm
        · exact put (ngR q) (inR q hq').2 (by rw [vz_ng]; exact e.symm)
      · obtain ⟨w, hw⟩ := (fvO_pos C).mp h0
        have hq' : w ∈ lfR p f R := by unfold lfR; exact List.mem_append_right _ (by rw [hw]; simp)
        have ew : fvO f = vz w := by rw [hw]; rfl
        rcases e with e | e
        · exact put w (inR w hq').1 (by rw [e, ew])
        · exact put (ngR w) (inR w hq').2 (by rw [vz_ng, e, ew])
theorem opp_flip {P : Nat} {a b : BL.Vec} (e : EqP P a (GR.ng b)) : EqP P b (GR.ng a) := by
  have := e.symm.ng
  rwa [GR.ng_ng] at this
theorem no_opp {P : Nat} : ∀ {X : List BL.Vec}, (X.Pairwise fun a b => ¬ EqP P a b ∧ ¬ EqP P a (GR.ng b)) → (∀ x ∈ X, Nz P x) → ∀ a ∈ X, ∀ b ∈ X, ¬ EqP P a (GR.ng b)
  | [], _, _, a, ha, _, _ => by cases ha
  | y :: X, h, nz, a, ha, b, hb => fun e => by
    obtain ⟨h1, h2⟩ := List.pairwise_cons.mp h
    rcases List.mem_cons.mp ha with ea | ha
    · rcases List.mem_cons.mp hb with eb | hb
      · rw [ea, eb] at e
        obtain ⟨i, hi, hx⟩ := nz y List.mem_cons_self
        have := e i hi
        have this : y i = -y i := this
        omega
      · rw [ea] at e
        exact (h1 b hb).2 e
    · rcases List.mem_cons.mp hb with eb | hb
      · rw [eb] at e
        exact (h1 a ha).2 (opp_flip e)
      · exact no_opp h2 (fun x hx => nz x (List.mem_cons_of_mem _ hx)) a ha b hb e
theorem both_pw {P : Nat} {X : List BL.Vec} (h : X.Pairwise fun a b => ¬ EqP P a b ∧ ¬ EqP P a (GR.ng b)) (nz : ∀ x ∈ X, Nz P x) : (X ++ X.map GR.ng).Pairwise fun a b => ¬ EqP P a b := by
  refine List.pairwise_append.mpr ⟨h.imp fun h => h.1, ?_, ?_⟩
  · rw [List.pairwise_map]
    refine h.imp fun {a b} h e => h.1 ?_
    have := e.ng
    rwa [GR.ng_ng, GR.ng_ng] at this
  · intro a ha b hb e
    obtain ⟨c, hc, rfl⟩ := List.mem_map.mp hb
    exact no_opp h nz a ha c hc e
theorem LPre.nd (C : LPre L p n f kb kf R) : ((lfB p f R).map vz).Pairwise fun a b => ¬ EqP (p + 1) a b := by
  have S := C.small
  have up : ∀ {a b : BL.Vec}, EqP (p + 1) a b → EqP p a b := fun h i hi => h i (by omega)
  have e : (lfB p f R).map vz = (lfR p f R).map vz ++ ((lfR p f R).map vz).map GR.ng := by
    unfold lfB
    rw [List.map_append, List.map_map, List.map_map]
    congr 1
    exact List.map_congr_left fun r _ => vz_ng
  rw [e]
  have e2 : (lfR p f R).map vz = (R.map (smR p f)).map vz ++ f.toList.map vz := by
    unfold lfR
    rw [List.map_append]
  have fz : ∀ g, f = some g → ∀ i, i < p → vz g i = 0 := fun g hg i hi => by
    have := C.fr.f0 i hi
    rw [hg] at this
    exact this
  refine both_pw ?_ fun x hx => ?_
  · rw [e2]
    refine List.pairwise_append.mpr ⟨S.g.dif.imp fun h => ⟨fun e => h.1 (up e), fun e => h.2 (up e)⟩, ?_, fun a ha b hb => ?_⟩
    · cases f with
      | none => exact List.Pairwise.nil
      | some g => exact List.pairwise_singleton _ _
    · obtain ⟨w, hw, rfl⟩ := List.mem_map.mp hb
      have z := fz w (Option.mem_toList.mp hw)
      obtain ⟨_, ⟨i, hi, hx⟩, _⟩ := S.g.ok a ha
      refine ⟨fun e => hx ?_, fun e => hx ?_⟩
      · rw [up e i hi, z i hi]
      · have := up e i hi
        have this : a i = -vz w i := this
        rw [this, z i hi]
        rfl
  · rw [e2] at hx
    rcases List.mem_append.mp hx with h | h
    · obtain ⟨_, h2, _⟩ := S.g.ok x h
      exact h2.mono (Nat.le_succ p)
    · obtain ⟨w, hw, rfl⟩ := List.mem_map.mp h
      have := (C.fo w (Option.mem_toList.mp hw)).2.1
      refine ⟨p, by omega, ?_⟩
      show w.getD p 0 ≠ 0
      omega
theorem LPre.cpre (C : LPre L p n f kb kf R) {g : List Int} (hg : g ∈ sgL p) : CPre L p n f (sV g) (kb + kf + 6) kf ((lfB p f R).filter (hasS g)) := by
  obtain ⟨g1, g2⟩ := sgL_ok g hg
  have S := sV_sgn g2
  have M := C.mem g1
  have Y := GR.sys_start C.T C.fr S C.small M
  have sub : ∀ r ∈ (lfB p f R).filter (hasS g), r ∈ lfB p f R := fun r hr => (List.mem_filter.mp hr).1
  exact {
    T := C.T
    y := by
      have e : (fun x => x ∈ ((lfB p f R).filter (hasS g)).map vz) = fun x => ∃ r ∈ (lfB p f R).filter (hasS g), vz r = x := funext fun x => propext List.mem_map
      rw [← e]
      exact Y
    len := fun r hr => (C.lb r (sub r hr)).1
    least := fun r hr => GR.start_least C.T C.fr S C.small M (vz r) (List.mem_map_of_mem hr)
    ent := fun r hr => (C.lb r (sub r hr)).2.mono (two_pow_mono (by omega))
    nd := (C.nd).sublist (List.Sublist.map vz List.filter_sublist)
    fr := C.fo
    kfb := by omega
    kb := C.kb
    bnd := C.bnd
    hp := C.hp
    hn := C.hn }
/-! ### what is told: rows under their beginnings -/
def kQ (r : List Int) : List Key := r.map Sum.inl
theorem kQ_V (r : List Int) : (kQ r).map kV = r.map V.int := by
  unfold kQ
  rw [List.map_map]
  rfl
theorem kQ_inj : ∀ {r s : List Int}, kQ r = kQ s → r = s
  | [], [], _ => rfl
  | x :: r, y :: s, h => by
    have h1 := List.cons.inj h
    rw [Sum.inl.inj h1.1, kQ_inj h1.2]
  | [], _ :: _, h => by cases h
  | _ :: _, [], h => by cases h
abbrev Ew := List Int × Addr
def kvW (p : Nat) (E : List Ew) : List (List Key × V) := E.map fun e => (kQ (e.1.take (p + 1)), V.ref e.2)
def putW (p : Nat) (E : List Ew) (w : Ew) : List Ew := if (E.any fun e => decide (e.1.take (p + 1) = w.1.take (p + 1))) = true then E.map (fun e => if e.1.take (p + 1) = w.1.take (p + 1) then w else e) else E ++ [w]
theorem kvW_put {E : List Ew} {w : Ew} : putK (kvW p E) (kQ (w.1.take (p + 1))) (.ref w.2) = kvW p (putW p E w) := by
  unfold putK putW kvW
  have e : ((E.map fun e => (kQ (e.1.take (p + 1)), V.ref e.2)).any fun kv => decide (kv.1 = kQ (w.1.take (p + 1)))) = E.any fun e => decide (e.1.take (p + 1) = w.1.take (p + 1)) := by
    rw [List.any_map]
    congr 1
    funext e
    show decide (kQ (e.1.take (p + 1)) = kQ (w.1.take (p + 1))) = _
    by_cases c : e.1.take (p + 1) = w.1.take (p + 1)
    · rw [decide_eq_true c, decide_eq_true (by rw [c])]
    · rw [decide_eq_false c, decide_eq_false fun z => c (kQ_inj z)]
  rw [e]
  split
  · rw [List.map_map, List.map_map]
    refine List.map_congr_left fun e _ => ?_
    show (if kQ (e.1.take (p + 1)) = kQ (w.1.take (p + 1)) then (kQ (e.1.take (p + 1)), V.ref w.2) else (kQ (e.1.take (p + 1)), V.ref e.2)) = _
    show _ = (kQ ((if e.1.take (p + 1) = w.1.take (p + 1) then w else e).1.take (p + 1)), V.ref (if e.1.take (p + 1) = w.1.take (p + 1) then w else e).2)
    by_cases c : e.1.take (p + 1) = w.1.take (p + 1)
    · rw [if_pos c, if_pos (by rw [c]), c]
    · rw [if_neg c, if_neg fun z => c (kQ_inj z)]
  · rw [List.map_append]
    rfl
theorem putW_mem {E : List Ew} {w e : Ew} (h : e ∈ putW p E w) : e = w ∨ e ∈ E := by
  unfold putW at h
  split at h
  · obtain ⟨x, hx, rfl⟩ := List.mem_map.mp h
    split
    · exact .inl rfl
    · exact .inr hx
  · rcases List.mem_append.mp h with h | h
    · exact .inr h
    · exact .inl (List.mem_singleton.mp h)
theorem putW_self {E : List Ew} {w : Ew} : w ∈ putW p E w := by
  unfold putW
  split
  · rename_i c
    obtain ⟨x, hx, hk⟩ := List.any_eq_true.mp c
    exact List.mem_map.mpr ⟨x, hx, if_pos (of_decide_eq_true hk)⟩
  · exact List.mem_append_right _ (List.mem_singleton.mpr rfl)
theorem putW_keep {E : List Ew} {w e : Ew} (h : e ∈ E) : ∃ e' ∈ putW p E w, e'.1.take (p + 1) = e.1.take (p + 1) := by
  by_cases c : e.1.take (p + 1) = w.1.take (p + 1)
  · exact ⟨w, putW_self, c.symm⟩
  · refine ⟨e, ?_, rfl⟩
    unfold putW
    split
    · exact List.mem_map.mpr ⟨e, h, if_neg c⟩
    · exact List.mem_append_left _ h
theorem putW_nd {E : List Ew} {w : Ew} (h : (E.map fun e => e.1.take (p + 1)).Nodup) : ((putW p E w).map fun e => e.1.take (p + 1)).Nodup := by
  unfold putW
  split
  · have e : (E.map fun e => if e.1.take (p + 1) = w.1.take (p + 1) then w else e).map (fun e => e.1.take (p + 1)) = E.map fun e => e.1.take (p + 1) := by
      rw [List.map_map]
      refine List.map_congr_left fun e _ => ?_
      show (if e.1.take (p + 1) = w.1.take (p + 1) then w else e).1.take (p + 1) = _
      by_cases c : e.1.take (p + 1) = w.1.take (p + 1)
      · rw [if_pos c, c]
      · rw [if_neg c]
    rw [e]
    exact h
  · rename_i c
    rw [List.map_append]
    refine List.nodup_append.mpr ⟨h, List.nodup_cons.mpr ⟨List.not_mem_nil, List.nodup_nil⟩, fun a ha b hb z => c ?_⟩
    obtain ⟨e, he, rfl⟩ := List.mem_map.mp ha
    have hb : b = w.1.take (p + 1) := List.mem_singleton.mp hb
    exact List.any_eq_true.mpr ⟨e, he, decide_eq_true (z.trans hb)⟩
theorem eqp_take {a b : List Int} {P : Nat} (h : a.take P = b.take P) : EqP P (vz a) (vz b) := fun i hi => by
  show a.getD i 0 = b.getD i 0
  rw [List.getD_eq_getElem?_getD, List.getD_eq_getElem?_getD]
  have : (a.take P)[i]? = (b.take P)[i]? := by rw [h]
  rw [List.getElem?_take_of_lt hi, List.getElem?_take_of_lt hi] at this
  rw [this]
theorem take_eqp {a b : List Int} {P : Nat} (ha : P ≤ a.length) (hb : P ≤ b.length) (h : EqP P (vz a) (vz b)) : a.take P = b.take P := by
  refine List.ext_getElem? fun i => ?_
  by_cases c : i < P
  · rw [List.getElem?_take_of_lt c, List.getElem?_take_of_lt c]
    have := h i c
    have this : a.getD i 0 = b.getD i 0 := this
    rw [List.getD_eq_getElem?_getD, List.getD_eq_getElem?_getD, List.getElem?_eq_getElem (show i < a.length by omega), List.getElem?_eq_getElem (show i < b.length by omega)] at this
    rw [List.getElem?_eq_getElem (show i < a.length by omega), List.getElem?_eq_getElem (show i < b.length by omega)]
    exact congrArg some this
  · rw [List.getElem?_eq_none (by rw [List.length_take]; omega), List.getElem?_eq_none (by rw [List.length_take]; omega)]
structure TInv (L : BL.Vec → Prop) (p n kb : Nat) (E : List Ew) : Prop where
  ok : ∀ e ∈ E, e.1.length = n ∧ Ent (2 ^ kb) e.1 ∧ L (vz e.1) ∧ Nz (p + 1) (vz e.1) ∧ Least L (p + 1) (vz e.1) ∧ ∃ m, FstI e.1 m ∧ 0 < e.1.getD m 0
  nd : (E.map fun e => e.1.take (p + 1)).Nodup
variable {E : List Ew}
theorem TInv.dis (hp : p < n) (I : TInv L p n kb E) : (E.map fun e => vz e.1).Pairwise fun a b => ¬ EqP (p + 1) a b := by
  rw [List.pairwise_map]
  have h := I.nd
  rw [List.nodup_iff_pairwise_ne, List.pairwise_map] at h
  refine h.imp_of_mem fun {a b} ha hb ne e => ne ?_
  have la := (I.ok a ha).1
  have lb := (I.ok b hb).1
  exact take_eqp (by omega) (by omega) e
theorem TInv.few (hp : p < n) (I : TInv L p n kb E) (B : LBnd L (p + 1)) : E.length ≤ 1331 := by
  have := B.few (E.map fun e => vz e.1) (fun g hg => by
    obtain ⟨e, he, rfl⟩ := List.mem_map.mp hg
    obtain ⟨_, _, h1, h2, h3, _⟩ := I.ok e he
    exact ⟨h1, h2, h3⟩) (I.dis hp)
  rwa [List.length_map] at this
theorem TInv.put (I : TInv L p n kb E) {w : Ew} (h : w.1.length = n ∧ Ent (2 ^ kb) w.1 ∧ L (vz w.1) ∧ Nz (p + 1) (vz w.1) ∧ Least L (p + 1) (vz w.1) ∧ ∃ m, FstI w.1 m ∧ 0 < w.1.getD m 0) : TInv L p n kb (putW p E w) :=
  ⟨fun e he => (putW_mem he).elim (fun q => by rw [q]; exact h) (I.ok e), putW_nd I.nd⟩
theorem TInv.start : TInv L p n kb [] := ⟨(fun e he => by cases he), List.nodup_nil⟩
def Cov (p : Nat) (E : List Ew) (r : List Int) : Prop := ∃ e ∈ E, EqP (p + 1) (vz r) (vz e.1) ∨ EqP (p + 1) (vz r) (GR.ng (vz e.1))
theorem Cov.put {r : List Int} {w : Ew} (h : Cov p E r) : Cov p (putW p E w) r := by
  obtain ⟨e, he, q⟩ := h
  obtain ⟨e', he', et⟩ := putW_keep (w := w) he
  have k := eqp_take et
  exact ⟨e', he', q.imp (fun q => q.trans k.symm) fun q => q.trans k.symm.ng⟩
theorem Cov.new {r w : List Int} {a : Addr} (h : w = r ∨ w = ngR r) : Cov p (putW p E (w, a)) r := by
  refine ⟨(w, a), putW_self, ?_⟩
  rcases h with h | h
  · exact .inl (by rw [h]; exact fun _ _ => rfl)
  · refine .inr ?_
    show EqP (p + 1) (vz r) (GR.ng (vz w))
    rw [h, vz_ng, GR.ng_ng]
    exact fun _ _ => rfl
/-- what lifted tells -/
structure LPost (L : BL.Vec → Prop) (p n kb : Nat) (R : List (List Int)) : Prop where
  g : Grb L (p + 1) (R.map vz)
  len : ∀ r ∈ R, r.length = n
  ent : ∀ r ∈ R, Ent (2 ^ kb) r
  few : R.length ≤ 1331
  pos : ∀ r ∈ R, ∃ m, FstI r m ∧ 0 < r.getD m 0
theorem fst_opp {a b : List Int} {P m m' : Nat} (na : Nz P (vz a)) (nb : Nz P (vz b)) (ha : FstI a m ∧ 0 < a.getD m 0) (hb : FstI b m' ∧ 0 < b.getD m' 0) : ¬ EqP P (vz a) (GR.ng (vz b)) := fun e => by
  have low : ∀ {c : List Int} {k : Nat}, Nz P (vz c) → FstI c k → k < P := fun {c k} h f => by
    obtain ⟨i, hi, hx⟩ := h
    refine Classical.byContradiction fun z => hx (f.2.2 i (by omega))
  have l1 := low na ha.1
  have l2 := low nb hb.1
  have e1 : a.getD m 0 = -b.getD m 0 := e m l1
  have e2 : a.getD m' 0 = -b.getD m' 0 := e m' l2
  by_cases c : m < m'
  · have := hb.1.2.2 m c
    omega
  · by_cases c2 : m' < m
    · have := ha.1.2.2 m' c2
      omega
    · have : m = m' := by omega
      subst this
      omega
theorem TInv.post {kc : Nat} (C : LPre L p n f kb kf R) (I : TInv L p n kc E) (h : ∀ g ∈ sgL p, ∃ Rc, CPost L p n (sV g) (kb + kf + 6) Rc ∧ ∀ r ∈ Rc, Cov p E r) : LPost L p n kc (E.map (·.1)) where
  g := by
    have em : (E.map (·.1)).map vz = E.map fun e => vz e.1 := by rw [List.map_map]; rfl
    rw [em]
    have use : ∀ s : BL.Vec, Sgn s → s 0 = 1 → ∃ F : BL.Vec → Prop, (∀ x, L x → Orth s p x → Nz (p + 1) x → Least L (p + 1) x → ∃ r, F r ∧ EqP (p + 1) x r) ∧ ∀ r, F r → ∃ r' ∈ E.map (fun e => vz e.1), EqP (p + 1) r r' ∨ EqP (p + 1) r (GR.ng r') := fun s S h0 => by
      obtain ⟨g, hg, hgs⟩ := sgL_has (s := s) S h0 (k := p)
      obtain ⟨gl, _⟩ := sgL_ok g hg
      obtain ⟨Rc, P, cov⟩ := h g hg
      refine ⟨fun x => ∃ r ∈ Rc, vz r = x, fun x h1 h2 h3 h4 => ?_, ?_⟩
      · obtain ⟨r, hr, e⟩ := P.all x h1 (fun i hi => by
          have := h2 i hi
          unfold sV
          rw [if_pos (by omega), hgs i hi]
          exact this) h3 h4
        exact ⟨vz r, ⟨r, hr, rfl⟩, e⟩
      · rintro x ⟨r, hr, rfl⟩
        obtain ⟨e, he, q⟩ := cov r hr
        exact ⟨vz e.1, List.mem_map.mpr ⟨e, he, rfl⟩, q⟩
    refine GR.grb_up C.T (fun r hr => ?_) (fun s S => ?_) ?_
    · obtain ⟨e, he, rfl⟩ := List.mem_map.mp hr
      obtain ⟨_, _, h1, h2, h3, _⟩ := I.ok e he
      exact ⟨h1, h2, h3⟩
    · rcases S 0 with h0 | h0
      · exact .inl (use s S h0)
      · refine .inr (use (GR.ng s) (fun i => ?_) ?_)
        · show -s i = 1 ∨ -s i = -1
          have := S i
          omega
        · show -s 0 = 1
          omega
    · refine (I.dis C.hp).imp_of_mem fun {a b} ha hb ne => ⟨ne, ?_⟩
      obtain ⟨x, hx, rfl⟩ := List.mem_map.mp ha
      obtain ⟨y, hy, rfl⟩ := List.mem_map.mp hb
      obtain ⟨_, _, _, h2, _, m, hm⟩ := I.ok x hx
      obtain ⟨_, _, _, k2, _, m', hm'⟩ := I.ok y hy
      exact fst_opp h2 k2 hm hm'
  len r hr := by
    obtain ⟨e, he, rfl⟩ := List.mem_map.mp hr
    exact (I.ok e he).1
  ent r hr := by
    obtain ⟨e, he, rfl⟩ := List.mem_map.mp hr
    exact (I.ok e he).2.1
  few := by
    rw [List.length_map]
    exact I.few C.hp C.bnd
  pos r hr := by
    obtain ⟨e, he, rfl⟩ := List.mem_map.mp hr
    obtain ⟨_, _, _, _, _, m, hm⟩ := I.ok e he
    exact ⟨m, hm⟩
end
end HL

set_option pp.maxSteps 3000
namespace HL
open PySem PySem.Spec PyProof.Rows L2
open C8 (pss_cut)
open GR (Sys Least Nz EqP Cf Orth Sgn Han Latt pairT trimC Grb)
abbrev sLifted : Stmt := topS 44
abbrev NLf : List Str := ["rows", "place", "fresh", "both", "told", "signs", "members", "row", "way"]
theorem scLf : FnScope NLf ["rows", "place", "fresh"] (defScope sLifted) := ⟨rfl, rfl, rfl, by decide +kernel, rfl, by decide +kernel, by decide +kernel⟩
section
variable {P : Program} {w : World} {K : PySem.W.Frag} {mg : Str → Option Value} {base : Heap}
/-- what the loop over signs knows of the heap -/
structure LX (H0 H : Hp) (v : V) (f : Option (List Int)) (R : List (List Int)) (p : Nat) (lb ls d : Addr) (ba sa : List Addr) (E : List Ew) : Prop where
  lb : H lb = some (.lst (ba.map V.ref))
  bt : Rows H ba (lfB p f R)
  ls : H ls = some (.lst (sa.map V.ref))
  sg : Rows H sa (sgL p)
  fr : frV H v f
  sm : Same H0 H
  d : H d = some (.dT (kvW p E))
  ew : ∀ e ∈ E, IntsAt H e.2 e.1
theorem LX.same {H0 H H' : Hp} {v : V} {f : Option (List Int)} {R : List (List Int)} {p : Nat} {lb ls d : Addr} {ba sa : List Addr} {E : List Ew} (x : LX H0 H v f R p lb ls d ba sa E) (s : Same H H') : LX H0 H' v f R p lb ls d ba sa E :=
  ⟨s _ _ x.lb, x.bt.same s, s _ _ x.ls, x.sg.same s, x.fr.same s, x.sm.trans s, s _ _ x.d, fun e he => (x.ew e he).same s⟩
theorem Rows.dput {H : Hp} {d : Addr} {kvs : List (List Key × V)} {o : HO} {as : List Addr} {ll : List (List Int)} (R : Rows H as ll) (hd : H d = some (.dT kvs)) : Rows (upd H d o) as ll := R.mono fun b zs e => by
  rw [upd_ne (fun z => by rw [z, hd] at e; cases e)]
  exact e
theorem LX.put {H0 H : Hp} {v : V} {f : Option (List Int)} {R : List (List Int)} {p : Nat} {lb ls d : Addr} {ba sa : List Addr} {E : List Ew} (x : LX H0 H v f R p lb ls d ba sa E) (nd : H0 d = none) {w : Ew} (hw : IntsAt H w.2 w.1) : LX H0 (upd H d (.dT (kvW p (putW p E w)))) v f R p lb ls d ba sa (putW p E w) := by
  have i : ∀ {a : Addr} {xs : List Int}, IntsAt H a xs → IntsAt (upd H d (.dT (kvW p (putW p E w)))) a xs := fun {a xs} h => by
    show (upd H d _) a = _
    rw [upd_ne (fun z => by rw [z] at h; have h : H d = some (.tup (xs.map V.int)) := h; rw [x.d] at h; cases h)]
    exact h
  refine ⟨?_, x.bt.dput x.d, ?_, x.sg.dput x.d, ?_, fun b o e => ?_, upd_same, fun e he => ?_⟩
  · rw [upd_ne (fun z => by have := x.d; rw [← z, x.lb] at this; cases this)]
    exact x.lb
  · rw [upd_ne (fun z => by have := x.d; rw [← z, x.ls] at this; cases this)]
    exact x.ls
  · have := x.fr
    cases f with
    | none => exact this
    | some f =>
      obtain ⟨c, e, hc⟩ := this
      exact ⟨c, e, i hc⟩
  · rw [upd_ne (fun z => by rw [z, nd] at e; cases e)]
    exact x.sm _ _ e
  · rcases putW_mem he with h | h
    · rw [h]; exact i hw
    · exact i (x.ew e h)
def spLift : Sp := fun vs H Q _ => ∃ (r : Addr) (p n : Nat) (v : V) (ra : List Addr) (R : List (List Int)) (f : Option (List Int)) (L : BL.Vec → Prop) (kb kf : Nat), vs = [.ref r, .int (p : Int), v] ∧ H r = some (.lst (ra.map V.ref)) ∧ Rows H ra R ∧ frV H v f ∧ LPre L p n f kb kf R ∧ p ≤ 5 ∧
  ∀ H' l ra' R', Same H H' → H l = none → H' l = some (.lst (ra'.map V.ref)) → Rows H' ra' R' → LPost L p n (kb + kf + 2668) R' → Q (.ref l) H'
theorem ok_lifted {f : Addr} {fd : FuncData} (F : Fun K "lifted" "lifted" sLifted f fd) (B : Bl mg) (CLe : CalLess16 P w K mg base) (CO : Cal P w K mg base CX0 1 "opposite" ["row"] spOpp) (CSr : Cal P w K mg base CX0 1 "sign_rows" ["many"] spSignRows) (CHs : Cal P w K mg base CX0 1 "has_signs" ["row", "signs"] (spHas K))
    (CCo : Cal P w K mg base CX0 3 "completed" ["members", "place", "fresh"] spCompl) (CTw : Cal P w K mg base CX0 2 "told_way" ["row"] spWay) : FnOk P w K mg base CX0 4 f fd ["rows", "place", "fresh"] spLift := by
  obtain ⟨fLe, fdLe, GLe, gLe, kLe, bLe⟩ := CLe
  obtain ⟨fOp, fdOp, GOp, gOp, kOp, bOp⟩ := CO.ex
  obtain ⟨fSr, fdSr, GSr, gSr, kSr, bSr⟩ := CSr.ex
  obtain ⟨fHs, fdHs, GHs, gHs, kHs, bHs⟩ := CHs.ex
  obtain ⟨fCo, fdCo, GCo, gCo, kCo, bCo⟩ := CCo.ex
  obtain ⟨fTw, fdTw, GTw, gTw, kTw, bTw⟩ := CTw.ex
  refine F.ok scLf (fun vs H Q E h => ?_) (fun cdv A outer s H vs Q E hr h => ?_)
  · obtain ⟨r, p, n, v, ra, R, f, L, kb, kf, rfl, _⟩ := h
    rfl
  · obtain ⟨r, p, n, v, ra, R, f, L, kb, kf, rfl, hl, hR, hf, C, p5, q⟩ := h
    have hu := hu_of hr
    have hp := C.hp
    have hn := C.hn
    have hfew := C.few
    have hkb := C.kb
    have hal := hR.len
    refine ⟨_, (pss_cut (ps_if (pt_cmpR op_notN (pv 2) pe_non (nomark _)) (pss_one (ps_set (i := 0) scLf.nd rfl (.inl rfl) (pe_op op_cat (pe_lc (own := [("row", 7)]) (g := gName 7) (tt := tYes) (te := tCall spLess [] E0 (tCons (tVar 7) (tCons (tVar 2) (tCons (tOp (rI CDivX fun i j => .int (i.fdiv j)) (tOp (rIxT K) (tVar 7) (tVar 1)) (tOp (rIxT K) (tVar 2) (tVar 1))) tNil)))) rfl scLf.nd (pi_list (pv 0))
        (blkOk_by (own := [("row", 7)]) (N := NLf) (sc := defScope sLifted) (by decide +kernel)) (fun _ _ _ _ _ => pg_name (i := 7) scLf.nd rfl (Or.inl rfl)) (fun _ _ _ _ _ => pts_nil)
        (fun _ _ _ _ _ => pe_call GLe (hr.mono (by decide)) (by rfl) gLe kLe bLe .nil pass0 (pa_cons (pv 7) (pa_cons (pv 2) (pa_cons (pe_op op_fdivX (pe_ix (r := rIxT K) ix_tup (pv 7) (pv 1) (fun _ _ => rfl)) (pe_ix (r := rIxT K) ix_tup (pv 2) (pv 1) (fun _ _ => rfl))) pa_nil))))) (pe_lst (pa_cons (pv 2) pa_nil))))) pss_nil)
      (pss_cut (ps_set (i := 3) scLf.nd rfl (.inl rfl) (pe_op op_cat (pv 0) (pe_lc (own := [("row", 7)]) (g := gName 7) (tt := tYes) (te := tCall spOpp [] E0 (tCons (tVar 7) tNil)) rfl scLf.nd (pi_list (pv 0))
        (blkOk_by (own := [("row", 7)]) (N := NLf) (sc := defScope sLifted) (by decide +kernel)) (fun _ _ _ _ _ => pg_name (i := 7) scLf.nd rfl (Or.inl rfl)) (fun _ _ _ _ _ => pts_nil)
        (fun _ _ _ _ _ => pe_call GOp (hr.mono (by decide)) (by rfl) gOp kOp bOp .nil pass0 (pa_cons (pv 7) pa_nil)))))
      (pss_cons (ps_set (i := 4) scLf.nd rfl (.inl rfl) pe_dnewT)
      (pss_cons (ps_for PassesOwn.never rfl (pi_list (pe_call GSr (hr.mono (by decide)) (by rfl) gSr kSr bSr .nil pass0 (pa_cons (pv 1) pa_nil))) (pg_name (i := 5) scLf.nd rfl (.inr rfl))
        (pss_cut (ps_setLc (i := 6) (own := [("row", 7)]) (g := gName 7) (tt := tTest (tCall (spHas K) [] E0 (tCons (tVar 7) (tCons (tVar 5) tNil)))) (te := tVar 7) rfl scLf.nd rfl rfl (sw_true rfl rfl rfl (by decide +kernel)) (pi_list (pv 3))
          (blkOk_by (own := [("row", 7)]) (N := NLf) (sc := defScope sLifted) (by decide +kernel)) (fun _ _ _ _ _ => pg_name (i := 7) scLf.nd rfl (Or.inl rfl)) (fun _ _ _ _ _ => pts_one (pt_val (pe_call GHs (hr.mono (by decide)) (by rfl) gHs kHs bHs .nil pass0 (pa_cons (pv 7) (pa_cons (pv 5) pa_nil)))))
          (fun _ _ _ _ _ => pv 7))
        (pss_one (ps_for PassesOwn.never rfl (pi_list (pe_call GCo (hr.mono (by decide)) (by rfl) gCo kCo bCo .nil pass0 (pa_cons (pv 6) (pa_cons (pv 1) (pa_cons (pv 2) pa_nil))))) (pg_name (i := 7) scLf.nd rfl (.inl rfl))
          (pss_cons (ps_set (i := 8) scLf.nd rfl (.inl rfl) (pe_call GTw (hr.mono (by decide)) (by rfl) gTw kTw bTw .nil pass0 (pa_cons (pv 7) pa_nil)))
          (pss_one (ps_dput hu (pv 4) (pe_slice sl_tupA (pv 8) po_none (po_some (pe_op op_add (pv 1) pe_int))) (pv 8) rfl)))))))
      (pss_one (ps_ret (pe_listValsT rfl (pv 4) (by rfl) B.list (by decide +kernel)))))))), ?_⟩
    -- less the fresh row
    refine ⟨fun σ' H' => ∃ (lr : Addr) (xa : List Addr), σ' = [some (.ref lr), some (.int (p : Int)), some v, none, none, none, none, none, none] ∧ Same H H' ∧ H' lr = some (.lst (xa.map V.ref)) ∧ Rows H' xa (lfR p f R), ?_, ?_⟩
    · cases f with
      | none =>
        have hv : v = .non := hf
        subst hv
        refine ⟨.non, rfl, rfl, _, rfl, iteF ?_⟩
        refine ⟨r, ra, rfl, Same.refl _, hl, ?_⟩
        have e : lfR p none R = R := by
          show R.map (smR p none) ++ [] = R
          rw [List.append_nil]
          exact List.map_id' R
        rw [e]
        exact hR
      | some g =>
        obtain ⟨c, rfl, hc⟩ := hf
        obtain ⟨g1, g2, g3, g4⟩ := C.fo g rfl
        refine ⟨.ref c, rfl, rfl, _, rfl, iteT ?_⟩
        refine ⟨.ref r, rfl, r, rfl, ⟨_, SqL.of hl⟩, fun D nD => ?_⟩
        refine lc_list (K := K) (a := r) (xs := ra.map V.ref) (fun i H' => Same H H' ∧ ∃ ca : List Addr, H' D = some (.lst (ca.map V.ref)) ∧ Rows H' ca ((R.take i).map (smR p (some g)))) ⟨same_new nD, [], upd_same, by rw [List.take_zero]; exact True.intro⟩ (fun i H' _ hP => SqL.of (hP.1 _ _ hl)) (fun i x H' hx ⟨sj, hca⟩ => ?_) (fun H' ⟨sj, ca, hD, hRc⟩ => ?_)
        · obtain ⟨a, ha, rfl⟩ := refAt hx
          obtain ⟨x, hx1, hx2⟩ := (hR.same sj).at ha
          have hx2 : IntsAt H' a x := hx2
          have mx := List.mem_of_getElem? hx1
          have lx := C.len x mx
          have ex := C.ent x mx
          have hk := two_pow_pos (a := kb)
          have b : -(2 : Int) ^ kb ≤ x.getD p 0 ∧ x.getD p 0 ≤ 2 ^ kb := ex.at (by omega) p
          have hq : -(2 ^ kb + 1) ≤ (x.getD p 0).fdiv (g.getD p 0) ∧ (x.getD p 0).fdiv (g.getD p 0) ≤ 2 ^ kb + 1 := quot_any (b := g.getD p 0) (by omega) b.1 b.2
          refine ⟨rfl, yes (iteT ?_)⟩
          refine ⟨.ref a, rfl, .ref c, rfl, .ref a, rfl, .int (p : Int), rfl, a, _, _, _, rfl, rfl, SqT.of hx2, atIT (by omega), .ref c, rfl, .int (p : Int), rfl, c, _, _, _, rfl, rfl, SqT.of (hc.same sj), atIT (by omega), _, _, rfl, rfl, ⟨by omega, ?_⟩, nilA ?_⟩
          · refine (Nat.log2_lt (by omega)).mpr ?_
            have : (2 : Nat) ^ 20 ≤ 2 ^ 9000 := Nat.pow_le_pow_right (by decide) (by decide)
            have e20 : (2 : Nat) ^ 20 = 1048576 := by decide
            rw [e20] at this
            refine Nat.lt_of_lt_of_le ?_ this
            omega
          · refine ⟨a, c, x, g, (x.getD p 0).fdiv (g.getD p 0), kb + 1, kf, rfl, hx2, hc.same sj, by omega, by omega, ?_, g4, by omega, fun H5 z s5 hz5 => ?_⟩
            · have e1 : (2 : Int) ^ (kb + 1) = 2 * 2 ^ kb := by rw [Int.pow_succ]; omega
              rw [e1]
              omega
            · rw [List.take_add_one, hx1, List.map_append]
              exact row_more nD sj hca (by rw [List.length_map, List.length_take]; omega) s5 hz5
        · rw [List.length_map, hal, List.take_length] at hRc
          have hcl := hRc.len
          rw [List.length_map] at hcl
          refine ⟨.ref c, rfl, sz_1 _, fun l2 nl2 => ?_⟩
          have s2 := same_new (o := .lst [.ref c]) nl2
          refine ⟨D, l2, _, _, rfl, rfl, s2 _ _ hD, upd_same, ?_, fun z nz => ?_⟩
          · rw [List.length_map]
            show ca.length + 1 ≤ sizeLine
            have : sizeLine = 16777216 := by decide
            omega
          have s3 := same_new (o := .lst (ca.map V.ref ++ [.ref c])) nz
          refine ⟨z, ca ++ [c], rfl, (sj.trans s2).trans s3, by rw [upd_same, List.map_append]; rfl, ?_⟩
          exact ((hRc.same s2).same s3).app ⟨(hc.same ((sj.trans s2).trans s3)), True.intro⟩
    rintro σ' H1 ⟨lr, xa, rfl, s1, hlr, hX⟩
    have hf1 := hf.same s1
    clear hl hR hal
    have hxl := hX.len
    have hXl := lfR_len (p := p) (f := f) (R := R)
    -- both
    refine ⟨fun σ' H' => ∃ (lb : Addr) (ba : List Addr), σ' = [some (.ref lr), some (.int (p : Int)), some v, some (.ref lb), none, none, none, none, none] ∧ Same H H' ∧ H' lb = some (.lst (ba.map V.ref)) ∧ Rows H' ba (lfB p f R), ?_, ?_⟩
    · refine ⟨.ref lr, rfl, .ref lr, rfl, lr, rfl, ⟨_, SqL.of hlr⟩, fun D nD => ?_⟩
      refine lc_list (K := K) (a := lr) (xs := xa.map V.ref) (fun i H' => Same H1 H' ∧ ∃ ca : List Addr, H' D = some (.lst (ca.map V.ref)) ∧ Rows H' ca (((lfR p f R).take i).map ngR)) ⟨same_new nD, [], upd_same, by rw [List.take_zero]; exact True.intro⟩ (fun i H' _ hP => SqL.of (hP.1 _ _ hlr)) (fun i x H' hx ⟨sj, hca⟩ => ?_) (fun H' ⟨sj, ca, hD, hRc⟩ => ?_)
      · obtain ⟨a, ha, rfl⟩ := refAt hx
        obtain ⟨x, hx1, hx2⟩ := (hX.same sj).at ha
        have hx2 : IntsAt H' a x := hx2
        have lx := (C.lf x (List.mem_of_getElem? hx1)).1
        refine ⟨rfl, yes (iteT ?_)⟩
        refine ⟨.ref a, rfl, nilA ⟨a, x, rfl, hx2, by omega, fun H5 z s5 hz5 => ?_⟩⟩
        rw [List.take_add_one, hx1, List.map_append]
        exact row_more nD sj hca (by rw [List.length_map, List.length_take]; omega) s5 hz5
      · rw [List.length_map, hxl, List.take_length] at hRc
        have hcl := hRc.len
        rw [List.length_map] at hcl
        refine ⟨lr, D, _, _, rfl, rfl, sj _ _ hlr, hD, ?_, fun z nz => ?_⟩
        · rw [List.length_map, List.length_map]
          have : sizeLine = 16777216 := by decide
          omega
        have s3 := same_new (o := .lst (xa.map V.ref ++ ca.map V.ref)) nz
        refine ⟨z, xa ++ ca, rfl, (s1.trans sj).trans s3, by rw [upd_same, List.map_append], ?_⟩
        exact ((hX.same sj).same s3).app (hRc.same s3)
    rintro σ' H2 ⟨lb, ba, rfl, s2, hlb, hBt⟩
    clear hlr hX hf1 s1
    refine fun d nd => ?_
    have sdd := same_new (o := .dT []) nd
    have nd0 : H d = none := by
      cases e : H d with
      | none => rfl
      | some o => rw [s2 _ _ e] at nd; cases nd
    have hd3 : (upd H2 d (.dT [])) d = some (.dT []) := upd_same
    have s3 := s2.trans sdd
    have hlb3 := sdd _ _ hlb
    have hBt3 := hBt.same sdd
    generalize upd H2 d (.dT []) = H3 at sdd hd3 s3 hlb3 hBt3 ⊢
    refine ⟨.int (p : Int), rfl, p, rfl, p5, fun H4 ls sa s4 hls hSg => ?_⟩
    have X0 : LX H H4 v f R p lb ls d ba sa [] := ⟨s4 _ _ hlb3, hBt3.same s4, hls, hSg, hf.same (s3.trans s4), s3.trans s4, s4 _ _ hd3, fun e he => by cases he⟩
    clear hlb hBt hlb3 hBt3 hls hSg hd3
    refine ⟨ls, rfl, ⟨_, SqL.of X0.ls⟩, ?_⟩
    have hsl := X0.sg.len
    refine for_list (K := K) (a := ls) (xs := sa.map V.ref) (fun i σ' H' => ∃ (E : List Ew) (y5 y6 y7 y8 : Option V), σ' = [some (.ref lr), some (.int (p : Int)), some v, some (.ref lb), some (.ref d), y5, y6, y7, y8] ∧ LX H H' v f R p lb ls d ba sa E ∧ TInv L p n (kb + kf + 2668) E ∧ ∀ g ∈ (sgL p).take i, ∃ Rc, CPost L p n (sV g) (kb + kf + 6) Rc ∧ ∀ r ∈ Rc, Cov p E r)
      ⟨[], none, none, none, none, rfl, X0, TInv.start, fun g hg => by simp at hg⟩ (fun i σ' H' _ ⟨_, _, _, _, _, _, x, _⟩ => SqL.of x.ls) (fun i x σ' H5 hx hI => ?_) (fun σ' H5 hI => ?_)
    · clear X0
      obtain ⟨E, y5, y6, y7, y8, rfl, X, I, cov⟩ := hI
      obtain ⟨c, hc, rfl⟩ := refAt hx
      obtain ⟨g, hg1, hg2⟩ := X.sg.at hc
      have hg2 : IntsAt H5 c g := hg2
      have hgm := List.mem_of_getElem? hg1
      obtain ⟨gl, gs⟩ := sgL_ok g hgm
      have hbl := X.bt.len
      have hBl : (lfB p f R).length ≤ 3000 := by
        unfold lfB
        rw [List.length_append, List.length_map]
        omega
      -- its members
      refine ⟨fun σ' H' => ∃ (lm : Addr) (ma : List Addr), σ' = [some (.ref lr), some (.int (p : Int)), some v, some (.ref lb), some (.ref d), some (.ref c), some (.ref lm), y7, y8] ∧ LX H H' v f R p lb ls d ba sa E ∧ H' lm = some (.lst (ma.map V.ref)) ∧ Rows H' ma ((lfB p f R).filter (hasS g)), ?_, ?_⟩
      · refine ⟨.ref lb, rfl, lb, rfl, ⟨_, SqL.of X.lb⟩, fun D nD => ?_⟩
        refine lc_list (K := K) (a := lb) (xs := ba.map V.ref) (fun i H' => Same H5 H' ∧ ∃ ca : List Addr, H' D = some (.lst (ca.map V.ref)) ∧ Rows H' ca (((lfB p f R).take i).filter (hasS g))) ⟨same_new nD, [], upd_same, by rw [List.take_zero]; exact True.intro⟩ (fun i H' _ hP => SqL.of (hP.1 _ _ X.lb)) (fun i x H' hx ⟨sj, hca⟩ => ?_) (fun H' ⟨sj, ca, hD, hRc⟩ => ?_)
        · obtain ⟨a, ha, rfl⟩ := refAt hx
          obtain ⟨x, hx1, hx2⟩ := (X.bt.same sj).at ha
          have hx2 : IntsAt H' a x := hx2
          have lx := (C.lb x (List.mem_of_getElem? hx1)).1
          have etk : ((lfB p f R).take (i + 1)).filter (hasS g) = ((lfB p f R).take i).filter (hasS g) ++ (if hasS g x = true then [x] else []) := by
            rw [List.take_add_one, hx1, List.filter_append]
            congr 1
            show List.filter _ [x] = _
            rw [List.filter_cons, List.filter_nil]
          rw [etk]
          refine ⟨rfl, .ref a, rfl, .ref c, rfl, nilA ⟨a, c, x, g, rfl, hx2, hg2.same sj, by omega, by omega, fun y hy => ?_, fun H6 s6 => ⟨_, rfl, ite2 (fun c1 => ?_) (fun c1 => ?_)⟩⟩⟩
          · rcases gs y hy with h | h <;> rw [h] <;> decide
          · rw [if_pos c1]
            refine ⟨.ref a, rfl, ?_⟩
            obtain ⟨ca, d1, d2⟩ := hca
            exact row_more nD (sj.trans s6) ⟨ca, s6 _ _ d1, d2.same s6⟩ (by
              have h1 := List.length_filter_le (hasS g) ((lfB p f R).take i)
              have h2 := List.length_take_le' i (lfB p f R)
              omega) (Same.refl _) (hx2.same s6)
          · rw [if_neg c1, List.append_nil]
            obtain ⟨ca, d1, d2⟩ := hca
            exact ⟨sj.trans s6, ca, s6 _ _ d1, d2.same s6⟩
        · rw [List.length_map, hbl, List.take_length] at hRc
          exact ⟨D, ca, rfl, X.same sj, hD, hRc⟩
      rintro σ' H6 ⟨lm, ma, rfl, X6, hlm, hM⟩
      refine ⟨.ref lm, rfl, .int (p : Int), rfl, v, rfl, lm, p, n, v, ma, _, f, L, sV g, kb + kf + 6, kf, rfl, hlm, hM, X6.fr, C.cpre hgm, fun H7 lc rc Rc s7 nlc hlc hRc Pc => ?_⟩
      have X7 := X6.same s7
      have hcl := hRc.len
      have fewc := Pc.few
      refine ⟨lc, rfl, ⟨_, SqL.of hlc⟩, ?_⟩
      refine for_list (K := K) (a := lc) (xs := rc.map V.ref) (fun j σ' H' => ∃ (E : List Ew) (y7 y8 : Option V), σ' = [some (.ref lr), some (.int (p : Int)), some v, some (.ref lb), some (.ref d), some (.ref c), some (.ref lm), y7, y8] ∧ LX H H' v f R p lb ls d ba sa E ∧ TInv L p n (kb + kf + 2668) E ∧ (∀ g ∈ (sgL p).take i, ∃ Rc, CPost L p n (sV g) (kb + kf + 6) Rc ∧ ∀ r ∈ Rc, Cov p E r) ∧ H' lc = some (.lst (rc.map V.ref)) ∧ Rows H' rc Rc ∧ ∀ r ∈ Rc.take j, Cov p E r)
        ⟨E, y7, y8, rfl, X7, I, cov, hlc, hRc, fun r hr => by simp at hr⟩ (fun j σ' H' _ ⟨_, _, _, _, _, _, _, x, _⟩ => SqL.of x) (fun j x σ' H8 hx hJ => ?_) (fun σ' H8 hJ => ?_)
      · obtain ⟨E, y7, y8, rfl, X8, I, cov, hlc8, hRc8, covj⟩ := hJ
        obtain ⟨cr, hcr, rfl⟩ := refAt hx
        obtain ⟨rr, hr1, hr2⟩ := hRc8.at hcr
        have hr2 : IntsAt H8 cr rr := hr2
        obtain ⟨o1, o2, o3, o4, o5, o6⟩ := Pc.ok rr (List.mem_of_getElem? hr1)
        obtain ⟨i0, _, hi0⟩ := o5
        refine ⟨.ref cr, rfl, cr, rr, rfl, hr2, by omega, ⟨i0, hi0⟩, fun H9 z ww s9 hz hw => ?_⟩
        have X9 := X8.same s9
        have hEl := I.few hp C.bnd
        have wl : ww.length = n := by
          rcases hw.1 with e | e <;> rw [e]
          · exact o1
          · rw [ngR_len]; exact o1
        refine ⟨.ref z, rfl, .ref d, rfl, .ref z, rfl, .int (p : Int), rfl, _, _, rfl, rfl, _, rfl, slice_read hz fun t H10 s10 ht => ?_⟩
        have ep : (p : Int) + 1 = ((p + 1 : Nat) : Int) := by omega
        rw [ep, cut_to, ← List.map_take] at ht
        have X10 := X9.same s10
        have hz10 := hz.same s10
        have hkey : H10 t = some (.tup ((kQ (ww.take (p + 1))).map kV)) := by rw [kQ_V]; exact ht
        have hlen : (kvW p E).length < sizeLine := by
          unfold kvW
          rw [List.length_map]
          have : sizeLine = 16777216 := by decide
          omega
        refine ⟨d, _, rfl, DPut.t X10.d hkey hlen, ?_⟩
        have ek : putK (kvW p E) (kQ (ww.take (p + 1))) (.ref z) = kvW p (putW p E (ww, z)) := kvW_put (w := (ww, z))
        rw [ek]
        have ne5 : Nz (p + 1) (vz rr) := (Pc.ok rr (List.mem_of_getElem? hr1)).2.2.2.2.1
        refine ⟨putW p E (ww, z), _, _, rfl, X10.put nd0 hz10, I.put ⟨wl, ?_, ?_, ?_, ?_, hw.2⟩, fun g hg => ?_, ?_, (hRc8.same (s9.trans s10)).dput X10.d, fun r hr => ?_⟩
        · have o2' := o2.mono (two_pow_mono (show kb + kf + 6 + 2662 ≤ kb + kf + 2668 by omega))
          show Ent _ ww
          rcases hw.1 with e | e <;> rw [e]
          · exact o2'
          · exact ngR_ent o2'
        · show L (vz ww)
          rcases hw.1 with e | e <;> rw [e]
          · exact o3
          · rw [vz_ng]; exact C.T.ng o3
        · show Nz (p + 1) (vz ww)
          rcases hw.1 with e | e <;> rw [e]
          · exact ne5
          · rw [vz_ng]; exact ne5.ng
        · show Least L (p + 1) (vz ww)
          rcases hw.1 with e | e <;> rw [e]
          · exact o6
          · rw [vz_ng]; exact o6.ng C.T
        · obtain ⟨Rg, h1, h2⟩ := cov g hg
          exact ⟨Rg, h1, fun r hr => (h2 r hr).put⟩
        · rw [upd_ne (fun z => by have := X10.d; rw [← z, (s9.trans s10) _ _ hlc8] at this; cases this)]
          exact (s9.trans s10) _ _ hlc8
        · rw [List.take_add_one, hr1] at hr
          rcases List.mem_append.mp hr with h | h
          · exact (covj r h).put
          · rw [List.mem_singleton.mp h]
            exact Cov.new hw.1
      · obtain ⟨E, y7, y8, rfl, X8, I, cov, _, _, covj⟩ := hJ
        rw [List.length_map, hcl, List.take_length] at covj
        refine ⟨E, _, _, _, _, rfl, X8, I, fun g' hg' => ?_⟩
        rw [List.take_add_one, hg1] at hg'
        rcases List.mem_append.mp hg' with h | h
        · exact cov g' h
        · rw [List.mem_singleton.mp h]
          exact ⟨Rc, Pc, covj⟩
    · obtain ⟨E, y5, y6, y7, y8, rfl, X, I, cov⟩ := hI
      rw [List.length_map, hsl, List.take_length] at cov
      have hPost := TInv.post C I cov
      refine ⟨.ref d, rfl, d, _, rfl, X.d, fun z nz => ?_⟩
      have sz := same_new (o := .lst ((kvW p E).map (·.2))) nz
      have nz0 : H z = none := by
        cases e : H z with
        | none => rfl
        | some o => rw [X.sm _ _ e] at nz; cases nz
      have ev : (kvW p E).map (·.2) = (E.map (·.2)).map V.ref := by
        unfold kvW
        rw [List.map_map, List.map_map]
        rfl
      rw [ev] at sz ⊢
      refine q _ z (E.map (·.2)) (E.map (·.1)) (X.sm.trans sz) nz0 upd_same ?_ hPost
      have rw_ : ∀ E' : List Ew, (∀ e ∈ E', IntsAt H5 e.2 e.1) → Rows H5 (E'.map (·.2)) (E'.map (·.1)) := fun E' h => by
        induction E' with
        | nil => exact True.intro
        | cons e E' ih => exact ⟨h e List.mem_cons_self, ih fun x hx => h x (List.mem_cons_of_mem _ hx)⟩
      exact (rw_ E X.ew).same sz
end
end HL

set_option pp.maxSteps 2000
namespace HL
open PySem PySem.Spec PyProof.Rows L2
open GR (Sys Least Nz EqP Cf Orth Sgn Han Latt pairT trimC Grb Spn Kr backSt kr_latt)
open BL (Lb un)
/-! ### a lot's swaps, as told -/
theorem unI_getD {i n t : Nat} (hi : i < n) (ht : t < n) : (unI i n).getD t 0 = un i t := by
  have z : ∀ {m k : Nat}, (zeros m).getD k 0 = 0 := fun {m k} => by
    unfold zeros
    rw [List.getD_eq_getElem?_getD, List.getElem?_replicate]
    split <;> rfl
  unfold unI
  show _ = if t = i then 1 else 0
  by_cases c : t < i
  · rw [List.append_assoc, List.getD_eq_getElem?_getD, List.getElem?_append_left (by rw [zeros_len]; exact c), ← List.getD_eq_getElem?_getD, z, if_neg (by omega)]
  · rw [List.append_assoc, List.getD_eq_getElem?_getD, List.getElem?_append_right (by rw [zeros_len]; omega), zeros_len]
    by_cases e : t = i
    · rw [if_pos e, e, Nat.sub_self]
      rfl
    · rw [if_neg e]
      obtain ⟨m, hm⟩ : ∃ m, t - i = m + 1 := ⟨t - i - 1, by omega⟩
      rw [hm]
      show ((zeros (n - i - 1))[m]?).getD 0 = 0
      rw [← List.getD_eq_getElem?_getD, z]
theorem lot_spn {ll : List (List Int)} (ef : flaw ll = none) {st rows} (I : SInv (width ll + ll.length) (width ll + ll.length) (wdW ll) st rows) : Spn (Kr ll (width ll)) (backSt (width ll) st) ∧ (∀ q ∈ st, Ent (bnd 4) q.2) := by
  have hok := flaw_ok ef
  have hrw := flaw_rows ef
  obtain ⟨wl, we⟩ := wdW_ok ef
  have wn := wdW_len (ll := ll)
  obtain ⟨S, En, _⟩ := I.done wl (by omega)
  have at_ : ∀ i, i < ll.length → ∃ r, r.length = width ll ∧ ll.getD i [] = r ∧ (wdW ll).getD i [] = r ++ unI i ll.length := fun i hi => by
    have e : ll[i]? = some ll[i] := List.getElem?_eq_getElem hi
    refine ⟨ll[i], (hrw _ (List.getElem_mem hi)).1, by rw [List.getD_eq_getElem?_getD, e]; rfl, ?_⟩
    rw [List.getD_eq_getElem?_getD, wdW_at e]
    rfl
  refine ⟨GR.spn_of (k := ll.length) (W := wdW ll) rfl wn wl (fun i hi j hj => ?_) (fun i hi t ht => ?_) I.ech S, En⟩
  · obtain ⟨r, h1, h2, h3⟩ := at_ i hi
    rw [h2, h3, List.getD_eq_getElem?_getD, List.getElem?_append_left (by omega), List.getD_eq_getElem?_getD]
  · obtain ⟨r, h1, h2, h3⟩ := at_ i hi
    rw [h3, List.getD_eq_getElem?_getD, List.getElem?_append_right (by omega), h1, show width ll + t - width ll = t by omega, ← List.getD_eq_getElem?_getD]
    exact unI_getD hi ht
/-- what of a lot is asked: its least swaps' numbers are small -/
structure SmL (ll : List (List Int)) : Prop where
  n4 : ll.length ≤ 4
  sm : ∀ x, Kr ll (width ll) x → Nz ll.length x → Least (Kr ll (width ll)) ll.length x → ∀ i, -5 ≤ x i ∧ x i ≤ 5
/-- no spanning row begins at the last kind -/
theorem last_none {ll : List (List Int)} (ef : flaw ll = none) {B : List (Nat × BL.Vec)} (Y : Spn (Kr ll (width ll)) B) : ∀ q ∈ B, q.1 + 1 < ll.length := fun q hq => by
  have hok := flaw_ok ef
  obtain ⟨h1, h2⟩ := Y.ech.ok q hq
  obtain ⟨k1, k2⟩ := Y.inL q hq
  have lt : q.1 < ll.length := Classical.byContradiction fun c => h1 (k1 _ (by omega))
  refine Classical.byContradiction fun c => ?_
  have e1 : q.1 = ll.length - 1 := by omega
  have ev : q.2 = fun i => q.2 q.1 * un q.1 i := funext fun i => by
    unfold BL.un
    by_cases e : i = q.1
    · rw [if_pos e, e]; omega
    · rw [if_neg e]
      by_cases l : i < q.1
      · rw [h2 i l]; omega
      · rw [k1 i (by omega)]; omega
  have hr := okRow_iff.mp (okRow_all ef _ (List.getElem_mem lt))
  obtain ⟨n, hn, h0⟩ := hr.2.2
  obtain ⟨j, hj, rfl⟩ := List.mem_iff_getElem.mp hn
  have := k2 j (by omega)
  have el : ll.getD q.1 [] = ll[q.1] := by
    rw [List.getD_eq_getElem?_getD, List.getElem?_eq_getElem lt]
    rfl
  rw [ev, BL.Lb_mul, BL.Lb_un lt, el] at this
  rw [List.getD_eq_getElem?_getD, List.getElem?_eq_getElem hj] at this
  have this : q.2 q.1 * (ll[q.1])[j] = 0 := this
  rcases Int.mul_eq_zero.mp this with h | h
  · exact h1 h
  · omega
theorem lot_bnd {ll : List (List Int)} (ef : flaw ll = none) (A : SmL ll) {B : List (Nat × BL.Vec)} (Y : Spn (Kr ll (width ll)) B) {P : Nat} (le : P ≤ ll.length) : LBnd (Kr ll (width ll)) P := by
  have lift : ∀ g, Kr ll (width ll) g → Nz P g → Least (Kr ll (width ll)) P g → ∃ z, Kr ll (width ll) z ∧ Nz ll.length z ∧ Least (Kr ll (width ll)) ll.length z ∧ EqP P z g := fun g h1 h2 h3 =>
    GR.least_lift kr_latt le h2 h3 _ g (Nat.le_refl _) h1 fun _ _ => rfl
  have B3 : B.length ≤ 3 := by
    have h := GR.nd_len (l := B.map (·.1)) (k := List.range (ll.length - 1)) (by
      rw [List.nodup_iff_pairwise_ne, List.pairwise_map]
      exact Y.ech.rise.imp fun {a b} h e => by omega) fun x hx => by
      obtain ⟨q, hq, rfl⟩ := List.mem_map.mp hx
      have := last_none ef Y q hq
      exact List.mem_range.mpr (by omega)
    rw [List.length_map, List.length_range] at h
    have := A.n4
    omega
  refine ⟨fun G hG nd => ?_, fun x h1 h2 h3 i hi => ?_⟩
  · have := Y.few kr_latt (D := 5) le (fun z a b c i => A.sm z a b c i) hG (fun g hg => lift g (hG g hg).1 (hG g hg).2.1 (hG g hg).2.2) nd
    have h3 : (2 * 5 + 1) ^ B.length ≤ (2 * 5 + 1) ^ 3 := Nat.pow_le_pow_right (by decide) B3
    have e : (2 * 5 + 1) ^ 3 = 1331 := by decide
    omega
  · obtain ⟨z, z1, z2, z3, z4⟩ := lift x h1 h2 h3
    rw [← z4 i hi]
    exact A.sm z z1 z2 z3 i
theorem fresh_least {L : BL.Vec → Prop} {p : Nat} {f : BL.Vec} (Fr : GR.Fresh L p f) (h : 0 < f p) : Least L (p + 1) f := by
  intro y hy nz cf
  have z : ∀ i, i < p → y i = 0 := fun i hi => by
    have := cf i (by omega)
    have := Fr.f0 i hi
    omega
  obtain ⟨i, hi, hx⟩ := nz
  have ei : i = p := Classical.byContradiction fun q => hx (z i (by omega))
  subst ei
  have hd := Fr.fdv y hy z
  have h3 : (f i).natAbs ≤ (y i).natAbs := Nat.le_of_dvd (by omega) (Int.natAbs_dvd_natAbs.mpr hd)
  have hc := cf i (by omega)
  intro j hj
  by_cases q : j = i
  · subst q
    omega
  · rw [z j (by omega), Fr.f0 j (by omega)]
/-! ### what begins where -/
theorem fst_one {r : List Int} {m m' : Nat} (a : FstI r m) (b : FstI r m') : m = m' := by
  by_cases c : m < m'
  · exact absurd (b.2.2 m c) a.2.1
  · by_cases d : m' < m
    · exact absurd (a.2.2 m' d) b.2.1
    · omega
structure BG (H : Hp) (kvs : List (Key × V)) (D : List (List Int)) : Prop where
  le : kvs.length ≤ D.length
  at_ : ∀ m : Nat, ((∀ r ∈ D, ¬ FstI r m) ∧ valV kvs (Sum.inl (m : Int)) = none) ∨ ∃ r ∈ D, FstI r m ∧ ∃ a f, valV kvs (Sum.inl (m : Int)) = some (.ref a) ∧ IntsAt H a f ∧ WayI r f
theorem BG.same {H H' : Hp} {kvs : List (Key × V)} {D : List (List Int)} (b : BG H kvs D) (s : ∀ a xs, IntsAt H a xs → IntsAt H' a xs) : BG H' kvs D :=
  ⟨b.le, fun m => (b.at_ m).imp id fun ⟨r, h1, h2, a, f, h3, h4, h5⟩ => ⟨r, h1, h2, a, f, h3, s _ _ h4, h5⟩⟩
theorem BG.start {H : Hp} : BG H [] [] := ⟨Nat.le_refl _, fun m => .inl ⟨(fun r hr => by cases hr), rfl⟩⟩
theorem BG.put {H : Hp} {kvs : List (Key × V)} {D : List (List Int)} (b : BG H kvs D) {r f : List Int} {m : Nat} {a : Addr} (hr : FstI r m) (hf : IntsAt H a f) (hw : WayI r f) : BG H (putK kvs (Sum.inl (m : Int)) (.ref a)) (D ++ [r]) := by
  refine ⟨?_, fun m' => ?_⟩
  · have := length_putK kvs (Sum.inl (m : Int) : Key) (.ref a)
    have := b.le
    rw [List.length_append, List.length_singleton]
    omega
  · rw [valV_put]
    by_cases e : m' = m
    · subst e
      rw [if_pos rfl]
      exact .inr ⟨r, List.mem_append_right _ (List.mem_singleton.mpr rfl), hr, a, f, rfl, hf, hw⟩
    · rw [if_neg (fun z => e (by have := Sum.inl.inj z; omega))]
      rcases b.at_ m' with ⟨h1, h2⟩ | ⟨r', h1, h2⟩
      · refine .inl ⟨fun x hx => ?_, h2⟩
        rcases List.mem_append.mp hx with h | h
        · exact h1 x h
        · rw [List.mem_singleton.mp h]
          exact fun z => e (fst_one z hr)
      · exact .inr ⟨r', List.mem_append_left _ h1, h2⟩
/-- what ground tells -/
structure GrP (ll : List (List Int)) (R : List (List Int)) : Prop where
  g : Grb (Kr ll (width ll)) ll.length (R.map vz)
  len : ∀ r ∈ R, r.length = ll.length
  five : ∀ r ∈ R, ∀ x ∈ r, -5 ≤ x ∧ x ≤ 5
  pos : ∀ r ∈ R, ∃ m, FstI r m ∧ 0 < r.getD m 0
  few : R.length ≤ 665
  rise : R.Pairwise (· < ·)
/-- the spanning rows of a lot -/
theorem drop_fst {st : List (Nat × List Int)} {n : Nat} (E : Ech n st) {g : Nat} {r : List Int} (hr : r ∈ dropS g st) : ∃ q ∈ backSt g st, FstI r q.1 ∧ vz r = q.2 ∧ ∃ q' ∈ st, r = q'.2.drop g := by
  unfold dropS at hr
  obtain ⟨q, hq, rfl⟩ := List.mem_map.mp hr
  obtain ⟨h1, h2⟩ := List.mem_filter.mp hq
  have hg : g ≤ q.1 := of_decide_eq_true h2
  obtain ⟨o1, o2, o3, o4⟩ := E.ok q h1
  have gd : ∀ i, (q.2.drop g).getD i 0 = q.2.getD (g + i) 0 := fun i => by
    rw [List.getD_eq_getElem?_getD, List.getElem?_drop, List.getD_eq_getElem?_getD]
  refine ⟨(q.1 - g, fun i => GR.vzR q.2 (g + i)), ?_, ⟨?_, ?_, fun j hj => ?_⟩, funext fun i => gd i, q, h1, rfl⟩
  · unfold GR.backSt
    exact List.mem_map.mpr ⟨(q.1, GR.vzR q.2), List.mem_map.mpr ⟨q, hq, rfl⟩, rfl⟩
  · show q.1 - g < (q.2.drop g).length
    rw [List.length_drop]
    omega
  · show (q.2.drop g).getD (q.1 - g) 0 ≠ 0
    rw [gd, show g + (q.1 - g) = q.1 by omega]
    exact o3
  · rw [gd]
    have hj : j < q.1 - g := hj
    exact o4 (g + j) (by omega)
theorem back_drop {st : List (Nat × List Int)} {g : Nat} {q : Nat × BL.Vec} (hq : q ∈ backSt g st) : ∃ r ∈ dropS g st, vz r = q.2 := by
  unfold GR.backSt at hq
  obtain ⟨q1, h1, rfl⟩ := List.mem_map.mp hq
  obtain ⟨q2, h2, rfl⟩ := List.mem_map.mp h1
  refine ⟨q2.2.drop g, ?_, funext fun i => ?_⟩
  · unfold dropS
    exact List.mem_map.mpr ⟨q2, h2, rfl⟩
  · show (q2.2.drop g).getD i 0 = q2.2.getD (g + i) 0
    rw [List.getD_eq_getElem?_getD, List.getElem?_drop, List.getD_eq_getElem?_getD]
end HL

set_option pp.maxSteps 3000
namespace HL
open PySem PySem.Spec PyProof.Rows L2 LamX
open C8 (pss_cut)
open GR (Sys Least Nz EqP Cf Orth Sgn Han Latt pairT trimC Grb Spn Kr backSt kr_latt)
abbrev sGround : Stmt := topS 45
abbrev NGr : List Str := ["lot", "begun", "rows", "place", "row"]
theorem scGr : FnScope NGr ["lot"] (defScope sGround) := ⟨rfl, rfl, rfl, by decide +kernel, rfl, by decide +kernel, by decide +kernel⟩
structure GI (ll : List (List Int)) (i : Nat) (R : List (List Int)) : Prop where
  g : Grb (Kr ll (width ll)) i (R.map vz)
  len : ∀ r ∈ R, r.length = ll.length
  ent : ∀ r ∈ R, Ent (2 ^ (i * 7400)) r
  few : R.length ≤ 1331
  pos : ∀ r ∈ R, ∃ m, FstI r m ∧ 0 < r.getD m 0
theorem GI.start {ll : List (List Int)} : GI ll 0 [] := ⟨GR.grb_zero, (fun r hr => by cases hr), (fun r hr => by cases hr), Nat.zero_le _, fun r hr => by cases hr⟩
theorem GI.next {ll R : List (List Int)} {i : Nat} (P : LPost (Kr ll (width ll)) i ll.length (i * 7400 + 4700 + 2668) R) : GI ll (i + 1) R :=
  ⟨P.g, P.len, fun r hr => (P.ent r hr).mono (two_pow_mono (by omega)), P.few, P.pos⟩
theorem fst_ng {r : List Int} {m : Nat} (h : FstI r m) : FstI (ngR r) m := ⟨by rw [ngR_len]; exact h.1, by rw [ngR_getD]; have := h.2.1; omega, fun j hj => by rw [ngR_getD, h.2.2 j hj]; rfl⟩
theorem lpre_of {ll R : List (List Int)} {H : Hp} {kvs : List (Key × V)} {st : List (Nat × List Int)} {rows : List (List Int)} {i : Nat} (ef : flaw ll = none) (A : SmL ll) (I : SInv (width ll + ll.length) (width ll + ll.length) (wdW ll) st rows) (b : BG H kvs (dropS (width ll) st)) (hi : i < ll.length) (G : GI ll i R) :
    ∃ f, frV H ((valV kvs (Sum.inl (i : Int))).getD .non) f ∧ LPre (Kr ll (width ll)) i ll.length f (i * 7400) 4700 R := by
  obtain ⟨Y, En⟩ := lot_spn ef I
  have hok := flaw_ok ef
  have hB := lot_bnd ef A Y (P := i + 1) (by omega)
  have done : ∀ f, frV H ((valV kvs (Sum.inl (i : Int))).getD .non) f → GR.Fresh (Kr ll (width ll)) i (fvO f) → FrOk i ll.length f 4700 → ∃ f, frV H ((valV kvs (Sum.inl (i : Int))).getD .non) f ∧ LPre (Kr ll (width ll)) i ll.length f (i * 7400) 4700 R := fun f h1 h2 h3 =>
    ⟨f, h1, ⟨kr_latt, h2, G.g, G.len, G.ent, h3, G.few, by omega, hB, hi, by omega⟩⟩
  rcases b.at_ i with ⟨h1, h2⟩ | ⟨r, hr, hfst, a, f, h2, hf, hw⟩
  · refine done none ?_ ?_ fun g hg => by cases hg
    · rw [h2]
      rfl
    · refine Y.fresh0 kr_latt ⟨fun _ _ => rfl, fun j _ => BL.Lb_zero fun _ _ => rfl⟩ fun q hq e => ?_
      obtain ⟨r, hr, ev⟩ := back_drop hq
      obtain ⟨o1, o2⟩ := Y.ech.ok q hq
      have e1 : ∀ j, r.getD j 0 = q.2 j := fun j => congrFun ev j
      refine h1 r hr ⟨Classical.byContradiction fun c => o1 ?_, ?_, fun j hj => ?_⟩
      · rw [← e1, List.getD_eq_getElem?_getD, List.getElem?_eq_none (by omega)]
        rfl
      · rw [e1, ← e]
        exact o1
      · rw [e1]
        exact o2 j (by omega)
  · obtain ⟨q, hq, qf, qv, q', hq', er⟩ := drop_fst I.ech hr
    have ei : i = q.1 := fst_one hfst qf
    obtain ⟨hwr, m, hm, hpos⟩ := hw
    have ffi : FstI f i := by
      rcases hwr with e | e <;> rw [e]
      · exact hfst
      · exact fst_ng hfst
    have em : m = i := fst_one hm ffi
    subst em
    have hv : vz f = q.2 ∨ vz f = GR.ng q.2 := by
      rcases hwr with e | e
      · exact .inl (by rw [e, qv])
      · exact .inr (by rw [e, vz_ng, qv])
    have Fr := Y.fresh kr_latt hq hv (by rw [← ei]; exact hpos)
    rw [← ei] at Fr
    have small := hB.sm (vz f) Fr.fL ⟨m, by omega, ffi.2.1⟩ (fresh_least Fr hpos) m (by omega)
    have small : f.getD m 0 ≤ 5 := small.2
    obtain ⟨_, o2, _⟩ := I.ech.ok q' hq'
    have lr : r.length = ll.length := by
      rw [er, List.length_drop, o2]
      omega
    have er4 : Ent (2 ^ 4700) r := fun x hx => by
      rw [er] at hx
      exact ((En q' hq').mono bnd_bits) x (List.mem_of_mem_drop hx)
    refine done (some f) ?_ Fr fun g hg => ?_
    · rw [h2]
      exact ⟨a, rfl, hf⟩
    · cases hg
      refine ⟨?_, hpos, by omega, ?_⟩
      · rcases hwr with e | e <;> rw [e]
        · exact lr
        · rw [ngR_len]; exact lr
      · rcases hwr with e | e <;> rw [e]
        · exact er4
        · exact ngR_ent er4
theorem grp_of {ll R R' : List (List Int)} (ef : flaw ll = none) (A : SmL ll) (Bd : LBnd (Kr ll (width ll)) ll.length) (G : GI ll ll.length R) (prm : R'.Perm R) (rise : R'.Pairwise (· < ·)) : GrP ll R' where
  g := by
    have G := G.g
    have pv := prm.map vz
    refine ⟨fun r hr => G.ok r (pv.mem_iff.mp hr), fun x h1 h2 h3 => ?_, (pv.pairwise_iff fun {x y} h => ⟨fun e => h.1 e.symm, fun e => h.2 (opp_flip e)⟩).mpr G.dif⟩
    obtain ⟨r, hr, q⟩ := G.all x h1 h2 h3
    exact ⟨r, pv.mem_iff.mpr hr, q⟩
  len r hr := G.len r (prm.mem_iff.mp hr)
  five r hr x hx := by
    have hr' := prm.mem_iff.mp hr
    obtain ⟨h1, h2, h3⟩ := G.g.ok (vz r) (List.mem_map_of_mem hr')
    obtain ⟨i, hi, rfl⟩ := List.mem_iff_getElem.mp hx
    have := A.sm (vz r) h1 h2 h3 i
    have e : vz r i = r[i] := by
      show r.getD i 0 = _
      rw [List.getD_eq_getElem?_getD, List.getElem?_eq_getElem hi]
      rfl
    rwa [e] at this
  pos r hr := G.pos r (prm.mem_iff.mp hr)
  few := by
    have h := Bd.few (R.map vz ++ (R.map vz).map GR.ng) (fun g hg => by
      rcases List.mem_append.mp hg with h | h
      · exact G.g.ok g h
      · obtain ⟨x, hx, rfl⟩ := List.mem_map.mp h
        obtain ⟨h1, h2, h3⟩ := G.g.ok x hx
        exact ⟨kr_latt.ng h1, h2.ng, h3.ng kr_latt⟩) (both_pw G.g.dif fun x hx => (G.g.ok x hx).2.1)
    simp only [List.length_append, List.length_map] at h
    rw [prm.length_eq]
    omega
  rise := rise
section
variable {P : Program} {w : World} {K : PySem.W.Frag} {mg : Str → Option Value} {base : Heap}
def spGround (T : List (Addr × Str)) : Sp := fun vs H Q _ => ∃ (p : Addr) (as : List Addr) (ll : List (List Int)), vs = [.ref p] ∧ RowsAt H p as ll ∧ flaw ll = none ∧ SmL ll ∧ Tabs T H ∧
  ∀ (H' : Hp) (l : Addr) (ra : List Addr) (R : List (List Int)), ExtN H H' → Tabs T H' → New H l → H' l = some (.lst (ra.map V.ref)) → Rows H' ra R → GrP ll R → Q (.ref l) H'
theorem ok_ground {f : Addr} {fd : FuncData} {T : List (Addr × Str)} (F : Fun K "ground" "ground" sGround f fd) (B : Bl mg) (mSo : mg "sorted" = none) (CSp : Cal P w K mg base CX0 6 "spanning" ["lot"] (spSpan T)) (CFp : Cal P w K mg base CX0 1 "first_place" ["row"] spFirstP) (CTw : Cal P w K mg base CX0 2 "told_way" ["row"] spWay)
    (CLf : Cal P w K mg base CX0 4 "lifted" ["rows", "place", "fresh"] spLift) : FnOk P w K mg base CX0 7 f fd ["lot"] (spGround T) := by
  obtain ⟨fSp, fdSp, GSp, gSp, kSp, bSp⟩ := CSp.ex
  obtain ⟨fFp, fdFp, GFp, gFp, kFp, bFp⟩ := CFp.ex
  obtain ⟨fTw, fdTw, GTw, gTw, kTw, bTw⟩ := CTw.ex
  obtain ⟨fLf, fdLf, GLf, gLf, kLf, bLf⟩ := CLf.ex
  refine F.ok scGr (fun vs H Q E h => ?_) (fun cdv A outer s H vs Q E hr h => ?_)
  · obtain ⟨p, as, ll, rfl, _⟩ := h
    rfl
  · obtain ⟨p, as, ll, rfl, R0, ef, SL, hT, q⟩ := h
    have hu := hu_of hr
    have hok := flaw_ok ef
    have hal := R0.2.len
    refine ⟨_, (pss_cut (ps_setDc (i := 1) (own := [("row", 4)]) (g := gName 4) (tt := tYes) (tk := tCall spFirstP [] E0 (tCons (tVar 4) tNil)) (tv := tCall spWay [] E0 (tCons (tVar 4) tNil)) rfl scGr.nd rfl rfl (sw_trueD rfl rfl rfl (by decide +kernel)) (pi_list (pe_call GSp (hr.mono (by decide)) (by rfl) gSp kSp bSp .nil pass0 (pa_cons (pv 0) pa_nil)))
        (blkOk_by (own := [("row", 4)]) (N := NGr) (sc := defScope sGround) (by decide +kernel)) (fun _ _ _ _ _ => pg_name (i := 4) scGr.nd rfl (Or.inl rfl)) (fun _ _ _ _ _ => pts_nil)
        (fun _ _ _ _ _ => pe_call GFp (hr.mono (by decide)) (by rfl) gFp kFp bFp .nil pass0 (pa_cons (pv 4) pa_nil))
        (fun _ _ _ _ _ => pe_call GTw (hr.mono (by decide)) (by rfl) gTw kTw bTw .nil pass0 (pa_cons (pv 4) pa_nil)))
      (pss_cons (ps_set (i := 2) scGr.nd rfl (.inl rfl) (pe_lst pa_nil))
      (pss_cons (ps_for PassesOwn.never rfl (pi_range1 (by rfl) B.range (pa_cons (pe_callB call_len_seq (by rfl) B.len PySem.boot_len (pa_cons (pv 0) pa_nil)) pa_nil)) (pg_name (i := 3) scGr.nd rfl (.inl rfl))
        (pss_one (ps_set (i := 2) scGr.nd rfl (.inl rfl) (pe_call GLf (hr.mono (by decide)) (by rfl) gLf kLf bLf .nil pass0 (pa_cons (pv 2) (pa_cons (pv 3) (pa_cons (pe_dget1 hu (pv 1) (pv 3) ⟨rfl, rfl, rfl, rfl⟩) pa_nil)))))))
      (pss_one (ps_ret (pe_callB (cr_sortedD hr) (by rfl) mSo (by decide +kernel) (pa_cons (pv 2) pa_nil))))))), ?_⟩
    -- what begins where
    refine ⟨fun σ' H' => ∃ (bg : Addr) (kvs : List (Key × V)) (st : List (Nat × List Int)) (rows : List (List Int)), σ' = [some (.ref p), some (.ref bg), none, none, none] ∧ ExtN H H' ∧ Tabs T H' ∧ H' bg = some (.dK kvs) ∧ BG H' kvs (dropS (width ll) st) ∧ SInv (width ll + ll.length) (width ll + ll.length) (wdW ll) st rows, ?_, ?_⟩
    · refine ⟨.ref p, rfl, nilA ⟨p, as, ll, rfl, R0, ef, hT, fun H1 l sa st rows E1 T1 nl hl hS I => ?_⟩⟩
      refine ⟨l, rfl, ⟨_, SqL.of hl⟩, fun D nD => ?_⟩
      have hsl := hS.len
      have hds : (dropS (width ll) st).length ≤ 5 := by
        have h1 : (dropS (width ll) st).length ≤ st.length := by
          unfold dropS
          rw [List.length_map]
          exact List.length_filter_le _ _
        have := (I.done (wdW_ok ef).1 (by rw [wdW_len]; omega)).2.2
        omega
      refine dc_list (K := K) (a := l) (xs := sa.map V.ref) (fun i H' => Same H1 H' ∧ ∃ kvs, H' D = some (.dK kvs) ∧ BG H' kvs ((dropS (width ll) st).take i)) ⟨same_new nD, [], upd_same, BG.start⟩ (fun i H' _ hP => SqL.of (hP.1 _ _ hl)) (fun i x H' hx ⟨sj, kvs, hD, hb⟩ => ?_) (fun H' ⟨sj, kvs, hD, hb⟩ => ?_)
      · obtain ⟨a, ha, rfl⟩ := refAt hx
        obtain ⟨r, hr1, hr2⟩ := (hS.same sj).at ha
        have hr2 : IntsAt H' a r := hr2
        have hrm := List.mem_of_getElem? hr1
        obtain ⟨qq, hqq, qf, qv, q', hq', er⟩ := drop_fst I.ech hrm
        have lr : r.length ≤ 100 := by
          obtain ⟨_, o2, _⟩ := I.ech.ok q' hq'
          rw [er, List.length_drop, o2]
          omega
        refine ⟨rfl, yes (iteT ?_)⟩
        refine ⟨.ref a, rfl, nilA ⟨a, r, rfl, hr2, lr, ⟨_, qf.2.1⟩, fun H2 m s2 hm => ?_⟩⟩
        refine ⟨.ref a, rfl, nilA ⟨a, r, rfl, hr2.same s2, lr, ⟨_, qf.2.1⟩, fun H3 z w' s3 hz hw => ?_⟩⟩
        have s23 := s2.trans s3
        have hD3 := s23 _ _ hD
        refine ⟨kvs, Sum.inl (m : Int), rfl, hD3, ?_, same_late (sj.trans s23) nD, _, upd_same, ?_⟩
        · have h1 := hb.le
          have h2 := List.length_take_le' i (dropS (width ll) st)
          exact small1000 (by omega)
        · rw [List.take_add_one, hr1]
          have hb3 := hb.same (H' := H3) fun a xs h => h.same s23
          have := hb3.put hm hz hw
          exact this.same fun b xs h => by
            show upd H3 D _ b = _
            rw [upd_ne (fun e => by rw [e] at h; have h : H3 D = some (.tup (xs.map V.int)) := h; rw [hD3] at h; cases h)]
            exact h
      · rw [List.length_map, hsl, List.take_length] at hb
        exact ⟨D, kvs, st, rows, rfl, E1.trans (ExtN.of_same sj), T1.ext sj, hD, hb, I⟩
    rintro σ' H1 ⟨bg, kvs, st, rows, rfl, E1, T1, hbg, hb, I⟩
    refine ⟨Nat.zero_le _, fun l0 nl0 => ?_⟩
    have s0 := same_new (o := .lst []) nl0
    have hpR := (R0.ext E1).1
    refine ⟨.ref p, rfl, p, _, rfl, .inr (SqT.of (s0 _ _ hpR)), ?_⟩
    rw [List.length_map, hal]
    refine ⟨(ll.length : Int), rfl, by omega, by omega, ?_⟩
    refine for_range (lo := 0) (n := ((ll.length : Nat) : Int).toNat) (fun i σ' H' => ∃ (lr : Addr) (ra : List Addr) (R : List (List Int)) (y3 : Option V), σ' = [some (.ref p), some (.ref bg), some (.ref lr), y3, none] ∧ Same H1 H' ∧ H' lr = some (.lst (ra.map V.ref)) ∧ Rows H' ra R ∧ GI ll i R) ⟨l0, [], [], none, rfl, s0, upd_same, True.intro, GI.start⟩ (fun i σ' H2 hi hI => ?_) (fun σ' H2 hI => ?_)
    · obtain ⟨lr, ra, R, y3, rfl, s2, hlr, hR, G⟩ := hI
      have hi' : i < ll.length := by omega
      have ez : (0 : Int) + (i : Nat) = ((i : Nat) : Int) := by omega
      rw [ez]
      have hbg2 := s2 _ _ hbg
      have hb2 := hb.same (H' := H2) fun a xs h => h.same s2
      obtain ⟨f, hf, LP⟩ := lpre_of ef SL I hb2 hi' G
      refine ⟨.ref lr, rfl, .int (i : Int), rfl, .ref bg, rfl, bg, rfl, .inl ⟨_, .inl hbg2⟩, .int (i : Int), rfl, _, .inl ⟨kvs, Sum.inl (i : Int), .inl hbg2, rfl, rfl⟩, ?_⟩
      refine ⟨lr, i, ll.length, _, ra, R, f, Kr ll (width ll), i * 7400, 4700, rfl, hlr, hR, hf, LP, by omega, fun H3 l3 ra3 R3 s3 nl3 hl3 hR3 P3 => ?_⟩
      exact ⟨l3, ra3, R3, _, rfl, s2.trans s3, hl3, hR3, GI.next P3⟩
    · obtain ⟨lr, ra, R, y3, rfl, s2, hlr, hR, G⟩ := hI
      rw [Int.toNat_natCast] at G
      have hrm := rows_map hR
      have hre := rows_each hR
      have n1 := hok.1
      refine ⟨.ref lr, rfl, lr, ra, fun a => .tuple ((rowF H2 a).map .int), rfl, SqL.of hlr, fun a ha => dq_row (hre a ha).2, ?_, .inl fun d hd => ?_, fun a ha => ?_, fun cs z ecs PM nz => ?_⟩
      · intro d hd d' hd'
        obtain ⟨a, _, rfl⟩ := List.mem_map.mp hd
        obtain ⟨a', _, rfl⟩ := List.mem_map.mp hd'
        exact row_alike _ _
      · obtain ⟨a, ha, rfl⟩ := List.mem_map.mp hd
        have := G.len _ (hre a ha).1
        cases e : rowF H2 a with
        | nil => rw [e] at this; exact absurd this (by show 0 ≠ ll.length; omega)
        | cons x r => exact ⟨.int x, r.map .int, rfl⟩
      · show (PyData.tuple ((rowF H2 a).map .int)).depth ≤ 4
        rw [row_depth]
        decide
      · have S : cs.Pairwise fun a b => PySem.W.dataLe false (fun a => .tuple ((rowF H2 a).map .int)) a b = true := by
          rw [ecs]
          exact PySem.W.sort_pairwise (PySem.W.sortLe_total _ _ _) _
        have pR : (cs.map (rowF H2)).Perm R := by
          rw [← hrm]
          exact PM.map _
        have ndR : R.Nodup := by
          have := G.g.dif
          rw [List.pairwise_map] at this
          exact List.nodup_iff_pairwise_ne.mpr (this.imp fun {a b} h e => h.1 (by rw [e]; exact fun _ _ => rfl))
        have rise : (cs.map (rowF H2)).Pairwise (· < ·) := by
          have nd2 := pR.nodup_iff.mpr ndR
          rw [List.nodup_iff_pairwise_ne, List.pairwise_map] at nd2
          rw [List.pairwise_map]
          have S2 := S
          rw [dataLe_row] at S2
          refine (S2.and nd2).imp fun {a b} h => ?_
          have h1 := of_decide_eq_true h.1
          rcases lt_tot (rowF H2 a) (rowF H2 b) with c | c | c
          · exact c
          · exact absurd c h.2
          · exact absurd c h1
        have sz := same_new (o := .lst (cs.map V.ref)) nz
        have s1z := s2.trans sz
        refine q _ z cs (cs.map (rowF H2)) (E1.trans (ExtN.of_same s1z)) (T1.ext s1z) ?_ upd_same ?_ (grp_of ef SL (lot_bnd ef SL (lot_spn ef I).1 (Nat.le_refl _)) G pR rise)
        · exact ((New.of nz).back (E1.trans (ExtN.of_same s2)))
        · exact (map_rows fun a ha => (hre a (PM.mem_iff.mp ha)).2).same sz
end
end HL

set_option pp.maxSteps 2000
namespace HL
open PySem PySem.Spec PyProof.Rows L2 LamX
open C8 (pss_cut)
open RZ (pi_zipA ItzT iZipA)
open GR (Sys Least Nz EqP Cf Orth Sgn Han Latt pairT trimC Grb Spn Kr backSt kr_latt)
section
variable {prog : Program} {w : World} {A : Around} {E : Value → Shared → Prop} {s : Shared} {a b : Int} {t u : Tok}
theorem imul_int {Q : Value → Shared → Prop} (h : Q (.int (a * b) s.toks) { s with toks := s.toks + 1 }) (hm : IntMulOk a b) : wpAny (model prog w) A (inplaceOp .Mult (.int a t) (.int b u)) Q E s :=
  inplaceOp_gives (op := .Mult) (typeIs_int s a t) (typeIs_int s b u) F.noI_int_mul F.fills_int_mul F.slot_int_mul F.entry_int_mul (F.args_int_mul_2 _ _) (gives_int_mul a b t u hm) trivial h
end
/-- x *= y -/
def ipM : TIp := fun x y H Q => ∃ i j, x = .int i ∧ y = .int j ∧ CMul i j ∧ Q (.int (i * j)) H
theorem ip_mul {X : Cx} : PIp X .Mult ipM := by
  intro pins s σ H x y v u Q I r1 r2 h
  obtain ⟨i, j, e1, e2, hc, q⟩ := h
  subst e1; subst e2
  obtain ⟨t, rfl⟩ := r1
  obtain ⟨t', rfl⟩ := r2
  exact imul_int ⟨.int _, H, I.tok _, ⟨_, rfl⟩, q⟩ hc.ok
def boxI (b : List Int) : Int := b.foldl (fun x a => x * (a + 1)) 1
theorem box_from : ∀ {b : List Int} {x : Int}, 1 ≤ x → (∀ n ∈ b, 0 ≤ n) → x ≤ b.foldl (fun x a => x * (a + 1)) x
  | [], x, _, _ => Int.le_refl _
  | a :: b, x, hx, hb => by
    have a0 := hb a List.mem_cons_self
    have h1 : x * 1 ≤ x * (a + 1) := Int.mul_le_mul_of_nonneg_left (by omega) (by omega)
    rw [Int.mul_one] at h1
    exact Int.le_trans h1 (box_from (by omega) fun n hn => hb n (List.mem_cons_of_mem _ hn))
theorem box_take {b : List Int} {i : Nat} (hb : ∀ n ∈ b, 0 ≤ n) : 1 ≤ boxI (b.take i) ∧ boxI (b.take i) ≤ boxI b := by
  have h1 : 1 ≤ boxI (b.take i) := box_from (Int.le_refl _) fun n hn => hb n (List.mem_of_mem_take hn)
  refine ⟨h1, ?_⟩
  have e : boxI b = (b.drop i).foldl (fun x a => x * (a + 1)) (boxI (b.take i)) := by
    unfold boxI
    rw [← List.foldl_append, List.take_append_drop]
  rw [e]
  exact box_from h1 fun n hn => hb n (List.mem_of_mem_drop hn)
theorem scFirst : FnScope ["row", "many", "place", "number"] ["row", "many"] (defScope sFirst) := ⟨rfl, rfl, rfl, by decide +kernel, rfl, by decide +kernel, by decide +kernel⟩
theorem scLB : FnScope ["lot", "bill", "wrong"] ["lot", "bill"] (defScope sLookBill) := ⟨rfl, rfl, rfl, by decide +kernel, rfl, by decide +kernel, by decide +kernel⟩
theorem scBx : FnScope ["bill", "box", "amount"] ["bill"] (defScope sBox) := ⟨rfl, rfl, rfl, by decide +kernel, rfl, by decide +kernel, by decide +kernel⟩
theorem scBt : FnScope ["lot", "bill"] ["lot", "bill"] (defScope sBoth) := ⟨rfl, rfl, rfl, by decide +kernel, rfl, by decide +kernel, by decide +kernel⟩
section
variable {P : Program} {w : World} {K : PySem.W.Frag} {mg : Str → Option Value} {base : Heap}
/-! ### a lot that is one -/
/-! ### a bill that is one -/
def spFirst0 : Sp := fun vs H Q _ => ∃ (a : Addr) (m : Nat) (row : List Int), vs = [.ref a, .int (m : Int)] ∧ IntsAt H a row ∧ row.length = m ∧ row.length ≤ 100 ∧ (∀ n ∈ row, 0 ≤ n ∧ n < G30) ∧ ∀ H', Same H H' → Q .non H'
theorem ok_first0 {f : Addr} {fd : FuncData} {k : Nat} (F : Fun K "first_wrong" "first_wrong" sFirst f fd) (B : Bl mg) (mG : ∃ t, mg "GREAT" = some (.int G30 t)) : FnOk P w K mg base CX0 (k + 1) f fd ["row", "many"] spFirst0 := by
  obtain ⟨tG, mG⟩ := mG
  refine F.ok scFirst (fun vs H Q E h => ?_) (fun cdv A outer s H vs Q E hr h => ?_)
  · obtain ⟨a, m, row, rfl, _⟩ := h
    rfl
  · obtain ⟨a, m, row, rfl, hA, hl, hz, hb, q⟩ := h
    refine ⟨_, pss_cons (ps_if (pt_cmpR op_ne (pe_callB call_len_seq (by rfl) B.len PySem.boot_len (pa_cons (pv 0) pa_nil)) (pv 1) (nomark _)) pss_never pss_nil)
      (pss_cons (ps_for PassesOwn.never rfl (pi_enumT (by rfl) B.enumerate (pa_cons (pv 0) pa_nil)) (pg_tup rfl (pgs_cons (pg_name (i := 2) scFirst.nd rfl (.inl rfl)) (pgs_cons (pg_name (i := 3) scFirst.nd rfl (.inl rfl)) pgs_nil)))
        (pss_one (ps_if (pt_not (pt_chain op_le op_lt pe_int (pv 3) (pe_glob (v := .int G30) rfl mG ⟨_, rfl⟩))) pss_never pss_nil)))
      (pss_one (ps_ret pe_non))), ?_⟩
    refine ⟨.ref a, rfl, a, _, rfl, .inr (SqT.of hA), .int (m : Int), rfl, rfl, _, rfl, ?_⟩
    rw [List.length_map, hl, decide_eq_true rfl]
    refine iteF ⟨.ref a, rfl, a, _, rfl, SqT.of hA, ?_⟩
    refine ⟨fun i mm σ H' => i + mm = row.length ∧ Same H H' ∧ (∃ y2 y3, σ = [some (.ref a), some (.int (m : Int)), y2, y3]), ⟨row.length, by omega, Same.refl _, ⟨none, none, rfl⟩⟩, fun i mm σ H' hW => ?_⟩
    obtain ⟨em, sm, ⟨y2, y3, rfl⟩⟩ := hW
    have sA : SqT K H' a (row.map V.int) := SqT.of (hA.same sm)
    by_cases hi : i < row.length
    · have hri : row[i]? = some row[i] := List.getElem?_eq_getElem hi
      have g1 : (row.map V.int)[i]? = some (.int row[i]) := by rw [List.getElem?_map, hri]; rfl
      refine .inr ⟨⟨_, _, sA, g1⟩, fun σ' H2 => Same H H2 ∧ (∃ y2 y3, σ' = [some (.ref a), some (.int (m : Int)), y2, y3]), fun σ' H2 hN => ⟨mm - 1, by omega, by omega, hN⟩, fun x H2 hy => ?_⟩
      obtain ⟨T2, x2, rfl, nT, rfl, f2⟩ := hy
      have ex2 : x2 = .int row[i] := Option.some.inj ((f2 _ sA).symm.trans g1)
      subst ex2
      have s3 : Same H (upd H' T2 (.tup [.int (i : Nat), .int row[i]])) := sm.trans (same_new nT)
      refine ⟨T2, _, rfl, SqT.of upd_same, rfl, _, _, rfl, _, _, rfl, rfl, ?_⟩
      refine ⟨.int row[i], rfl, 0, row[i], rfl, rfl, _, rfl, chainF (j := G30) (fun Q' hq => hq) ?_⟩
      rw [decide_eq_true (hb _ (List.mem_of_getElem? hri))]
      exact iteF ⟨s3, ⟨_, _, rfl⟩⟩
    · exact .inl ⟨⟨_, sA, by rw [List.length_map]; omega⟩, q H' sm⟩
def spLookBill0 : Sp := fun vs H Q _ => ∃ (p b : Addr) (as : List Addr) (ll : List (List Int)) (row : List Int), vs = [.ref p, .ref b] ∧ RowsAt H p as ll ∧ flaw ll = none ∧ IntsAt H b row ∧ row.length = width ll ∧ (∀ n ∈ row, 0 ≤ n ∧ n < G30) ∧ ∀ H', Same H H' → Q .non H'
theorem ok_lookBill0 {f : Addr} {fd : FuncData} (F : Fun K "look_bill" "look_bill" sLookBill f fd) (CF : Cal P w K mg base CX0 1 "first_wrong" ["row", "many"] spFirst0) (CG : Cal P w K mg base CX0 3 "goods_of" ["lot"] spGoods0) : FnOk P w K mg base CX0 4 f fd ["lot", "bill"] spLookBill0 := by
  obtain ⟨fF, fdF, GF, gF, kF, bF⟩ := CF.ex
  obtain ⟨fG, fdG, GG, gG, kG, bG⟩ := CG.ex
  refine F.ok scLB (fun vs H Q E h => ?_) (fun cdv A outer s H vs Q E hr h => ?_)
  · obtain ⟨p, b, as, ll, row, rfl, _⟩ := h
    rfl
  · obtain ⟨p, b, as, ll, row, rfl, hL, ef, hB, hl, hb, q⟩ := h
    have hok := flaw_ok ef
    refine ⟨_, pss_cons (ps_set (i := 2) scLB.nd rfl (.inl rfl) (pe_call GF (hr.mono (by decide)) (by rfl) gF kF bF .nil pass0 (pa_cons (pv 1) (pa_cons (pe_call GG hr (by rfl) gG kG bG .nil pass0 (pa_cons (pv 0) pa_nil)) pa_nil))))
      (pss_one (ps_if (pt_cmpR op_notN (pv 2) pe_non (nomark _)) pss_never pss_nil)), ?_⟩
    refine ⟨.ref b, rfl, .ref p, rfl, p, as, ll, rfl, hL, ef, fun H1 s1 => ?_⟩
    refine ⟨b, width ll, row, rfl, hB.same s1, hl, by omega, hb, fun H2 s2 => ?_⟩
    exact ⟨_, rfl, rfl, _, rfl, iteF (q H2 (s1.trans s2))⟩
def spBox0 : Sp := fun vs H Q _ => ∃ (b : Addr) (row : List Int), vs = [.ref b] ∧ IntsAt H b row ∧ row.length ≤ 100 ∧ (∀ n ∈ row, 0 ≤ n) ∧ boxI row ≤ 4000 ∧ Q .non H
theorem ok_box0 {f : Addr} {fd : FuncData} {k : Nat} (F : Fun K "look_box" "look_box" sBox f fd) (mB : ∃ t, mg "MOST_BOX" = some (.int 4000 t)) : FnOk P w K mg base CX0 (k + 1) f fd ["bill"] spBox0 := by
  obtain ⟨tB, mB⟩ := mB
  refine F.ok scBx (fun vs H Q E h => ?_) (fun cdv A outer s H vs Q E hr h => ?_)
  · obtain ⟨b, row, rfl, _⟩ := h
    rfl
  · obtain ⟨b, row, rfl, hB, hz, h0, hx, q⟩ := h
    refine ⟨_, (pss_cons (ps_set (i := 1) scBx.nd rfl (.inl rfl) pe_int)
      (pss_cons (ps_for PassesOwn.never rfl (pi_tup (pv 0)) (pg_name (i := 2) scBx.nd rfl (.inl rfl))
      (pss_one (ps_aug (i := 1) scBx.nd rfl (.inl rfl) (pe_op op_add (pv 2) pe_int) ip_mul)))
      (pss_one (ps_if (pt_cmpR op_gt (pv 1) (pe_glob (v := .int 4000) rfl mB ⟨_, rfl⟩) (nomark _)) pss_never pss_nil)))), ?_⟩
    refine ⟨.ref b, rfl, b, rfl, ⟨_, SqT.of hB⟩, ?_⟩
    refine for_it (walk_tup (K := K) (a := b) (xs := row.map V.int)) (fun i σ H2 => H2 = H ∧ ∃ y2, σ = [some (.ref b), some (.int (boxI (row.take i))), y2]) ⟨rfl, none, rfl⟩ (fun i σ H2 _ ⟨e, _⟩ => by rw [e]; exact SqT.of hB) (fun i x σ H2 H3 hi ⟨eH, y2, eσ⟩ ⟨eY, hx'⟩ => ?_) (fun σ H2 ⟨eH, y2, eσ⟩ => ?_)
    · subst eH eY eσ
      rw [List.length_map] at hi
      have hri : row[i]? = some row[i] := List.getElem?_eq_getElem hi
      have ex : x = .int row[i] := by
        rw [List.getElem?_map, hri] at hx'
        exact (Option.some.inj hx').symm
      subst ex
      have n0 := h0 _ (List.mem_of_getElem? hri)
      have bt := box_take (b := row) (i := i) h0
      refine ⟨_, rfl, _, rfl, row[i], 1, rfl, rfl, _, _, rfl, rfl, .inl ⟨by omega, by omega⟩, rfl, some (.int row[i]), ?_⟩
      have e : boxI (row.take (i + 1)) = boxI (row.take i) * (row[i] + 1) := by
        rw [List.take_add_one, hri]
        unfold boxI
        rw [List.foldl_append]
        rfl
      rw [e]
      rfl
    · subst eH eσ
      rw [List.length_map, List.take_length]
      refine ⟨_, rfl, _, _, rfl, rfl, _, rfl, ?_⟩
      rw [decide_eq_false (by omega)]
      exact iteF q
def spBoth0 : Sp := fun vs H Q _ => ∃ (p b : Addr) (as : List Addr) (ll : List (List Int)) (row : List Int), vs = [.ref p, .ref b] ∧ RowsAt H p as ll ∧ flaw ll = none ∧ IntsAt H b row ∧ row.length = width ll ∧ (∀ n ∈ row, 0 ≤ n ∧ n < G30) ∧ boxI row ≤ 4000 ∧ ∀ H', Same H H' → Q .non H'
theorem ok_both0 {f : Addr} {fd : FuncData} (F : Fun K "look_both" "look_both" sBoth f fd) (CL : Cal P w K mg base CX0 4 "look_bill" ["lot", "bill"] spLookBill0) (CB : Cal P w K mg base CX0 1 "look_box" ["bill"] spBox0) : FnOk P w K mg base CX0 5 f fd ["lot", "bill"] spBoth0 := by
  obtain ⟨fL, fdL, GL, gL, kL, bL⟩ := CL.ex
  obtain ⟨fB, fdB, GB, gB, kB, bB⟩ := CB.ex
  refine F.ok scBt (fun vs H Q E h => ?_) (fun cdv A outer s H vs Q E hr h => ?_)
  · obtain ⟨p, b, as, ll, row, rfl, _⟩ := h
    rfl
  · obtain ⟨p, b, as, ll, row, rfl, hL, ef, hB, hl, hb, hx, q⟩ := h
    have hok := flaw_ok ef
    refine ⟨_, pss_cons (ps_expr (pe_call GL hr (by rfl) gL kL bL .nil pass0 (pa_cons (pv 0) (pa_cons (pv 1) pa_nil)))) (pss_one (ps_expr (pe_call GB (hr.mono (by decide)) (by rfl) gB kB bB .nil pass0 (pa_cons (pv 1) pa_nil)))), ?_⟩
    refine ⟨.ref p, rfl, .ref b, rfl, p, b, as, ll, row, rfl, hL, ef, hB, hl, hb, fun H1 s1 => ?_⟩
    exact ⟨.ref b, rfl, b, row, rfl, hB.same s1, by omega, fun n hn => (hb n hn).1, hx, q H1 s1⟩
/-! ### less -/
def spLessS : Sp := fun vs H Q _ => ∃ (a b : Addr) (xs ys : List Int) (k : Int), vs = [.ref a, .ref b, .int k] ∧ IntsAt H a xs ∧ IntsAt H b ys ∧ xs.length = ys.length ∧ xs.length ≤ 100 ∧ -1000 ≤ k ∧ k ≤ 1000 ∧ ∀ H' p, Same H H' → IntsAt H' p (subR xs ys k) → Q (.ref p) H'
theorem ok_lessS {f : Addr} {fd : FuncData} {k : Nat} {dvs : List V} (F : FunD K "less" "less" (defArgs sLess) (defBody sLess) (defScope sLess) dvs [] f fd) (B : Bl mg) (mz : mg "zip" = none) : FnOk P w K mg base CX0 (k + 1) f fd ["row", "other", "times"] spLessS := by
  refine F.ok scLe (fun vs H Q E h => ?_) (fun cdv A outer s H vs Q E hr h => ?_)
  · obtain ⟨a, b, xs, ys, k, rfl, _⟩ := h
    rfl
  · obtain ⟨a, b, xs, ys, k, rfl, hA, hB, hl, hz, k1, k2, q⟩ := h
    refine ⟨_, pss_one (ps_ret (pe_callTy call_tuple_of (by rfl) B.tuple (by decide +kernel) (pa_cons (pe_lc (own := [("number", 3), ("taken", 4)]) (g := gTup K 2 (gCons (gName 3) (gCons (gName 4) gNil))) (tt := tYes) rfl scLe.nd (pi_zipA (by rfl) mz (pa_cons (pv 0) (pa_cons (pv 1) pa_nil)))
        (blkOk_by (own := [("number", 3), ("taken", 4)]) (N := ["row", "other", "times", "number", "taken"]) (sc := defScope sLess) (by decide +kernel)) (fun _ _ _ _ _ => (pg_tup rfl (pgs_cons (pg_name (i := 3) scLe.nd rfl (Or.inl rfl)) (pgs_cons (pg_name (i := 4) scLe.nd rfl (Or.inl rfl)) pgs_nil)))) (fun _ _ _ _ _ => pts_nil)
        (fun _ _ _ _ _ => (pe_op op_sub (pv 3) (pe_op op_mul (pv 2) (pv 4))))) pa_nil))), ?_⟩
    refine ⟨.ref a, rfl, .ref b, rfl, a, b, _, _, rfl, .inr ⟨SqT.of hA, SqT.of hB, fun D nD => ?_⟩⟩
    refine ⟨fun i m H' => i + m = xs.length ∧ Same H H' ∧ H' D = some (.lst ((((xs.zip ys).take i).map fun q => q.1 - k * q.2).map V.int)), ⟨xs.length, by omega, same_new nD, upd_same⟩, fun i m H' hW => ?_⟩
    obtain ⟨em, sm, hD⟩ := hW
    have sA : SqT K H' a (xs.map V.int) := SqT.of (hA.same sm)
    have sB : SqT K H' b (ys.map V.int) := SqT.of (hB.same sm)
    by_cases hi : i < xs.length
    · have hx : xs[i]? = some (xs[i]'hi) := List.getElem?_eq_getElem hi
      have hy : ys[i]? = some (ys[i]'(by omega)) := List.getElem?_eq_getElem (by omega)
      have g1 : (xs.map V.int)[i]? = some (.int (xs[i]'hi)) := by rw [List.getElem?_map, hx]; rfl
      have g2 : (ys.map V.int)[i]? = some (.int (ys[i]'(by omega))) := by rw [List.getElem?_map, hy]; rfl
      refine .inr ⟨⟨_, _, _, _, sA, sB, g1, g2⟩, fun H2 => Same H H2 ∧ H2 D = some (.lst ((((xs.zip ys).take (i + 1)).map fun q => q.1 - k * q.2).map V.int)), fun H2 hN => ⟨m - 1, by omega, by omega, hN⟩, fun x H2 hyy => ?_⟩
      obtain ⟨T, x1, x2, rfl, nT, rfl, f1, f2⟩ := hyy
      have ex1 := Option.some.inj ((f1 _ sA).symm.trans g1)
      have ex2 := Option.some.inj ((f2 _ sB).symm.trans g2)
      subst ex1 ex2
      have sT := same_new (o := .tup [V.int (xs[i]'hi), V.int (ys[i]'(by omega))]) nT
      refine ⟨T, _, rfl, SqT.of upd_same, rfl, _, _, rfl, _, _, rfl, rfl, rfl, yes (iteT ?_)⟩
      refine ⟨_, rfl, .int k, rfl, _, rfl, k, _, rfl, rfl, .inl ⟨by omega, by omega⟩, _, _, rfl, rfl, _, sT _ _ hD, ?_, same_late (sm.trans sT) nD, ?_⟩
      · rw [List.length_map, List.length_map]
        exact small1000 (Nat.le_trans (List.length_take_le _ _) (by omega))
      · rw [upd_same, List.take_add_one, zipI_at hx hy, List.map_append, List.map_append]
        rfl
    · refine .inl ⟨⟨_, _, sA, sB, .inl ?_⟩, ?_⟩
      · rw [List.length_map]
        omega
      · have e : (xs.zip ys).take i = xs.zip ys := List.take_of_length_le (by rw [List.length_zip]; omega)
        rw [e] at hD
        exact ⟨D, _, rfl, .inl ⟨SqL.of hD, fun t nt => q _ t (sm.trans (same_new nt)) upd_same⟩⟩
end
abbrev NCe : List Str := ["bill", "cells", "amount", "cell", "part"]
theorem scCe : FnScope NCe ["bill"] (defScope sCells) := ⟨rfl, rfl, rfl, by decide +kernel, rfl, by decide +kernel, by decide +kernel⟩
/-- a list of rows in the heap -/
def CellsAt (H : Hp) (l : Addr) (cs : List (List Int)) : Prop := ∃ bs : List Addr, H l = some (.lst (bs.map V.ref)) ∧ Rows H bs cs
theorem CellsAt.same {H H' : Hp} {l : Addr} {cs : List (List Int)} (h : CellsAt H l cs) (s : Same H H') : CellsAt H' l cs := by
  obtain ⟨bs, h1, h2⟩ := h
  exact ⟨bs, s _ _ h1, h2.same s⟩
theorem cells_box {b : List Int} (hb : ∀ n ∈ b, 0 ≤ n) : ∀ {i : Nat}, i ≤ b.length → ((cellsI b i).length : Int) = boxI (b.take i)
  | 0, _ => rfl
  | i + 1, hi => by
    have hg : 0 ≤ b.getD i 0 := by
      rw [List.getD_eq_getElem?_getD, List.getElem?_eq_getElem (show i < b.length by omega)]
      exact hb _ (List.getElem_mem _)
    rw [cells_many, take_snoc (by omega)]
    have ih := cells_box hb (i := i) (by omega)
    unfold boxI at ih ⊢
    rw [List.foldl_append, ← ih, Int.natCast_mul, Int.toNat_of_nonneg (by omega)]
    rfl
section
variable {P : Program} {w : World} {K : PySem.W.Frag} {mg : Str → Option Value} {base : Heap}
def spCells : Sp := fun vs H Q _ => ∃ (b : Addr) (row : List Int), vs = [.ref b] ∧ IntsAt H b row ∧ row.length ≤ 100 ∧ (∀ n ∈ row, 0 ≤ n) ∧ boxI row ≤ 4000 ∧ ∀ H' l, Same H H' → CellsAt H' l (cellsI row row.length) → Q (.ref l) H'
theorem small4000 {n : Nat} (h : n ≤ 4000) : n < sizeLine := Nat.lt_of_le_of_lt h (by decide)
theorem ok_cells {f : Addr} {fd : FuncData} {k : Nat} (F : Fun K "cells_of" "cells_of" sCells f fd) (B : Bl mg) : FnOk P w K mg base CX0 (k + 1) f fd ["bill"] spCells := by
  refine F.ok scCe (fun vs H Q E h => ?_) (fun cdv A outer s H vs Q E hr h => ?_)
  · obtain ⟨b, row, rfl, _⟩ := h
    rfl
  · obtain ⟨b, row, rfl, hB, hz, h0, hx, q⟩ := h
    refine ⟨_, (pss_cons (ps_set (i := 1) scCe.nd rfl (.inl rfl) (pe_lst (pa_cons (pe_tup pa_nil) pa_nil)))
      (pss_cons (ps_for PassesOwn.never rfl (pi_tup (pv 0)) (pg_name (i := 2) scCe.nd rfl (.inr rfl))
        (pss_one (ps_setLc2 (i := 1) (own := [("cell", 3), ("part", 4)]) (vs1 := [4]) (g := gName 3) (g1 := gName 4) (tt := tYes) (tt1 := tYes) rfl scCe.nd rfl rfl (sw_true rfl rfl rfl (by decide +kernel)) (pi_list (pv 1))
          (blkOk_by (own := [("cell", 3), ("part", 4)]) (N := NCe) (sc := defScope sCells) (by decide +kernel)) (by decide) (fun _ _ _ _ _ => pg_name (i := 3) scCe.nd rfl (Or.inl rfl)) (fun _ _ _ _ _ => pts_nil)
          (fun _ _ _ _ _ => pi_range1 (by rfl) B.range (pa_cons (pe_op op_add (pv 2) pe_int) pa_nil)) (fun _ _ _ _ _ => pg_name (i := 4) scCe.nd rfl (Or.inl rfl)) (fun _ _ _ _ _ => pts_nil)
          (fun _ _ _ _ _ => pe_op (r := rCatA K) op_catA (pv 3) (pe_tup (pa_cons (pv 4) pa_nil))))))
      (pss_one (ps_ret (pv 1))))), ?_⟩
    refine ⟨Nat.zero_le _, fun t0 nt0 => ⟨sz_1 _, fun l0 nl0 => ?_⟩⟩
    have s0 := (same_new (o := .tup []) nt0).trans (same_new (o := .lst [.ref t0]) nl0)
    refine ⟨.ref b, rfl, b, rfl, ⟨_, SqT.of (hB.same s0)⟩, ?_⟩
    refine for_it (walk_tup (K := K) (a := b) (xs := row.map V.int)) (fun i σ H2 => Same H H2 ∧ ∃ l y2, σ = [some (.ref b), some (.ref l), y2, none, none] ∧ CellsAt H2 l (cellsI row i))
      ⟨s0, l0, none, rfl, [t0], upd_same, ⟨(same_new nl0) _ _ upd_same, True.intro⟩⟩ (fun i σ H2 _ ⟨s2, _⟩ => SqT.of (hB.same s2)) (fun i x σ H2 H3 hi ⟨s2, l, y2, eσ, bs, hl, hR⟩ ⟨eY, hx'⟩ => ?_) (fun σ H2 ⟨s2, l, y2, eσ, hC⟩ => ?_)
    · subst eY eσ
      rw [List.length_map] at hi
      have hri : row[i]? = some row[i] := List.getElem?_eq_getElem hi
      have ex : x = .int row[i] := by
        rw [List.getElem?_map, hri] at hx'
        exact (Option.some.inj hx').symm
      subst ex
      have n0 := h0 _ (List.mem_of_getElem? hri)
      have eg : row.getD i 0 = row[i] := by rw [List.getD_eq_getElem?_getD, hri]; rfl
      have hbl := hR.len
      have big := cells_box h0 (i := i + 1) (by omega)
      have bt := box_take (b := row) (i := i + 1) h0
      have hmany := cells_many (b := row) (i := i)
      rw [eg] at hmany
      have hrow : row[i] + 1 ≤ 4000 := by
        have h1 : 1 ≤ (cellsI row i).length := by
          have := cells_head h0 (i := i) (by omega)
          cases e : cellsI row i with
          | nil => rw [e] at this; cases this
          | cons c cs => simp
        have h2 : (row[i] + 1).toNat ≤ (cellsI row i).length * (row[i] + 1).toNat := Nat.le_mul_of_pos_left _ (by omega)
        omega
      refine ⟨.ref l, rfl, l, rfl, ⟨_, SqL.of hl⟩, fun D nD => ?_⟩
      have cell : ∀ c : List Int, ∀ j, ((List.range j).map fun (p : Nat) => c ++ [(p : Int)]).length = j := fun c j => by rw [List.length_map, List.length_range]
      -- what is made by the first cells, and by some parts of the next one
      let G : Nat → List (List Int) := fun a => ((cellsI row i).take a).flatMap fun c => (List.range (row[i] + 1).toNat).map fun (p : Nat) => c ++ [(p : Int)]
      have hG : ∀ a, (G a).length ≤ (cellsI row i).length * (row[i] + 1).toNat := fun a => by
        show (((cellsI row i).take a).flatMap _).length ≤ _
        rw [flat_len (n := (row[i] + 1).toNat) fun c _ => cell c _]
        exact Nat.mul_le_mul_right _ (by rw [List.length_take]; omega)
      have mk : ∀ (H4 H5 : Hp) (acc : List (List Int)) (cc : List Int) (cb : Addr) (p : Nat), Same H3 H4 → (∃ ds : List Addr, H4 D = some (.lst (ds.map V.ref)) ∧ Rows H4 ds acc) → acc.length < 4000 → Same H4 H5 → IntsAt H5 cb cc →
          ∃ ac, H5 D = some (.lst ac) ∧ ac.length < sizeLine ∧ Same H3 (upd H5 D (.lst (ac ++ [.ref cb]))) ∧ ∃ ds : List Addr, upd H5 D (.lst (ac ++ [.ref cb])) D = some (.lst (ds.map V.ref)) ∧ Rows (upd H5 D (.lst (ac ++ [.ref cb]))) ds (acc ++ [cc]) := fun H4 H5 acc cc cb p s34 ⟨ds, hd, hdr⟩ hsm s45 hcb => by
        have hd5 := s45 _ _ hd
        refine ⟨_, hd5, ?_, same_late (s34.trans s45) nD, ds ++ [cb], ?_, ?_⟩
        · rw [List.length_map, hdr.len]
          exact small4000 (by omega)
        · rw [upd_same, List.map_append]
          rfl
        · exact ((hdr.same s45).lput hd5).app ⟨by rw [upd_ne (ne_of hcb hd5 (fun z => by cases z))]; exact hcb, True.intro⟩
      refine ⟨fun a m H4 => a + m = bs.length ∧ Same H3 H4 ∧ ∃ ds : List Addr, H4 D = some (.lst (ds.map V.ref)) ∧ Rows H4 ds (G a), ⟨bs.length, by omega, same_new nD, [], upd_same, True.intro⟩, fun a m H4 hW => ?_⟩
      obtain ⟨em, s4, hds⟩ := hW
      by_cases ha : a < bs.length
      · have hba : bs[a]? = some (bs[a]'ha) := List.getElem?_eq_getElem ha
        obtain ⟨c, hc1, hc2⟩ := hR.at hba
        have hli : H4 l = some (.lst (bs.map V.ref)) := s4 _ _ hl
        have g1 : (bs.map V.ref)[a]? = some (.ref (bs[a]'ha)) := by rw [List.getElem?_map, hba]; rfl
        refine .inr ⟨⟨_, _, SqL.of hli, g1⟩, fun H5 => Same H3 H5 ∧ ∃ ds : List Addr, H5 D = some (.lst (ds.map V.ref)) ∧ Rows H5 ds (G (a + 1)), fun H5 hN => ⟨m - 1, by omega, by omega, hN⟩, fun x H5 hy => ?_⟩
        obtain ⟨e5, f5⟩ := hy
        subst e5
        have exx : x = .ref (bs[a]'ha) := Option.some.inj ((f5 _ (SqL.of hli)).symm.trans g1)
        subst exx
        have eG : ∀ z : Nat, z ≤ (row[i] + 1).toNat → (G a ++ (List.range z).map fun (p : Nat) => c ++ [(p : Int)]).length ≤ (cellsI row i).length * (row[i] + 1).toNat := fun z hz' => by
          rw [List.length_append, cell]
          show (((cellsI row i).take a).flatMap _).length + z ≤ _
          rw [flat_len (n := (row[i] + 1).toNat) fun c _ => cell c _, List.length_take, Nat.min_eq_left (by omega)]
          have : (a + 1) * (row[i] + 1).toNat ≤ (cellsI row i).length * (row[i] + 1).toNat := Nat.mul_le_mul_right _ (by omega)
          rw [Nat.add_mul] at this
          omega
        refine ⟨rfl, yes (iteT ?_)⟩
        refine ⟨.int row[i], rfl, row[i], 1, rfl, rfl, _, rfl, by omega, by omega, ?_⟩
        refine ⟨fun j mm H6 => j + mm = (row[i] + 1).toNat ∧ Same H3 H6 ∧ ∃ ds : List Addr, H6 D = some (.lst (ds.map V.ref)) ∧ Rows H6 ds (G a ++ (List.range j).map fun (p : Nat) => c ++ [(p : Int)]), ⟨(row[i] + 1).toNat, by omega, s4, by simpa using hds⟩, fun j mm H6 hW => ?_⟩
        obtain ⟨em6, s6, hds6⟩ := hW
        by_cases hj : j < (row[i] + 1).toNat
        · refine .inr ⟨hj, fun H7 => Same H3 H7 ∧ ∃ ds : List Addr, H7 D = some (.lst (ds.map V.ref)) ∧ Rows H7 ds (G a ++ (List.range (j + 1)).map fun (p : Nat) => c ++ [(p : Int)]), fun H7 hN => ⟨mm - 1, by omega, by omega, hN⟩, fun x H7 hy => ?_⟩
          obtain ⟨e7, ex7⟩ := hy
          subst e7 ex7
          have ez : (0 : Int) + (j : Nat) = ((j : Nat) : Int) := by omega
          rw [ez]
          refine ⟨rfl, yes (iteT ?_)⟩
          refine ⟨.ref (bs[a]'ha), rfl, .int (j : Nat), rfl, sz_1 _, fun t nt => ?_⟩
          have st := same_new (o := .tup [.int (j : Nat)]) nt
          have hcc : IntsAt H7 (bs[a]'ha) c := s6 _ _ hc2
          have hcl : c.length ≤ 100 := by rw [cells_len (List.mem_of_getElem? hc1)]; omega
          refine cat_ints (ys := [(j : Int)]) (hcc.same st) (show IntsAt _ t [(j : Int)] from upd_same) (by rw [List.length_singleton]; omega) fun z H8 s8 hz8 => ?_
          obtain ⟨ac, m1, m2, m3, ds, m4, m5⟩ := mk H7 H8 _ (c ++ [(j : Int)]) z j s6 hds6 (by
            have := eG (j + 1) hj
            rw [List.range_succ, List.map_append, ← List.append_assoc, List.length_append] at this
            have e1 : ([j].map fun (p : Nat) => c ++ [(p : Int)]).length = 1 := rfl
            omega) (st.trans s8) hz8
          refine ⟨ac, m1, m2, m3, ds, m4, ?_⟩
          rw [List.range_succ, List.map_append, ← List.append_assoc]
          exact m5
        · refine .inl ⟨show (row[i] + 1).toNat ≤ j by omega, s6, ?_⟩
          have ej : j = (row[i] + 1).toNat := by omega
          obtain ⟨ds, d1, d2⟩ := hds6
          refine ⟨ds, d1, ?_⟩
          have e2 : G (a + 1) = G a ++ (List.range j).map fun (p : Nat) => c ++ [(p : Int)] := by
            show ((cellsI row i).take (a + 1)).flatMap _ = ((cellsI row i).take a).flatMap _ ++ _
            rw [List.take_add_one, hc1, List.flatMap_append, ej]
            simp
          rw [e2]
          exact d2
      · refine .inl ⟨⟨_, SqL.of (s4 _ _ hl), by rw [List.length_map]; omega⟩, s2.trans s4, D, _, rfl, ?_⟩
        obtain ⟨ds, d1, d2⟩ := hds
        refine ⟨ds, d1, ?_⟩
        have e2 : G a = cellsI row (i + 1) := by
          show ((cellsI row i).take a).flatMap _ = (cellsI row i).flatMap _
          rw [List.take_of_length_le (by omega), eg]
        rw [← e2]
        exact d2
    · subst eσ
      rw [List.length_map] at hC
      exact ⟨.ref l, rfl, q H2 l s2 hC⟩
end
theorem scOm : FnScope ["cells", "table", "hold", "fuller", "cell", "many"] ["cells", "table", "hold"] (defScope sOneMore) := ⟨rfl, rfl, rfl, by decide +kernel, rfl, by decide +kernel, by decide +kernel⟩
theorem scTb : FnScope ["lot", "bill", "cells", "tables", "hold"] ["lot", "bill"] (defScope sTables) := ⟨rfl, rfl, rfl, by decide +kernel, rfl, by decide +kernel, by decide +kernel⟩
theorem scHm : FnScope ["lot", "bill"] ["lot", "bill"] (defScope sHowMany) := ⟨rfl, rfl, rfl, by decide +kernel, rfl, by decide +kernel, by decide +kernel⟩
/-- a row as a key -/
def kI (r : List Int) : List Key := r.map Sum.inl
theorem kI_V (r : List Int) : (kI r).map kV = r.map V.int := by
  unfold kI
  rw [List.map_map]
  rfl
theorem kI_inj : ∀ {r s : List Int}, kI r = kI s → r = s
  | [], [], _ => rfl
  | x :: r, y :: s, h => by
    have h' : (Sum.inl x :: kI r : List Key) = Sum.inl y :: kI s := h
    obtain ⟨h1, h2⟩ := List.cons.inj h'
    rw [Sum.inl.inj h1, kI_inj h2]
  | [], _ :: _, h => by cases h
  | _ :: _, [], h => by cases h
/-- a table: of the rows of S, how many ways there are by the kinds of l, where there are any -/
def TabIs (kvs : List (List Key × V)) (S : List (List Int)) (l : List (List Int)) : Prop := ∀ r : List Int, valV kvs (kI r) = if r ∈ S ∧ 0 < cnt l r then some (V.int (cnt l r : Nat)) else none
theorem TabIs.get {kvs : List (List Key × V)} {S l : List (List Int)} {r : List Int} (h : TabIs kvs S l) (hr : r ∈ S ∨ cnt l r = 0) : (valV kvs (kI r)).getD (V.int 0) = V.int (cnt l r : Nat) := by
  rw [h r]
  by_cases c : r ∈ S ∧ 0 < cnt l r
  · rw [if_pos c]
    rfl
  · rw [if_neg c]
    have : cnt l r = 0 := by
      rcases hr with hr | hr
      · by_cases z : 0 < cnt l r
        · exact absurd ⟨hr, z⟩ c
        · omega
      · exact hr
    rw [this]
    rfl
theorem TabIs.more {kvs : List (List Key × V)} {S l : List (List Int)} {c : List Int} (h : TabIs kvs S l) (hc : c ∉ S) (hp : 0 < cnt l c) : TabIs (putK kvs (kI c) (V.int (cnt l c : Nat))) (S ++ [c]) l := fun r => by
  rw [valV_put]
  by_cases e : r = c
  · subst e
    rw [if_pos rfl, if_pos ⟨List.mem_append_right _ List.mem_cons_self, hp⟩]
  · rw [if_neg (fun z => e (kI_inj z)), h r]
    have : (r ∈ S ++ [c]) ↔ r ∈ S := by
      rw [List.mem_append, List.mem_singleton]
      exact ⟨fun q => q.elim id fun z => absurd z e, .inl⟩
    by_cases q : r ∈ S ∧ 0 < cnt l r
    · rw [if_pos q, if_pos ⟨this.mpr q.1, q.2⟩]
    · rw [if_neg q, if_neg fun z => q ⟨this.mp z.1, z.2⟩]
theorem TabIs.skip {kvs : List (List Key × V)} {S l : List (List Int)} {c : List Int} (h : TabIs kvs S l) (hp : cnt l c = 0) : TabIs kvs (S ++ [c]) l := fun r => by
  rw [h r]
  by_cases e : r = c
  · subst e
    rw [if_neg (fun z => by omega), if_neg (fun z => by omega)]
  · have : (r ∈ S ++ [c]) ↔ r ∈ S := by
      rw [List.mem_append, List.mem_singleton]
      exact ⟨fun q => q.elim id fun z => absurd z e, .inl⟩
    by_cases q : r ∈ S ∧ 0 < cnt l r
    · rw [if_pos q, if_pos ⟨this.mpr q.1, q.2⟩]
    · rw [if_neg q, if_neg fun z => q ⟨this.mp z.1, z.2⟩]
theorem TabIs.first {S : List (List Int)} {g : Nat} (hS : ∀ r ∈ S, r.length = g) (h0 : List.replicate g 0 ∈ S) : TabIs [(kI (List.replicate g 0), V.int 1)] S [] := fun r => by
  have ev : valV [(kI (List.replicate g 0), V.int 1)] (kI r) = if kI r = kI (List.replicate g 0) then some (V.int 1) else none := by
    have := valV_put ([] : List (List Key × V)) (kI (List.replicate g 0)) (kI r) (V.int 1)
    rw [valV_nil] at this
    exact this
  rw [ev]
  by_cases e : r = List.replicate g 0
  · subst e
    have hz : cnt [] (List.replicate g (0 : Int)) = 1 := by
      unfold cnt
      rw [if_pos (zeroB_iff.mpr fun n hn => List.eq_of_mem_replicate hn)]
    rw [if_pos rfl, if_pos ⟨h0, by rw [hz]; decide⟩, hz]
    rfl
  · rw [if_neg (fun z => e (kI_inj z)), if_neg]
    rintro ⟨h1, h2⟩
    refine e ?_
    have hz : zeroB r = true := by
      unfold cnt at h2
      by_cases z : zeroB r = true
      · exact z
      · rw [if_neg z] at h2
        cases h2
    exact List.eq_replicate_iff.mpr ⟨hS r h1, zeroB_iff.mp hz⟩
/-- the dict of a table in the heap -/
def TabAt (H : Hp) (d : Addr) (S l : List (List Int)) : Prop := ∃ kvs, H d = some (.dT kvs) ∧ TabIs kvs S l
theorem TabAt.same {H H' : Hp} {d : Addr} {S l : List (List Int)} (h : TabAt H d S l) (s : Same H H') : TabAt H' d S l := by
  obtain ⟨kvs, h1, h2⟩ := h
  exact ⟨kvs, s _ _ h1, h2⟩
/-- a bill whose cells are counted -/
structure BoxOk (b : List Int) : Prop where
  nn : ∀ n ∈ b, 0 ≤ n
  few : b.length ≤ 100
  box : boxI b ≤ 4000
abbrev cellsB (b : List Int) : List (List Int) := cellsI b b.length
theorem BoxOk.many {b : List Int} (h : BoxOk b) : (cellsB b).length ≤ 4000 := by
  have := cells_box h.nn (i := b.length) (Nat.le_refl _)
  rw [List.take_length] at this
  have := h.box
  show (cellsI b b.length).length ≤ 4000
  omega
theorem BoxOk.nodup {b : List Int} {i : Nat} {c : List Int} (hc : (cellsB b)[i]? = some c) : c ∉ (cellsB b).take i := fun hm => by
  obtain ⟨j, hj, ej⟩ := List.mem_iff_getElem.mp hm
  rw [List.length_take] at hj
  rw [List.getElem_take] at ej
  obtain ⟨hi, ei⟩ := List.getElem?_eq_some_iff.mp hc
  have hj' : j < min i (cellsI b b.length).length := hj
  have hi' : i < (cellsI b b.length).length := hi
  have := List.pairwise_iff_getElem.mp (cells_rise (b := b) (i := b.length)) j i (by omega) hi' (by omega)
  rw [ej, ei] at this
  exact lx_asymm this this
section
variable {P : Program} {w : World} {K : PySem.W.Frag} {mg : Str → Option Value} {base : Heap}
/-- less, with its default -/
def CalLessD (P : Program) (w : World) (K : PySem.W.Frag) (mg : Str → Option Value) (base : Heap) : Prop := ∃ (f : Addr) (fd : FuncData) (t : Tok), FnOk P w K mg base CX0 1 f fd ["row", "other", "times"] spLessS ∧ mg "less" = some (.ref f) ∧ PySem.W.keepIn K (.ref f) = true ∧ Binds K fd ["row", "other", "times"] [.int 1 t]
def spOneMore : Sp := fun vs H Q _ => ∃ (l d hd : Addr) (b h : List Int) (t : List (List Int)), vs = [.ref l, .ref d, .ref hd] ∧ BoxOk b ∧ CellsAt H l (cellsB b) ∧ TabAt H d (cellsB b) t ∧ IntsAt H hd h ∧ (∀ x ∈ h :: t, Kd b.length x) ∧
  ∀ H' d', Same H H' → TabAt H' d' (cellsB b) (h :: t) → Q (.ref d') H'
theorem ok_oneMore {f : Addr} {fd : FuncData} (F : Fun K "with_one_more" "with_one_more" sOneMore f fd) (CLe : CalLessD P w K mg base) : FnOk P w K mg base CX0 2 f fd ["cells", "table", "hold"] spOneMore := by
  obtain ⟨fL, fdL, tL, GL, gL, kL, bL⟩ := CLe
  have vd : Vals [V.int 1] [Value.int 1 tL] := .cons ⟨_, rfl⟩ .nil
  refine F.ok scOm (fun vs H Q E h => ?_) (fun cdv A outer s H vs Q E hr h => ?_)
  · obtain ⟨l, d, hd, b, h, t, rfl, _⟩ := h
    rfl
  · obtain ⟨l, d, hd, b, h, t, rfl, bo, ⟨bs, hl, hR⟩, ⟨kvs0, hd0, T0⟩, hH, hk, q⟩ := h
    have hu := hu_of hr
    refine ⟨_, (pss_cons (ps_set (i := 3) scOm.nd rfl (.inl rfl) pe_dnewT)
      (pss_cons (ps_for PassesOwn.never rfl (pi_list (pv 0)) (pg_name (i := 4) scOm.nd rfl (.inl rfl))
        (pss_cons (ps_set (i := 5) scOm.nd rfl (.inl rfl) (pe_op op_add (pe_dget2 hu (pv 1) (pv 4) pe_int ⟨rfl, rfl, rfl, rfl⟩) (pe_dget2 hu (pv 3) (pe_call GL hr (by rfl) gL kL bL vd pass0 (pa_cons (pv 4) (pa_cons (pv 2) pa_nil))) pe_int ⟨rfl, rfl, rfl, rfl⟩)))
        (pss_one (ps_if (pt_cmpR op_gt (pv 5) pe_int (nomark _)) (pss_one (ps_dput hu (pv 3) (pv 4) (pv 5) rfl)) pss_nil))))
      (pss_one (ps_ret (pv 3))))), ?_⟩
    have kh := hk h List.mem_cons_self
    have hkt : ∀ x ∈ t, Kd b.length x := fun x hx => hk x (List.mem_cons_of_mem _ hx)
    have hlen := hR.len
    have hmany := bo.many
    intro D nD
    have sD := same_new (o := .dT []) nD
    refine ⟨.ref l, rfl, l, rfl, ⟨_, SqL.of (sD _ _ hl)⟩, ?_⟩
    refine for_list (K := K) (a := l) (xs := bs.map V.ref) (fun i σ H' => Same H H' ∧ (∃ y4 y5, σ = [some (.ref l), some (.ref d), some (.ref hd), some (.ref D), y4, y5]) ∧ ∃ kvs, H' D = some (.dT kvs) ∧ kvs.length ≤ i ∧ TabIs kvs ((cellsB b).take i) (h :: t))
      ⟨sD, ⟨none, none, rfl⟩, [], upd_same, Nat.zero_le _, fun r => by rw [List.take_zero, valV_nil, if_neg (fun z => by cases z.1)]⟩ (fun i σ H' _ hI => SqL.of (hI.1 _ _ hl)) (fun i x σ H' hx hI => ?_) (fun σ H' hI => ?_)
    · obtain ⟨sm, ⟨y4, y5, rfl⟩, kvs, hD, hkl, TI⟩ := hI
      obtain ⟨cb, hcb, rfl⟩ : ∃ n, bs[i]? = some n ∧ x = V.ref n := by
        rw [List.getElem?_map] at hx
        cases e : bs[i]? with
        | none => rw [e] at hx; cases hx
        | some n => rw [e] at hx; exact ⟨n, rfl, (Option.some.inj hx).symm⟩
      obtain ⟨c, hc1, hc2⟩ := hR.at hcb
      have hil : i < (cellsB b).length := (List.getElem?_eq_some_iff.mp hc1).1
      have hcm : c ∈ cellsB b := List.mem_of_getElem? hc1
      have hcl : c.length = b.length := cells_len hcm
      have hclh : c.length = h.length := by rw [hcl, kh.1]
      have hcb' : H' cb = some (.tup ((kI c).map kV)) := by rw [kI_V]; exact sm _ _ hc2
      refine ⟨.ref d, rfl, d, rfl, .inr ⟨_, .inl (sm _ _ hd0)⟩, .ref cb, rfl, _, DGet.t (sm _ _ hd0) hcb', ?_⟩
      rw [T0.get (.inl hcm)]
      refine ⟨.ref D, rfl, D, rfl, .inr ⟨_, .inl hD⟩, .ref cb, rfl, .ref hd, rfl, cb, hd, c, h, 1, rfl, sm _ _ hc2, sm _ _ hH, hclh, by rw [hcl]; exact bo.few, by decide, by decide, fun H2 z s2 hz => ?_⟩
      have hz' : H2 z = some (.tup ((kI (subR c h 1)).map kV)) := by rw [kI_V]; exact hz
      refine ⟨_, DGet.t (s2 _ _ hD) hz', ?_⟩
      have inS : subR c h 1 ∈ (cellsB b).take i ∨ cnt (h :: t) (subR c h 1) = 0 := by
        cases e : nnB (subR c h 1) with
        | true => exact .inl (cell_ahead bo.nn kh hc1 e)
        | false => exact .inr (cnt_neg hk (by rw [subR_len hclh, hcl]) e)
      rw [TI.get inS]
      have es : (cnt t c : Int) + (cnt (h :: t) (subR c h 1) : Int) = (cnt (h :: t) c : Int) := by
        rw [cnt_step hk hcl]
        omega
      refine ⟨_, _, rfl, rfl, ?_⟩
      refine ⟨_, rfl, (cnt t c : Int) + (cnt (h :: t) (subR c h 1) : Int), 0, rfl, rfl, _, rfl, ?_⟩
      rw [es]
      have etk : (cellsB b).take (i + 1) = (cellsB b).take i ++ [c] := by rw [List.take_add_one, hc1]; rfl
      refine ite2 (fun p1 => ?_) (fun p1 => ?_)
      · have p1' : 0 < cnt (h :: t) c := by
          have := of_decide_eq_true p1
          omega
        refine ⟨_, rfl, .ref D, rfl, .ref cb, rfl, D, _, rfl, DPut.t (s2 _ _ hD) (s2 _ _ hcb') (Nat.lt_of_le_of_lt hkl (small4000 (by omega))), same_late (sm.trans s2) nD, ⟨_, _, rfl⟩, _, upd_same, Nat.le_trans (length_putK _ _ _) (by omega), ?_⟩
        rw [etk]
        have := TI.more (BoxOk.nodup hc1) p1'
        rw [← es] at this
        exact this
      · have p1' : cnt (h :: t) c = 0 := by
          by_cases z : 0 < cnt (h :: t) c
          · exact absurd (decide_eq_true (by omega)) p1
          · omega
        refine ⟨sm.trans s2, ⟨_, _, rfl⟩, kvs, s2 _ _ hD, by omega, ?_⟩
        rw [etk]
        exact TI.skip p1'
    · obtain ⟨sm, ⟨y4, y5, rfl⟩, kvs, hD, _, TI⟩ := hI
      rw [List.length_map, hlen, List.take_length] at TI
      exact ⟨.ref D, rfl, q H' D sm ⟨kvs, hD, TI⟩⟩
/-- for each kind, and behind all, its table -/
def TabsAt (H : Hp) (l : Addr) (S ll : List (List Int)) : Prop := ∃ ds : List Addr, H l = some (.lst (ds.map V.ref)) ∧ ds.length = ll.length + 1 ∧ ∀ (k : Nat) (d : Addr), ds[k]? = some d → TabAt H d S (ll.drop k)
def spTables : Sp := fun vs H Q _ => ∃ (p bl : Addr) (as : List Addr) (ll : List (List Int)) (b : List Int), vs = [.ref p, .ref bl] ∧ RowsAt H p as ll ∧ ll.length ≤ 100 ∧ IntsAt H bl b ∧ BoxOk b ∧ (∀ x ∈ ll, Kd b.length x) ∧ ∀ H' l, Same H H' → TabsAt H' l (cellsB b) ll → Q (.ref l) H'
theorem ok_tables {f : Addr} {fd : FuncData} (F : Fun K "tables_of" "tables_of" sTables f fd) (B : Bl mg) (mr : mg "reversed" = none) (CC : Cal P w K mg base CX0 1 "cells_of" ["bill"] spCells) (CO : Cal P w K mg base CX0 2 "with_one_more" ["cells", "table", "hold"] spOneMore) : FnOk P w K mg base CX0 3 f fd ["lot", "bill"] spTables := by
  obtain ⟨fC, fdC, GC, gC, kC, bC⟩ := CC.ex
  obtain ⟨fO, fdO, GO, gO, kO, bO⟩ := CO.ex
  refine F.ok scTb (fun vs H Q E h => ?_) (fun cdv A outer s H vs Q E hr h => ?_)
  · obtain ⟨p, bl, as, ll, b, rfl, _⟩ := h
    rfl
  · obtain ⟨p, bl, as, ll, b, rfl, R, hz, hB, bo, hk, q⟩ := h
    have hu := hu_of hr
    refine ⟨_, (pss_cons (ps_set (i := 2) scTb.nd rfl (.inl rfl) (pe_call GC (hr.mono (by decide)) (by rfl) gC kC bC .nil pass0 (pa_cons (pv 1) pa_nil)))
      (pss_cons (ps_set (i := 3) scTb.nd rfl (.inl rfl) (pe_lst (pa_cons (pe_disp1T hu (pe_ix ix_list (pv 2) pe_int (fun _ _ => rfl)) pe_int) pa_nil)))
      (pss_cons (ps_for PassesOwn.never rfl (RT.pi_revA (by rfl) mr (pv 0)) (pg_name (i := 4) scTb.nd rfl (.inl rfl))
        (pss_one (ps_expr (pe_bm PySem.F.plainAttrs_list PySem.F.slot_list_append PySem.F.type_list_append mt_append (pv 3) (pa_cons (pe_call GO hr (by rfl) gO kO bO .nil pass0 (pa_cons (pv 2) (pa_cons (pe_ix ix_list (pv 3) (pe_un un_neg pe_int) (fun _ _ => rfl)) (pa_cons (pv 4) pa_nil)))) pa_nil)))))
      (pss_one (ps_ret (pe_revL (pv 3))))))), ?_⟩
    have hlen := R.2.len
    refine ⟨.ref bl, rfl, bl, b, rfl, hB, bo.few, bo.nn, bo.box, fun H1 l s1 hC => ?_⟩
    obtain ⟨bs, hl, hbs⟩ := hC
    have hhd := cells_head bo.nn (i := b.length) (Nat.le_refl _)
    have hb0 : ∃ c0, bs[0]? = some c0 := by
      cases e : bs with
      | nil =>
        rw [e] at hbs
        cases e2 : cellsB b with
        | nil => rw [show cellsI b b.length = [] from e2] at hhd; cases hhd
        | cons c cs => rw [show cellsI b b.length = c :: cs from e2] at hbs; exact hbs.elim
      | cons c0 cs => exact ⟨c0, rfl⟩
    obtain ⟨c0, hc0⟩ := hb0
    obtain ⟨r0, hr1, hr2⟩ := hbs.at hc0
    have er0 : r0 = List.replicate b.length 0 := Option.some.inj (hr1.symm.trans hhd)
    subst er0
    intro D nD
    have sD := same_new (o := .dT []) nD
    have hc0' : (upd H1 D (.dT [])) c0 = some (.tup ((kI (List.replicate b.length 0)).map kV)) := by rw [kI_V]; exact sD _ _ hr2
    refine ⟨.ref l, rfl, l, _, 0, .ref c0, rfl, rfl, SqL.of (sD _ _ hl), atI_nat (j := 0) (by rw [List.getElem?_map, hc0]; rfl), kI (List.replicate b.length 0), c0, rfl, hc0', upd_same, ?_⟩
    refine ⟨sz_1 _, fun T nT => ?_⟩
    have nD0 : H D = none := s1.free nD
    have sE : Same H1 (upd (upd H1 D (.dT [])) D (.dT [(kI (List.replicate b.length 0), V.int 1)])) := same_late sD nD
    have sT := same_new (o := .lst [.ref D]) nT
    have s2 : Same H1 _ := sE.trans sT
    have nT1 : H1 T = none := sE.free nT
    have nT0 : H T = none := s1.free nT1
    have lT : l ≠ T := fun e => by rw [e, nT1] at hl; cases hl
    have tab0 : TabAt (upd (upd (upd H1 D (.dT [])) D (.dT [(kI (List.replicate b.length 0), V.int 1)])) T (.lst [.ref D])) D (cellsB b) [] := ⟨_, sT _ _ upd_same, TabIs.first (fun r hr => cells_len hr) (List.mem_of_getElem? hr1)⟩
    refine ⟨.ref p, rfl, p, as.map V.ref, rfl, .inr ⟨SqT.of ((R.same s1).same s2).1, ?_⟩⟩
    refine RT.for_ItvT (K := K) (a := p) (xs := as.map V.ref) (fun i σ H' => Same H1 H' ∧ (∃ y4, σ = [some (.ref p), some (.ref bl), some (.ref l), some (.ref T), y4]) ∧ ∃ (ts : List Addr) (z : Addr), H' T = some (.lst ((ts ++ [z]).map V.ref)) ∧ ts.length = i ∧ ∀ (k : Nat) (d : Addr), (ts ++ [z])[k]? = some d → TabAt H' d (cellsB b) (ll.drop (ll.length - k)))
      ⟨s2, ⟨none, rfl⟩, [], D, upd_same, rfl, fun k d hkd => ?_⟩ (fun i σ H' hI => SqT.of ((R.same s1).same hI.1).1) (fun i x σ H' hi hx hI => ?_) (fun σ H' hI => ?_)
    · match k, hkd with
      | 0, hkd =>
        cases Option.some.inj hkd
        rw [Nat.sub_zero, List.drop_length]
        exact tab0
      | k + 1, hkd => simp at hkd
    · obtain ⟨sm, ⟨y4, rfl⟩, ts, z, hT, htl, htab⟩ := hI
      rw [List.length_map] at hi hx
      have hj : as.length - 1 - i < as.length := by omega
      have haj : as[as.length - 1 - i]? = some (as[as.length - 1 - i]'hj) := List.getElem?_eq_getElem hj
      obtain ⟨h, hh1, hh2⟩ := R.2.at haj
      have ex : x = .ref (as[as.length - 1 - i]'hj) := by
        rw [List.getElem?_map, haj] at hx
        exact (Option.some.inj hx).symm
      subst ex
      have edr : ll.drop (ll.length - (i + 1)) = h :: ll.drop (ll.length - i) := by
        rw [List.drop_eq_getElem_cons (show ll.length - (i + 1) < ll.length by omega)]
        have e1 : ll.length - (i + 1) = as.length - 1 - i := by omega
        obtain ⟨q1, q2⟩ := List.getElem?_eq_some_iff.mp hh1
        congr 1
        · rw [← q2]
          congr 1
        · congr 1
          omega
      have hkk : ∀ x ∈ h :: ll.drop (ll.length - i), Kd b.length x := fun x hx => hk x (by rw [← edr] at hx; exact List.mem_of_mem_drop hx)
      have htz : TabAt H' z (cellsB b) (ll.drop (ll.length - i)) := htab i z (by rw [List.getElem?_append_right (by omega), htl, Nat.sub_self]; rfl)
      refine ⟨.ref T, rfl, .inl ⟨rfl, _, SqL.of hT⟩, .ref l, rfl, .ref T, rfl, 1, rfl, T, _, -1, .ref z, rfl, rfl, SqL.of hT, by rw [List.map_append]; exact atI_last _ _, .ref (as[as.length - 1 - i]'hj), rfl, l, z, _, b, h, _, rfl, bo, ⟨bs, sm _ _ hl, hbs.same sm⟩, htz, sm _ _ (s1 _ _ hh2), hkk, fun H2 d' s3 hd' => ?_⟩
      have hT2 := s3 _ _ hT
      have keep : ∀ (d : Addr) (l' : List (List Int)), TabAt H2 d (cellsB b) l' → TabAt (upd H2 T (.lst ((ts ++ [z]).map V.ref ++ [.ref d']))) d (cellsB b) l' := fun d l' ⟨kvs, k1, k2⟩ => ⟨kvs, by rw [upd_ne (ne_of k1 hT2 (fun z => by cases z))]; exact k1, k2⟩
      refine ⟨T, _, _, rfl, rfl, hT2, ?_, same_late (sm.trans s3) nT1, ⟨_, rfl⟩, ts ++ [z], d', ?_, ?_, fun k d hkd => ?_⟩
      · rw [List.length_map, List.length_append]
        exact small1000 (by show ts.length + 1 ≤ 1000; omega)
      · rw [upd_same, List.map_append (l₁ := ts ++ [z])]
        rfl
      · rw [List.length_append, htl]
        rfl
      · by_cases c : k < (ts ++ [z]).length
        · rw [List.getElem?_append_left c] at hkd
          exact keep d _ ((htab k d hkd).same s3)
        · rw [List.getElem?_append_right (by omega)] at hkd
          have ek : k = i + 1 := by
            rw [List.length_append] at c hkd
            have e1 : [z].length = 1 := rfl
            have : k - (ts.length + 1) < 1 := by
              have := (List.getElem?_eq_some_iff.mp hkd).1
              simpa using this
            omega
          subst ek
          have e0 : i + 1 - (ts ++ [z]).length = 0 := by
            rw [List.length_append, htl]
            exact Nat.sub_self _
          rw [e0] at hkd
          cases Option.some.inj hkd
          rw [edr]
          exact keep d' _ hd'
    · obtain ⟨sm, ⟨y4, rfl⟩, ts, z, hT, htl, htab⟩ := hI
      rw [List.length_map] at htl
      refine ⟨.ref T, rfl, T, _, rfl, SqL.of hT, fun l2 nl2 => ?_⟩
      refine q _ l2 (s1.trans (sm.trans (same_new nl2))) ⟨(ts ++ [z]).reverse, by rw [upd_same, List.map_reverse], by rw [List.length_reverse, List.length_append, htl, hlen]; rfl, fun k d hkd => ?_⟩
      have hkl := (List.getElem?_eq_some_iff.mp hkd).1
      rw [List.length_reverse, List.length_append] at hkl
      have e1 : [z].length = 1 := rfl
      rw [List.getElem?_reverse (by rw [List.length_append]; omega)] at hkd
      have := htab _ d hkd
      have ek : ll.length - ((ts ++ [z]).length - 1 - k) = k := by
        rw [List.length_append]
        omega
      rw [ek] at this
      exact this.same (same_new nl2)
def spHowMany : Sp := fun vs H Q _ => ∃ (p bl : Addr) (as : List Addr) (ll : List (List Int)) (b : List Int), vs = [.ref p, .ref bl] ∧ RowsAt H p as ll ∧ flaw ll = none ∧ IntsAt H bl b ∧ b.length = width ll ∧ (∀ n ∈ b, 0 ≤ n ∧ n < G30) ∧ boxI b ≤ 4000 ∧ ∀ H', Same H H' → Q (.int (cnt ll b : Nat)) H'
theorem flaw_kd {ll : List (List Int)} (h : flaw ll = none) : ∀ x ∈ ll, Kd (width ll) x := fun x hx => by
  obtain ⟨h1, h2, h3⟩ := okRow_iff.mp (okRow_all h x hx)
  exact ⟨h1, fun n hn => (h2 n hn).1, h3⟩
theorem ok_howMany {f : Addr} {fd : FuncData} (F : Fun K "how_many" "how_many" sHowMany f fd) (CB : Cal P w K mg base CX0 5 "look_both" ["lot", "bill"] spBoth0) (CT : Cal P w K mg base CX0 3 "tables_of" ["lot", "bill"] spTables) : FnOk P w K mg base CX0 6 f fd ["lot", "bill"] spHowMany := by
  obtain ⟨fB, fdB, GB, gB, kB, bB⟩ := CB.ex
  obtain ⟨fT, fdT, GT, gT, kT, bT⟩ := CT.ex
  refine F.ok scHm (fun vs H Q E h => ?_) (fun cdv A outer s H vs Q E hr h => ?_)
  · obtain ⟨p, bl, as, ll, b, rfl, _⟩ := h
    rfl
  · obtain ⟨p, bl, as, ll, b, rfl, R, ef, hB, hl, hb, hx, q⟩ := h
    have hu := hu_of hr
    have hok := flaw_ok ef
    refine ⟨_, pss_cons (ps_expr (pe_call GB hr (by rfl) gB kB bB .nil pass0 (pa_cons (pv 0) (pa_cons (pv 1) pa_nil))))
      (pss_one (ps_ret (pe_dget2 hu (pe_ix ix_list (pe_call GT (hr.mono (by decide)) (by rfl) gT kT bT .nil pass0 (pa_cons (pv 0) (pa_cons (pv 1) pa_nil))) pe_int (fun _ _ => rfl)) (pv 1) pe_int ⟨rfl, rfl, rfl, rfl⟩))), ?_⟩
    have bo : BoxOk b := ⟨fun n hn => (hb n hn).1, by omega, hx⟩
    have hkd : ∀ x ∈ ll, Kd b.length x := fun x hx => by
      rw [hl]
      exact flaw_kd ef x hx
    refine ⟨.ref p, rfl, .ref bl, rfl, p, bl, as, ll, b, rfl, R, ef, hB, hl, hb, hx, fun H1 s1 => ?_⟩
    refine ⟨.ref p, rfl, .ref bl, rfl, p, bl, as, ll, b, rfl, R.same s1, by omega, hB.same s1, bo, hkd, fun H2 l s2 ⟨ds, hd, hdl, htab⟩ => ?_⟩
    obtain ⟨d0, hd0⟩ : ∃ d0, ds[0]? = some d0 := ⟨ds[0]'(by omega), List.getElem?_eq_getElem (by omega)⟩
    obtain ⟨kvs, k1, k2⟩ := htab 0 d0 hd0
    refine ⟨l, _, 0, .ref d0, rfl, rfl, SqL.of hd, atI_nat (j := 0) (by rw [List.getElem?_map, hd0]; rfl), d0, rfl, .inr ⟨_, .inl k1⟩, .ref bl, rfl, _, DGet.t (k := kI b) k1 (by rw [kI_V]; exact (hB.same s1).same s2), ?_⟩
    have hm : b ∈ cellsB b := (cells_mem bo.nn (Nat.le_refl _) b).mpr (by rw [List.take_length]; exact Bel.self bo.nn)
    rw [k2.get (.inl hm)]
    exact q H2 (s1.trans s2)
end
/-! ### loads as the law lists them -/
def LdAt (H : Hp) (a : Addr) (q : List Int × List Int) : Prop := ∃ r1 r2 : Addr, H a = some (.tup [.ref r1, .ref r2]) ∧ IntsAt H r1 q.1 ∧ IntsAt H r2 q.2
theorem IntsAt.put {H : Hp} {a D : Addr} {ns : List Int} {xs ys : List V} (x : IntsAt H a ns) (hD : H D = some (.lst xs)) : IntsAt (upd H D (.lst ys)) a ns := by
  have x' : H a = some (.tup (ns.map V.int)) := x
  show upd H D (.lst ys) a = some (.tup (ns.map V.int))
  rw [upd_ne fun e => ?_]
  · exact x'
  · rw [e, hD] at x'
    cases x'
theorem LdAt.same {H H' : Hp} {a : Addr} {q : List Int × List Int} (x : LdAt H a q) (s : Same H H') : LdAt H' a q := by
  obtain ⟨r1, r2, h1, h2, h3⟩ := x
  exact ⟨r1, r2, s _ _ h1, h2.same s, h3.same s⟩
theorem LdAt.put {H : Hp} {a D : Addr} {q : List Int × List Int} {xs ys : List V} (x : LdAt H a q) (hD : H D = some (.lst xs)) : LdAt (upd H D (.lst ys)) a q := by
  obtain ⟨r1, r2, h1, h2, h3⟩ := x
  refine ⟨r1, r2, ?_, h2.put hD, h3.put hD⟩
  rw [upd_ne fun e => ?_]
  · exact h1
  · rw [e, hD] at h1
    cases h1
def LdsAt (H : Hp) (as : List Addr) (qs : List (List Int × List Int)) : Prop := as.length = qs.length ∧ ∀ (i : Nat) (a : Addr) (q : List Int × List Int), as[i]? = some a → qs[i]? = some q → LdAt H a q
theorem LdsAt.map {H H' : Hp} {as : List Addr} {qs : List (List Int × List Int)} (x : LdsAt H as qs) (f : ∀ a q, LdAt H a q → LdAt H' a q) : LdsAt H' as qs := ⟨x.1, fun i a q h1 h2 => f a q (x.2 i a q h1 h2)⟩
theorem LdsAt.same {H H' : Hp} {as : List Addr} {qs : List (List Int × List Int)} (x : LdsAt H as qs) (s : Same H H') : LdsAt H' as qs := x.map fun _ _ y => y.same s
theorem LdsAt.more {H : Hp} {as : List Addr} {qs : List (List Int × List Int)} {a : Addr} {q : List Int × List Int} (x : LdsAt H as qs) (y : LdAt H a q) : LdsAt H (as ++ [a]) (qs ++ [q]) := by
  refine ⟨by rw [List.length_append, List.length_append, x.1]; rfl, fun i b p h1 h2 => ?_⟩
  by_cases c : i < as.length
  · rw [List.getElem?_append_left c] at h1
    rw [List.getElem?_append_left (by rw [← x.1]; exact c)] at h2
    exact x.2 i b p h1 h2
  · rw [List.getElem?_append_right (by omega)] at h1
    rw [List.getElem?_append_right (by rw [← x.1]; omega)] at h2
    rw [← x.1] at h2
    cases e : i - as.length with
    | zero =>
      rw [e] at h1 h2
      cases Option.some.inj h1
      cases Option.some.inj h2
      exact y
    | succ n =>
      rw [e] at h1
      simp at h1
theorem scTk : FnScope ["bill", "hold", "told", "count", "left"] ["bill", "hold"] (defScope sTakings) := ⟨rfl, rfl, rfl, by decide +kernel, rfl, by decide +kernel, by decide +kernel⟩
/-- a pair of a count and a row -/
def PrAt (H : Hp) (a : Addr) (q : Int × List Int) : Prop := ∃ r : Addr, H a = some (.tup [.int q.1, .ref r]) ∧ IntsAt H r q.2
theorem PrAt.same {H H' : Hp} {a : Addr} {q : Int × List Int} (x : PrAt H a q) (s : Same H H') : PrAt H' a q := by
  obtain ⟨r, h1, h2⟩ := x
  exact ⟨r, s _ _ h1, h2.same s⟩
theorem PrAt.put {H : Hp} {a D : Addr} {q : Int × List Int} {xs ys : List V} (x : PrAt H a q) (hD : H D = some (.lst xs)) : PrAt (upd H D (.lst ys)) a q := by
  obtain ⟨r, h1, h2⟩ := x
  have h2' : H r = some (.tup (q.2.map V.int)) := h2
  refine ⟨r, ?_, ?_⟩
  · rw [upd_ne fun e => ?_]
    · exact h1
    · rw [e, hD] at h1
      cases h1
  · show upd H D (.lst ys) r = some (.tup (q.2.map V.int))
    rw [upd_ne fun e => ?_]
    · exact h2'
    · rw [e, hD] at h2'
      cases h2'
def PrsAt (H : Hp) (as : List Addr) (qs : List (Int × List Int)) : Prop := as.length = qs.length ∧ ∀ (i : Nat) (a : Addr) (q : Int × List Int), as[i]? = some a → qs[i]? = some q → PrAt H a q
theorem PrsAt.map {H H' : Hp} {as : List Addr} {qs : List (Int × List Int)} (x : PrsAt H as qs) (f : ∀ a q, PrAt H a q → PrAt H' a q) : PrsAt H' as qs := ⟨x.1, fun i a q h1 h2 => f a q (x.2 i a q h1 h2)⟩
theorem PrsAt.more {H : Hp} {as : List Addr} {qs : List (Int × List Int)} {a : Addr} {q : Int × List Int} (x : PrsAt H as qs) (y : PrAt H a q) : PrsAt H (as ++ [a]) (qs ++ [q]) := by
  refine ⟨by rw [List.length_append, List.length_append, x.1]; rfl, fun i b p h1 h2 => ?_⟩
  by_cases c : i < as.length
  · rw [List.getElem?_append_left c] at h1
    rw [List.getElem?_append_left (by rw [← x.1]; exact c)] at h2
    exact x.2 i b p h1 h2
  · rw [List.getElem?_append_right (by omega)] at h1
    rw [List.getElem?_append_right (by rw [← x.1]; omega)] at h2
    rw [← x.1] at h2
    cases e : i - as.length with
    | zero =>
      rw [e] at h1 h2
      cases Option.some.inj h1
      cases Option.some.inj h2
      exact y
    | succ n =>
      rw [e] at h1
      simp at h1
/-- the takings, as told -/
def tks (b h : List Int) (k : Nat) : List (Int × List Int) := (List.range k).map fun (j : Nat) => ((j : Int), subR b h (j : Int))
section
variable {P : Program} {w : World} {K : PySem.W.Frag} {mg : Str → Option Value} {base : Heap}
def spTakings : Sp := fun vs H Q _ => ∃ (a c : Addr) (b h : List Int), vs = [.ref a, .ref c] ∧ IntsAt H a b ∧ IntsAt H c h ∧ Kd b.length h ∧ b.length ≤ 3 ∧ (∀ n ∈ b, 0 ≤ n) ∧ b.sum ≤ 900 ∧
  ∀ H' l as k, Same H H' → H l = none → takes b h = List.range k → H' l = some (.lst (as.map V.ref)) → PrsAt H' as (tks b h k) → Q (.ref l) H'
theorem ok_takings {f : Addr} {fd : FuncData} (F : Fun K "takings" "takings" sTakings f fd) (B : Bl mg) (CLe : CalLessD P w K mg base) : FnOk P w K mg base CX0 2 f fd ["bill", "hold"] spTakings := by
  obtain ⟨fLe, fdLe, tL, GLe, gLe, kLe, bLe⟩ := CLe
  have vd : Vals [V.int 1] [Value.int 1 tL] := .cons ⟨_, rfl⟩ .nil
  refine F.ok scTk (fun vs H Q E h => ?_) (fun cdv A outer s H vs Q E hr h => ?_)
  · obtain ⟨a, c, b, h, rfl, _⟩ := h
    rfl
  · obtain ⟨a, c, b, h, rfl, hA, hC, kh, hl3, hnn, hsum, q⟩ := h
    refine ⟨_, (pss_cons (ps_set (i := 2) scTk.nd rfl (.inl rfl) (pe_lst pa_nil))
      (pss_cons (ps_set (i := 3) scTk.nd rfl (.inl rfl) pe_int)
      (pss_cons (ps_set (i := 4) scTk.nd rfl (.inl rfl) (pv 0))
      (pss_cons (ps_while PassesOwn.never (pt_cmpR op_ge (pe_callB (cr_minT rfl hr.units) (by rfl) B.min (by decide +kernel) (pa_cons (pv 4) pa_nil)) pe_int (nomark _))
      (pss_cons (ps_expr (pe_bm PySem.F.plainAttrs_list PySem.F.slot_list_append PySem.F.type_list_append mt_append (pv 2) (pa_cons (pe_tup (pa_cons (pv 3) (pa_cons (pv 4) pa_nil))) pa_nil)))
      (pss_cons (ps_aug (i := 3) scTk.nd rfl (.inl rfl) pe_int ip_add)
      (pss_one (ps_set (i := 4) scTk.nd rfl (.inl rfl) (pe_call GLe hr (by rfl) gLe kLe bLe vd pass0 (pa_cons (pv 4) (pa_cons (pv 1) pa_nil))))))))
      (pss_one (ps_ret (pv 2))))))), ?_⟩
    have hg : 0 < b.length := by
      obtain ⟨n, hn, _⟩ := kh.2.2
      have := List.length_pos_of_mem hn
      rw [kh.1] at this
      exact this
    have eb : b.length = h.length := kh.1.symm
    refine ⟨by show 0 ≤ sizeLine; decide, fun D nD => ?_⟩
    have sD := same_new (o := .lst []) nD
    refine ⟨.ref a, rfl, ?_⟩
    refine while_by (fun σ H' => ∃ (k : Nat) (lf : Addr) (as : List Addr), σ = [some (.ref a), some (.ref c), some (.ref D), some (.int (k : Int)), some (.ref lf)] ∧ Same H H' ∧ H' D = some (.lst (as.map V.ref)) ∧ PrsAt H' as (tks b h k) ∧ IntsAt H' lf (subR b h (k : Int)) ∧ ∀ j, j < k → nnB (subR b h (j : Int)) = true)
      (fun σ _ => match σ with | [_, _, _, some (.int k), _] => b.sum.toNat + 2 - k.toNat | _ => 0)
      ⟨0, a, [], rfl, sD, upd_same, ⟨rfl, fun i _ _ h _ => by simp at h⟩, by rw [show ((0 : Nat) : Int) = 0 from rfl, subR_zero eb]; exact hA.same sD, fun j hj => absurd hj (Nat.not_lt_zero _)⟩ ?_ ?_
    · rintro σ H' ⟨k, lf, as, rfl, sm, hD, hP, hL, hk⟩
      have hll : (subR b h (k : Int)).length = b.length := subR_len eb
      refine ⟨.ref lf, rfl, lf, _, rfl, SqT.of hL, by rw [hll]; exact hg, fun mn hmn hmin => ⟨mn, 0, rfl, rfl, _, rfl, ?_⟩⟩
      refine ite2 (fun c1 => ?_) (fun c1 => ?_)
      · have c1' := of_decide_eq_true c1
        have en : nnB (subR b h (k : Int)) = true := nnB_iff.mpr fun n hn => Int.le_trans c1' (hmin n hn)
        have hkb := fits_lt kh rfl en
        refine ⟨.ref D, rfl, .inl ⟨rfl, _, SqL.of hD⟩, .int (k : Int), rfl, .ref lf, rfl, by show 2 ≤ sizeLine; decide, fun t nt => ?_⟩
        have st := same_new (o := .tup [.int (k : Int), .ref lf]) nt
        have hlen : as.length ≤ 900 := by
          rw [hP.1, tks, List.length_map, List.length_range]
          have := sum_nn hnn
          omega
        refine ⟨D, _, .ref t, rfl, rfl, st _ _ hD, by rw [List.length_map]; exact small1000 (by omega), ?_⟩
        have hD2 : upd H' t (.tup [.int (k : Int), .ref lf]) D = some (.lst (as.map V.ref)) := st _ _ hD
        have hL2 := hL.same st
        have hP2 : PrsAt (upd H' t (.tup [.int (k : Int), .ref lf])) (as ++ [t]) (tks b h (k + 1)) := by
          rw [show tks b h (k + 1) = tks b h k ++ [((k : Int), subR b h (k : Int))] by unfold tks; rw [List.range_succ, List.map_append]; rfl]
          exact (hP.map fun a q x => x.same st).more ⟨lf, upd_same, hL2⟩
        have sm2 := sm.trans st
        generalize upd H' t (.tup [.int (k : Int), .ref lf]) = H2 at *
        have hP3 := hP2.map fun a q x => x.put (ys := as.map V.ref ++ [.ref t]) hD2
        have sm3 : Same H (upd H2 D (.lst (as.map V.ref ++ [.ref t]))) := same_late sm2 nD
        have hL3 : IntsAt (upd H2 D (.lst (as.map V.ref ++ [.ref t]))) lf (subR b h (k : Int)) := by
          have hL2' : H2 lf = some (.tup ((subR b h (k : Int)).map V.int)) := hL2
          show upd H2 D _ lf = _
          rw [upd_ne fun e => ?_]
          · exact hL2'
          · rw [e, hD2] at hL2'
            cases hL2'
        refine ⟨.int (k : Int), rfl, (k : Int), 1, rfl, rfl, ?_⟩
        refine ⟨.ref lf, rfl, .ref c, rfl, lf, c, _, h, 1, rfl, hL3, hC.same sm3, by rw [hll, eb], by omega, by decide, by decide, fun H4 z s4 hz => ?_⟩
        rw [subR_add] at hz
        refine ⟨⟨k + 1, z, as ++ [t], rfl, sm3.trans s4, ?_, hP3.map fun a q x => x.same s4, hz, fun j hj => ?_⟩, ?_⟩
        · rw [List.map_append]
          exact s4 _ _ upd_same
        · by_cases w : j < k
          · exact hk j w
          · rw [show j = k by omega]
            exact en
        · show b.sum.toNat + 2 - ((k : Int) + 1).toNat < b.sum.toNat + 2 - ((k : Int)).toNat
          omega
      · have c1' : ¬ (0 ≤ mn) := fun z => c1 (decide_eq_true z)
        have en : nnB (subR b h (k : Int)) = false := by
          cases e : nnB (subR b h (k : Int)) with
          | false => rfl
          | true => exact absurd (nnB_iff.mp e mn hmn) c1'
        exact ⟨.ref D, rfl, q H' D as k sm nD (takes_to kh rfl hk en) hD hP⟩
    · intro σ H' Q1 Q2 hq x
      obtain ⟨v, h1, p, ns, h2, h3, h4, h5⟩ := x
      refine ⟨v, h1, p, ns, h2, h3, h4, fun m hm hmin => ?_⟩
      obtain ⟨i, j, e1, e2, bb, e3, r⟩ := h5 m hm hmin
      exact ⟨i, j, e1, e2, bb, e3, hq _ _ r⟩
end
theorem cut_last {xs : List V} : cutV xs none (some (-1)) = xs.take (xs.length - 1) := by
  unfold cutV
  have e : HT.sIx xs.length xs.length (some (-1)) = xs.length - 1 := by
    show (if (-1 : Int) < 0 then ((-1 : Int) + (xs.length : Int)).toNat else min (-1 : Int).toNat xs.length) = _
    rw [if_pos (by decide)]
    omega
  rw [HT.sIx_none, e, List.drop_zero, Nat.sub_zero]
theorem beg_few {g : Nat} {ll : List (List Int)} {S : List (List Int × List Int)} (hl : ∀ x ∈ ll, Kd g x) (hS : ∀ q ∈ S, q.2.length = g ∧ 0 < cnt ll q.2) {i : Nat} (hi : i ≤ ll.length) : (begAt ll S i).length ≤ (S.flatMap fun q => (fils ll q.2).map fun c => q.1 ++ c).length := by
  rw [← begAt_fils hl (fun q hq => (hS q hq).1) hi]
  have hsome := begAt_some (fun q hq => (hS q hq).2) (i := i)
  generalize begAt ll S i = l at hsome
  induction l with
  | nil => exact Nat.zero_le _
  | cons q l ih =>
    rw [List.flatMap_cons, List.length_append, List.length_map, fils_len, List.length_cons]
    have := ih fun x hx => hsome x (List.mem_cons_of_mem _ hx)
    have := hsome q List.mem_cons_self
    omega
def begS (ll : List (List Int)) (b : List Int) : List (List Int × List Int) := if 0 < cnt ll b then [([], b)] else []
theorem begS_ok {ll : List (List Int)} {b : List Int} : ∀ q ∈ begS ll b, q.2.length = b.length ∧ 0 < cnt ll q.2 := fun q hq => by
  unfold begS at hq
  by_cases c : 0 < cnt ll b
  · rw [if_pos c] at hq
    rw [List.mem_singleton.mp hq]
    exact ⟨rfl, c⟩
  · rw [if_neg c] at hq
    cases hq
theorem begS_few {ll : List (List Int)} {b : List Int} (hl : ∀ x ∈ ll, Kd b.length x) {i : Nat} (hi : i ≤ ll.length) : (begAt ll (begS ll b) i).length ≤ cnt ll b := by
  refine Nat.le_trans (beg_few hl begS_ok hi) ?_
  unfold begS
  by_cases c : 0 < cnt ll b
  · rw [if_pos c, List.flatMap_cons, List.flatMap_nil, List.append_nil, List.length_map, fils_len]
    exact Nat.le_refl _
  · rw [if_neg c]
    exact Nat.zero_le _
theorem bel_sub : ∀ {r b h : List Int} {k : Int}, Bel r b → r.length = h.length → (∀ n ∈ h, 0 ≤ n) → 0 ≤ k → nnB (subR r h k) = true → Bel (subR r h k) b
  | [], [], [], _, _, _, _, _, _ => True.intro
  | x :: r, y :: b, z :: h, k, hb, hl, hn, hk, hnn => by
    rw [subR_cons] at hnn ⊢
    have hall := nnB_iff.mp hnn
    have h1 := hall _ List.mem_cons_self
    have h2 := Int.mul_nonneg hk (hn z List.mem_cons_self)
    have h3 := hb.1
    exact ⟨⟨h1, by omega⟩, bel_sub hb.2 (by simpa using hl) (fun n hn' => hn n (List.mem_cons_of_mem _ hn')) hk (nnB_iff.mpr fun n hn' => hall n (List.mem_cons_of_mem _ hn'))⟩
  | [], _ :: _, _, _, h, _, _, _, _ => h.elim
  | _ :: _, [], _, _, h, _, _, _, _ => h.elim
  | [], [], _ :: _, _, _, hl, _, _, _ => by simp at hl
  | _ :: _, _ :: _, [], _, _, hl, _, _, _ => by simp at hl
/-- what is left stays within the bill -/
theorem begAt_bel {ll : List (List Int)} {b : List Int} (hl : ∀ x ∈ ll, Kd b.length x) (hb : ∀ n ∈ b, 0 ≤ n) : ∀ {i : Nat}, i ≤ ll.length → ∀ q ∈ begAt ll (begS ll b) i, Bel q.2 b
  | 0, _, q, hq => by
    have hq' : q ∈ begS ll b := hq
    unfold begS at hq'
    by_cases c : 0 < cnt ll b
    · rw [if_pos c] at hq'
      rw [List.mem_singleton.mp hq']
      exact Bel.self hb
    · rw [if_neg c] at hq'
      cases hq'
  | i + 1, hi, q, hq => by
    obtain ⟨q0, h0, h1⟩ := List.mem_flatMap.mp hq
    have ih := begAt_bel hl hb (i := i) (by omega) q0 h0
    have e0 := begAt_len hl (fun q hq => (begS_ok q hq).1) (i := i) (by omega) q0 h0
    have hm : ll.getD i [] ∈ ll := by
      rw [List.getD_eq_getElem?_getD, List.getElem?_eq_getElem (by omega)]
      exact List.getElem_mem _
    have kh := hl _ hm
    unfold begF at h1
    obtain ⟨k, hk, rfl⟩ := List.mem_map.mp h1
    have hk2 := (List.mem_filter.mp hk).1
    unfold takes at hk2
    have hnn := (List.mem_filter.mp hk2).2
    exact bel_sub ih (by rw [e0, kh.1]) kh.2.1 (by omega) hnn
end HL

set_option pp.maxSteps 2000
namespace HL
open PySem PySem.Spec PyProof.Rows L2 LamX
open C8 (pss_cut)
open RZ (pi_zipA ItzT iZipA)
open GR (Sys Least Nz EqP Cf Orth Sgn Han Latt pairT trimC Grb Spn Kr backSt kr_latt)
abbrev NFi : List Str := ["lot", "bill", "most", "tables", "begun", "kind", "hold", "counts", "rest", "count", "left"]
theorem scFl : FnScope NFi ["lot", "bill", "most"] (defScope sFillings) := ⟨rfl, rfl, rfl, by decide +kernel, rfl, by decide +kernel, by decide +kernel⟩
theorem sum_most {c : Int} : ∀ {b : List Int}, (∀ n ∈ b, n ≤ c) → b.sum ≤ c * (b.length : Nat)
  | [], _ => by simp
  | x :: b, h => by
    have := h x List.mem_cons_self
    have := sum_most (b := b) fun n hn => h n (List.mem_cons_of_mem _ hn)
    rw [List.sum_cons, List.length_cons, Int.natCast_add, Int.mul_add]
    omega
theorem bel_ok : ∀ {r b : List Int}, Bel r b → r.sum ≤ b.sum ∧ r.length = b.length ∧ ∀ n ∈ r, 0 ≤ n
  | [], [], _ => ⟨Int.le_refl _, rfl, fun n hn => by cases hn⟩
  | x :: r, y :: b, h => by
    obtain ⟨h1, h2⟩ := h
    obtain ⟨k1, k2, k3⟩ := bel_ok h2
    refine ⟨by rw [List.sum_cons, List.sum_cons]; omega, by rw [List.length_cons, List.length_cons, k2], fun n hn => ?_⟩
    rcases List.mem_cons.mp hn with e | e
    · rw [e]; exact h1.1
    · exact k3 n e
  | [], _ :: _, h => h.elim
  | _ :: _, [], h => h.elim
theorem begAt_cl {ll : List (List Int)} {b : List Int} : ∀ {i : Nat}, ∀ q ∈ begAt ll (begS ll b) i, q.1.length = i
  | 0, q, hq => by
    have hq' : q ∈ begS ll b := hq
    unfold begS at hq'
    by_cases c : 0 < cnt ll b
    · rw [if_pos c] at hq'
      rw [List.mem_singleton.mp hq']
      rfl
    · rw [if_neg c] at hq'
      cases hq'
  | i + 1, q, hq => by
    obtain ⟨q0, h0, h1⟩ := List.mem_flatMap.mp hq
    unfold begF at h1
    obtain ⟨k, _, rfl⟩ := List.mem_map.mp h1
    show (q0.1 ++ [(k : Int)]).length = i + 1
    rw [List.length_append, begAt_cl q0 h0]
    rfl
section
variable {P : Program} {w : World} {K : PySem.W.Frag} {mg : Str → Option Value} {base : Heap}
def spFil : Sp := fun vs H Q _ => ∃ (p bl : Addr) (as : List Addr) (ll : List (List Int)) (b : List Int) (mo : Int), vs = [.ref p, .ref bl, .int mo] ∧ RowsAt H p as ll ∧ flaw ll = none ∧ IntsAt H bl b ∧ b.length ≤ 100 ∧ b.length = width ll ∧ (∀ n ∈ b, 0 ≤ n ∧ n < G30) ∧ boxI b ≤ 4000 ∧ b.sum ≤ 900 ∧ cnt ll b ≤ 500000 ∧ (cnt ll b : Int) ≤ mo ∧
    ∀ H' l ca, Same H H' → H l = none → H' l = some (.lst (ca.map V.ref)) → Rows H' ca (fils ll b) → Q (.ref l) H'
theorem ok_fil {f : Addr} {fd : FuncData} {kws : List (Str × V)} (F : FunD K "fillings" "fillings" (defArgs sFillings) (defBody sFillings) (defScope sFillings) [] kws f fd) (B : Bl mg) (CBo : Cal P w K mg base CX0 5 "look_both" ["lot", "bill"] spBoth0) (CT : Cal P w K mg base CX0 3 "tables_of" ["lot", "bill"] spTables) (CK : Cal P w K mg base CX0 2 "takings" ["bill", "hold"] spTakings) :
    FnOk P w K mg base CX0 6 f fd ["lot", "bill", "most"] spFil := by
  obtain ⟨fB, fdB, GB, gB, kB, bB⟩ := CBo.ex
  obtain ⟨fT, fdT, GT, gT, kT, bT⟩ := CT.ex
  obtain ⟨fK, fdK, GK, gK, kK, bK⟩ := CK.ex
  refine F.ok scFl (fun vs H Q E h => ?_) (fun cdv A outer s H vs Q E hr h => ?_)
  · obtain ⟨p, bl, as, ll, b, mo, rfl, _⟩ := h
    rfl
  · obtain ⟨p, bl, as, ll, b, mo, rfl, R, ef, hB, hz, hl, hb, hx, hsum, hfew, hle, q⟩ := h
    have hu := hu_of hr
    have hok := flaw_ok ef
    have hrw := flaw_rows ef
    have hal := R.2.len
    refine ⟨_, (pss_cons (ps_expr (pe_call GB (hr.mono (by decide)) (by rfl) gB kB bB .nil pass0 (pa_cons (pv 0) (pa_cons (pv 1) pa_nil))))
    (pss_cons (ps_set (i := 3) scFl.nd rfl (.inr rfl) (pe_call GT (hr.mono (by decide)) (by rfl) gT kT bT .nil pass0 (pa_cons (pv 0) (pa_cons (pv 1) pa_nil))))
    (pss_cons (ps_if (pt_cmpR op_gt (pe_dget2 hu (pe_ix ix_list (pv 3) pe_int (fun _ _ => rfl)) (pv 1) pe_int ⟨rfl, rfl, rfl, rfl⟩) (pv 2) (nomark _)) pss_never pss_nil)
    (pss_cut (ps_set (i := 4) scFl.nd rfl (.inl rfl) (pe_ifExp (pt_cmp (pc_din hu (pv 1) (pe_ix ix_list (pv 3) pe_int (fun _ _ => rfl))) (by rfl)) (pe_lst (pa_cons (pe_tup (pa_cons (pe_tup pa_nil) (pa_cons (pv 1) pa_nil))) pa_nil)) (pe_lst pa_nil)))
    (pss_cut (ps_for (passes_of rfl) rfl (pi_enumT (by rfl) B.enumerate (pa_cons (pe_slice sl_tupA (pv 0) po_none (po_some (pe_un un_neg pe_int))) pa_nil)) (pg_tup rfl (pgs_cons (pg_name (i := 5) scFl.nd rfl (.inr rfl)) (pgs_cons (pg_name (i := 6) scFl.nd rfl (.inr rfl)) pgs_nil)))
      (pss_one (ps_setLc2 (i := 4) (own := [("counts", 7), ("rest", 8), ("count", 9), ("left", 10)]) (vs1 := [9, 10]) (g := gTup K 2 (gCons (gName 7) (gCons (gName 8) gNil))) (g1 := gTup K 2 (gCons (gName 9) (gCons (gName 10) gNil))) (tt := tYes)
        (tt1 := tTest (tDIn (tVar 10) (tOp (rIxL K) (tVar 3) (tOp (rI0 fun i j => .int (i + j)) (tVar 5) (tC (.int 1)))))) (wi1 := iList K (tCall spTakings [] E0 (tCons (tVar 8) (tCons (tVar 6) tNil)))) rfl scFl.nd rfl rfl (sw_true rfl rfl rfl (by decide +kernel)) (pi_list (pv 4))
        (blkOk_by (own := [("counts", 7), ("rest", 8), ("count", 9), ("left", 10)]) (N := NFi) (sc := defScope sFillings) (by decide +kernel)) (by decide) (fun _ _ _ _ _ => pg_tup rfl (pgs_cons (pg_name (i := 7) scFl.nd rfl (Or.inl rfl)) (pgs_cons (pg_name (i := 8) scFl.nd rfl (Or.inl rfl)) pgs_nil))) (fun _ _ _ _ _ => pts_nil)
        (fun _ _ _ _ _ => pi_list (pe_call GK (hr.mono (by decide)) (by rfl) gK kK bK .nil pass0 (pa_cons (pv 8) (pa_cons (pv 6) pa_nil)))) (fun _ _ _ _ _ => pg_tup rfl (pgs_cons (pg_name (i := 9) scFl.nd rfl (Or.inl rfl)) (pgs_cons (pg_name (i := 10) scFl.nd rfl (Or.inl rfl)) pgs_nil)))
        (fun _ _ _ _ _ => pts_one (pt_cmp (pc_din hu (pv 10) (pe_ix (r := rIxL K) ix_list (pv 3) (pe_op op_add (pv 5) pe_int) (fun _ _ => rfl))) (by rfl)))
        (fun _ _ _ _ _ => pe_tup (pa_cons (pe_op (r := rCatA K) op_catA (pv 7) (pe_tup (pa_cons (pv 9) pa_nil))) (pa_cons (pv 10) pa_nil))))))
    (pss_one (ps_ret (pe_lc (own := [("counts", 7), ("rest", 8)]) (g := gTup K 2 (gCons (gName 7) (gCons (gName 8) gNil))) (tt := tYes) (te := tOp (rCatA K) (tVar 7) (tTup (tCons (tOp (rI CDiv fun i j => .int (i / j)) (tCB (rSumT K) (tCons (tVar 8) tNil)) (tCB (rSumT K) (tCons (tOp (rIxT K) (tVar 0) (tUn (rU fun i => .int (-i)) (tC (.int 1)))) tNil))) tNil))) rfl scFl.nd (pi_list (pv 4))
      (blkOk_by (own := [("counts", 7), ("rest", 8)]) (N := NFi) (sc := defScope sFillings) (by decide +kernel)) (fun _ _ _ _ _ => pg_tup rfl (pgs_cons (pg_name (i := 7) scFl.nd rfl (Or.inl rfl)) (pgs_cons (pg_name (i := 8) scFl.nd rfl (Or.inl rfl)) pgs_nil))) (fun _ _ _ _ _ => pts_nil)
      (fun _ _ _ _ _ => pe_op (r := rCatA K) op_catA (pv 7) (pe_tup (pa_cons (pe_op op_fdiv (pe_callB (cr_sumT rfl) (by rfl) B.sum (by decide +kernel) (pa_cons (pv 8) pa_nil)) (pe_callB (cr_sumT rfl) (by rfl) B.sum (by decide +kernel) (pa_cons (pe_ix (r := rIxT K) ix_tup (pv 0) (pe_un un_neg pe_int) (fun _ _ => rfl)) pa_nil))) pa_nil))))))))))), ?_⟩
    refine ⟨.ref p, rfl, .ref bl, rfl, p, bl, as, ll, b, rfl, R, ef, hB, hl, hb, hx, fun H1 s1 => ?_⟩
    have bo : BoxOk b := ⟨fun n hn => (hb n hn).1, by omega, hx⟩
    have hkd : ∀ x ∈ ll, Kd b.length x := fun x hx => by
      rw [hl]
      exact flaw_kd ef x hx
    refine ⟨.ref p, rfl, .ref bl, rfl, p, bl, as, ll, b, rfl, R.same s1, by omega, hB.same s1, bo, hkd, fun H2 l s2 ⟨ds, d1, d2, d3⟩ => ?_⟩
    have s12 := s1.trans s2
    obtain ⟨d0, hd0⟩ : ∃ d0, ds[0]? = some d0 := ⟨_, List.getElem?_eq_getElem (by omega)⟩
    obtain ⟨kvs, hk, hT⟩ := d3 0 d0 hd0
    rw [List.drop_zero] at hT
    have at0 : atI (ds.map V.ref) 0 = some (.ref d0) := atI_nat (j := 0) (by rw [List.getElem?_map, hd0]; rfl)
    have hbb : H2 bl = some (.tup ((kI b).map kV)) := by rw [kI_V]; exact s12 _ _ hB
    have hmem : b ∈ cellsB b := (cells_mem bo.nn (Nat.le_refl _) b).mpr (by rw [List.take_length]; exact Bel.self bo.nn)
    refine ⟨.ref l, rfl, l, _, 0, .ref d0, rfl, rfl, SqL.of d1, at0, d0, rfl, .inr ⟨_, .inl hk⟩, .ref bl, rfl, _, DGet.t hk hbb, ?_⟩
    rw [hT.get (.inl hmem)]
    refine ⟨.int mo, rfl, _, mo, rfl, rfl, _, rfl, ?_⟩
    rw [decide_eq_false (show ¬ mo < (cnt ll b : Int) by omega)]
    refine iteF ?_
    -- begun
    refine ⟨fun σ' H' => ∃ (g0 : Addr) (ga : List Addr), σ' = [some (.ref p), some (.ref bl), some (.int mo), some (.ref l), some (.ref g0), none, none, none, none, none, none] ∧ Same H2 H' ∧ H' g0 = some (.lst (ga.map V.ref)) ∧ LdsAt H' ga (begS ll b), ?_, ?_⟩
    · refine ⟨.ref bl, rfl, .ref l, rfl, l, _, 0, .ref d0, rfl, rfl, SqL.of d1, at0, d0, _, rfl, DGet.t hk hbb, _, rfl, ?_⟩
      rw [hT b]
      by_cases c : 0 < cnt ll b
      · rw [if_pos ⟨hmem, c⟩]
        refine iteT ⟨Nat.zero_le _, fun t0 nt0 => ⟨.ref bl, rfl, sz_2 _ _, fun t1 nt1 => ⟨sz_1 _, fun g0 ng0 => ?_⟩⟩⟩
        have m0 := same_new (o := .tup []) nt0
        have m1 := same_new (o := .tup [.ref t0, .ref bl]) nt1
        have m2 := same_new (o := .lst [.ref t1]) ng0
        refine ⟨g0, [t1], rfl, m0.trans (m1.trans m2), upd_same, ?_⟩
        unfold begS
        rw [if_pos c]
        refine ⟨rfl, fun i a q h1 h2 => ?_⟩
        match i, h1, h2 with
        | 0, h1, h2 =>
          cases Option.some.inj h1
          cases Option.some.inj h2
          exact ⟨t0, bl, m2 _ _ upd_same, m2 _ _ (m1 _ _ upd_same), hB.same (s12.trans (m0.trans (m1.trans m2)))⟩
        | i + 1, h1, h2 => simp at h1
      · rw [if_neg (fun z => c z.2)]
        refine iteF ⟨Nat.zero_le _, fun g0 ng0 => ⟨g0, [], rfl, same_new ng0, upd_same, ?_⟩⟩
        unfold begS
        rw [if_neg c]
        exact ⟨rfl, fun i a q h1 _ => by simp at h1⟩
    rintro σ' H3 ⟨g0, ga, rfl, s3, hg0, hLd⟩
    have n1 : 1 ≤ ll.length := hok.1
    refine ⟨fun σ' H' => ∃ (g0 : Addr) (ga : List Addr) (y5 y6 : Option V), σ' = [some (.ref p), some (.ref bl), some (.int mo), some (.ref l), some (.ref g0), y5, y6, none, none, none, none] ∧ Same H3 H' ∧ H' g0 = some (.lst (ga.map V.ref)) ∧ LdsAt H' ga (begAt ll (begS ll b) (ll.length - 1)), ?_, ?_⟩
    · refine ⟨.ref p, rfl, noPart ⟨1, rfl, -1, rfl, slice_read ((R.same s12).same s3).1 fun z H4 s4 hz4 => ?_⟩⟩
      rw [cut_last, List.length_map, ← List.map_take] at hz4
      refine ⟨z, _, rfl, SqT.of hz4, ?_⟩
      refine for_it (walk_enumT (K := K) (a := z) (xs := (as.take (as.length - 1)).map V.ref)) (fun i σ' H' => Same H4 H' ∧ ∃ (g0 : Addr) (ga : List Addr) (y5 y6 : Option V), σ' = [some (.ref p), some (.ref bl), some (.int mo), some (.ref l), some (.ref g0), y5, y6, none, none, none, none] ∧ H' g0 = some (.lst (ga.map V.ref)) ∧ LdsAt H' ga (begAt ll (begS ll b) i))
        ⟨Same.refl _, g0, ga, none, none, rfl, s4 _ _ hg0, hLd.map fun a q x => x.same s4⟩ (fun i σ' H' _ hI => SqT.of (hI.1 _ _ hz4)) (fun i x σ' H5 H6 hi hI hY => ?_) (fun σ' H5 hI => ?_)
      · obtain ⟨s5, g1, ga, y5, y6, rfl, hg1, hLd1⟩ := hI
        obtain ⟨T0, x1, x2, rfl, nT, rfl, e1, e2⟩ := hY
        cases Option.some.inj e1
        rw [List.length_map, List.length_take] at hi
        have hi' : i < as.length - 1 := by omega
        obtain ⟨ai, hai⟩ : ∃ c, as[i]? = some c := ⟨_, List.getElem?_eq_getElem (by omega)⟩
        have ex2 : x2 = .ref ai := by
          have e2' : ((as.take (as.length - 1)).map V.ref)[i]? = some x2 := e2
          rw [List.getElem?_map, List.getElem?_take_of_lt hi', hai] at e2'
          exact (Option.some.inj e2').symm
        subst ex2
        have sT := same_new (o := .tup [.int (i : Nat), .ref ai]) nT
        have sB := s5.trans sT
        have hgB := sT _ _ hg1
        have hLB := hLd1.map fun a q x => x.same sT
        have hTB : upd H5 T0 (.tup [.int (i : Nat), .ref ai]) T0 = some (.tup [.int (i : Nat), .ref ai]) := upd_same
        generalize upd H5 T0 (.tup [.int (i : Nat), .ref ai]) = HB at sB hgB hLB hTB ⊢
        have s2B := s3.trans (s4.trans sB)
        obtain ⟨h, hh1, hh2⟩ := ((R.same s12).same s2B).2.at hai
        have hh2 : IntsAt HB ai h := hh2
        have eh : ll.getD i [] = h := by rw [List.getD_eq_getElem?_getD, hh1]; rfl
        have hhm := List.mem_of_getElem? hh1
        have kh := hkd h hhm
        have hil : i + 1 ≤ ll.length := by omega
        obtain ⟨dn, hdn⟩ : ∃ d, ds[i + 1]? = some d := ⟨_, List.getElem?_eq_getElem (by omega)⟩
        obtain ⟨kvn, hkn, hTn⟩ := d3 (i + 1) dn hdn
        have hatn : atI (ds.map V.ref) ((i : Int) + 1) = some (.ref dn) := by
          have := atI_nat (xs := ds.map V.ref) (j := i + 1) (v := .ref dn) (by rw [List.getElem?_map, hdn]; rfl)
          exact this
        refine ⟨T0, _, rfl, SqT.of hTB, rfl, _, _, rfl, _, _, rfl, rfl, ?_⟩
        refine ⟨.ref g1, rfl, g1, rfl, ⟨_, SqL.of hgB⟩, fun D nD => ?_⟩
        have hbl := hLB.1
        have hbel := begAt_bel hkd bo.nn (i := i) (by omega)
        have hblen := begAt_len (S := begS ll b) hkd (fun q hq => (begS_ok q hq).1) (i := i) (by omega)
        have hcl := begAt_cl (ll := ll) (b := b) (i := i)
        have hfewN := begS_few (b := b) hkd (i := i + 1) hil
        have enext : begAt ll (begS ll b) (i + 1) = (begAt ll (begS ll b) i).flatMap (begF (ll.drop (i + 1)) h) := by
          show (begAt ll (begS ll b) i).flatMap (begF (ll.drop (i + 1)) (ll.getD i [])) = _
          rw [eh]
        rw [enext] at hfewN
        rw [enext]
        generalize begAt ll (begS ll b) i = bs at hLB hbl hbel hblen hcl hfewN ⊢
        refine ⟨fun a m H7 => a + m = ga.length ∧ Same HB H7 ∧ ∃ da : List Addr, H7 D = some (.lst (da.map V.ref)) ∧ LdsAt H7 da ((bs.take a).flatMap (begF (ll.drop (i + 1)) h)), ⟨ga.length, by omega, same_new nD, [], upd_same, ⟨rfl, fun i a q h1 _ => by simp at h1⟩⟩, fun a m H7 hW => ?_⟩
        obtain ⟨em, s7, da, hda, hLda⟩ := hW
        by_cases ha : a < ga.length
        · obtain ⟨gx, hgx⟩ : ∃ c, ga[a]? = some c := ⟨_, List.getElem?_eq_getElem ha⟩
          obtain ⟨qa, hqa⟩ : ∃ q, bs[a]? = some q := ⟨_, List.getElem?_eq_getElem (by omega)⟩
          have hqm := List.mem_of_getElem? hqa
          have hg7 := s7 _ _ hgB
          have gat : (ga.map V.ref)[a]? = some (.ref gx) := by rw [List.getElem?_map, hgx]; rfl
          have etk : (bs.take (a + 1)).flatMap (begF (ll.drop (i + 1)) h) = (bs.take a).flatMap (begF (ll.drop (i + 1)) h) ++ begF (ll.drop (i + 1)) h qa := by
            rw [List.take_add_one, hqa, List.flatMap_append]
            simp
          have hlenA : ((bs.take (a + 1)).flatMap (begF (ll.drop (i + 1)) h)).length ≤ 500000 := by
            have e : bs = bs.take (a + 1) ++ bs.drop (a + 1) := (List.take_append_drop _ _).symm
            have : (bs.flatMap (begF (ll.drop (i + 1)) h)).length = ((bs.take (a + 1)).flatMap (begF (ll.drop (i + 1)) h)).length + ((bs.drop (a + 1)).flatMap (begF (ll.drop (i + 1)) h)).length := by
              rw [← List.length_append, ← List.flatMap_append, ← e]
            omega
          refine .inr ⟨⟨_, _, SqL.of hg7, gat⟩, fun H8 => Same HB H8 ∧ ∃ da : List Addr, H8 D = some (.lst (da.map V.ref)) ∧ LdsAt H8 da ((bs.take (a + 1)).flatMap (begF (ll.drop (i + 1)) h)), fun H8 hN => ⟨m - 1, by omega, by omega, hN⟩, fun x H8 hy => ?_⟩
          obtain ⟨e8, f8⟩ := hy
          subst e8
          have exx : x = .ref gx := Option.some.inj ((f8 _ (SqL.of hg7)).symm.trans gat)
          subst exx
          obtain ⟨r1, r2, hB1, hB2, hB3⟩ := hLB.2 a gx qa hgx hqa
          have hp1 := s7 _ _ hB1
          have hp3 := hB3.same s7
          have hq3 : qa.2.length = b.length := hblen qa hqm
          obtain ⟨u1, u2, u3⟩ := bel_ok (hbel qa hqm)
          refine ⟨gx, _, rfl, SqT.of hp1, rfl, _, _, rfl, _, _, rfl, rfl, rfl, yes (iteT ?_)⟩
          refine ⟨.ref r2, rfl, .ref ai, rfl, r2, ai, qa.2, h, rfl, hp3, hh2.same s7, by rw [hq3]; exact kh, by rw [hq3]; omega, u3, by omega, fun H9 l9 as9 k9 s9 nl9 htk hl9 hpr => ?_⟩
          refine ⟨l9, rfl, ⟨_, SqL.of hl9⟩, ?_⟩
          let fk : Nat → List Int × List Int := fun k => (qa.1 ++ [(k : Int)], subR qa.2 h (k : Int))
          let pk : Nat → Bool := fun k => decide (0 < cnt (ll.drop (i + 1)) (subR qa.2 h (k : Int)))
          have efull : ((List.range k9).filter pk).map fk = begF (ll.drop (i + 1)) h qa := by
            unfold begF
            rw [htk]
          have hk900 : k9 ≤ 901 := by
            have h1 := congrArg List.length htk
            rw [List.length_range] at h1
            unfold takes at h1
            have h2 := List.length_filter_le (fun (k : Nat) => nnB (subR qa.2 h (k : Int))) (List.range (qa.2.sum.toNat + 1))
            rw [List.length_range] at h2
            omega
          have hprev : ((bs.take a).flatMap (begF (ll.drop (i + 1)) h)).length ≤ 500000 := by
            rw [etk, List.length_append] at hlenA
            omega
          have nlD : l9 ≠ D := fun e => by rw [e, hda] at nl9; cases nl9
          refine ⟨fun j k H10 => j + k = k9 ∧ Same HB H10 ∧ H10 l9 = some (.lst (as9.map V.ref)) ∧ PrsAt H10 as9 (tks qa.2 h k9) ∧ ∃ da : List Addr, H10 D = some (.lst (da.map V.ref)) ∧ LdsAt H10 da ((bs.take a).flatMap (begF (ll.drop (i + 1)) h) ++ ((List.range j).filter pk).map fk),
            ⟨k9, by omega, s7.trans s9, hl9, hpr, da, s9 _ _ hda, by simpa using hLda.map fun a q x => x.same s9⟩, fun j k H10 hW => ?_⟩
          obtain ⟨ek, s10, hl10, hpr10, da, hda, hLda⟩ := hW
          have hk9 : as9.length = k9 := by rw [hpr10.1]; unfold tks; rw [List.length_map, List.length_range]
          by_cases hj : j < k9
          · obtain ⟨aj, haj⟩ : ∃ c, as9[j]? = some c := ⟨_, List.getElem?_eq_getElem (by omega)⟩
            have jat : (as9.map V.ref)[j]? = some (.ref aj) := by rw [List.getElem?_map, haj]; rfl
            obtain ⟨rj, hr1, hr2⟩ := hpr10.2 j aj ((j : Int), subR qa.2 h (j : Int)) haj (by unfold tks; rw [List.getElem?_map, List.getElem?_range hj]; rfl)
            have hr2 : IntsAt H10 rj (subR qa.2 h (j : Int)) := hr2
            refine .inr ⟨⟨_, _, SqL.of hl10, jat⟩, fun H11 => Same HB H11 ∧ H11 l9 = some (.lst (as9.map V.ref)) ∧ PrsAt H11 as9 (tks qa.2 h k9) ∧ ∃ da : List Addr, H11 D = some (.lst (da.map V.ref)) ∧ LdsAt H11 da ((bs.take a).flatMap (begF (ll.drop (i + 1)) h) ++ ((List.range (j + 1)).filter pk).map fk), fun H11 hN => ⟨k - 1, by omega, by omega, hN⟩, fun x H11 hy => ?_⟩
            obtain ⟨e11, f11⟩ := hy
            subst e11
            have exx : x = .ref aj := Option.some.inj ((f11 _ (SqL.of hl10)).symm.trans jat)
            subst exx
            refine ⟨aj, _, rfl, SqT.of hr1, rfl, _, _, rfl, _, _, rfl, rfl, rfl, ?_⟩
            have hnn : nnB (subR qa.2 h (j : Int)) = true := by
              have : j ∈ takes qa.2 h := by rw [htk]; exact List.mem_range.mpr hj
              unfold takes at this
              exact (List.mem_filter.mp this).2
            have hcell : subR qa.2 h (j : Int) ∈ cellsB b := (cells_mem bo.nn (Nat.le_refl _) _).mpr (by rw [List.take_length]; exact bel_sub (hbel qa hqm) (by rw [hq3, kh.1]) kh.2.1 (by omega) hnn)
            have hrk : H11 rj = some (.tup ((kI (subR qa.2 h (j : Int))).map kV)) := by rw [kI_V]; exact hr2
            have s211 := s2B.trans s10
            refine ⟨.ref rj, rfl, .ref l, rfl, .int (i : Int), rfl, (i : Int), 1, rfl, rfl, l, _, _, .ref dn, rfl, rfl, SqL.of (s211 _ _ d1), hatn, dn, _, rfl, DGet.t (s211 _ _ hkn) hrk, _, rfl, ?_⟩
            rw [hTn]
            have er : (List.range (j + 1)).filter pk = (List.range j).filter pk ++ (if pk j = true then [j] else []) := by
              rw [List.range_succ, List.filter_append]
              by_cases e : pk j = true
              · rw [if_pos e, List.filter_cons_of_pos e]
                rfl
              · rw [if_neg e, List.filter_cons_of_neg e]
                rfl
            by_cases c : 0 < cnt (ll.drop (i + 1)) (subR qa.2 h (j : Int))
            · rw [if_pos ⟨hcell, c⟩]
              have ep : pk j = true := decide_eq_true c
              rw [if_pos ep] at er
              refine iteT ?_
              refine ⟨.ref r1, rfl, .int (j : Int), rfl, sz_1 _, fun t3 nt3 => ?_⟩
              have m3 := same_new (o := .tup [.int (j : Int)]) nt3
              have hq1 : qa.1.length ≤ 100 := by rw [hcl qa hqm]; omega
              refine cat_ints (ys := [(j : Int)]) ((hB2.same s10).same m3) (show IntsAt _ t3 [(j : Int)] from upd_same) (by rw [List.length_singleton]; omega) fun z5 H12 s12' hz5 => ?_
              refine ⟨.ref rj, rfl, sz_2 _ _, fun t4 nt4 => ?_⟩
              have m4 := same_new (o := .tup [.ref z5, .ref rj]) nt4
              have sx := m3.trans (s12'.trans m4)
              have hD13 := sx _ _ hda
              have ldn : LdAt (upd H12 t4 (.tup [.ref z5, .ref rj])) t4 (fk j) := ⟨z5, rj, upd_same, hz5.same m4, hr2.same sx⟩
              have hl13 := sx _ _ hl10
              have hpr13 := hpr10.map fun a q x => x.same sx
              have hLd13 := hLda.map fun a q x => x.same sx
              generalize upd H12 t4 (.tup [.ref z5, .ref rj]) = H13 at m4 sx hD13 ldn hl13 hpr13 hLd13 ⊢
              refine ⟨_, hD13, ?_, same_late (s10.trans sx) nD, by rw [upd_ne nlD]; exact hl13, ?_, da ++ [t4], by rw [upd_same, List.map_append]; rfl, ?_⟩
              · have h1 := hLd13.1
                rw [List.length_append, List.length_map] at h1
                have h2 := List.length_filter_le pk (List.range j)
                rw [List.length_range] at h2
                rw [List.length_map]
                exact Nat.lt_of_le_of_lt (show _ ≤ 600000 by omega) (by decide)
              · refine hpr13.map fun a' q' ⟨r', w1, w2⟩ => ⟨r', ?_, ?_⟩
                · rw [upd_ne (ne_of w1 hD13 (fun z => by cases z))]
                  exact w1
                · show upd H13 D _ r' = _
                  rw [upd_ne (ne_of w2 hD13 (fun z => by cases z))]
                  exact w2
              · rw [er, List.map_append, ← List.append_assoc]
                exact (hLd13.map fun a q x => x.put hD13).more (ldn.put hD13)
            · rw [if_neg (fun z => c z.2)]
              have ep : ¬ pk j = true := fun z => c (of_decide_eq_true z)
              rw [if_neg ep, List.append_nil] at er
              refine iteF ⟨s10, hl10, hpr10, da, hda, ?_⟩
              rw [er]
              exact hLda
          · refine .inl ⟨⟨_, SqL.of hl10, by rw [List.length_map]; omega⟩, s10, da, hda, ?_⟩
            have ej : j = k9 := by omega
            rw [ej, efull] at hLda
            rw [etk]
            exact hLda
        · refine .inl ⟨⟨_, SqL.of (s7 _ _ hgB), by rw [List.length_map]; omega⟩, sB.trans s7, D, da, _, _, rfl, hda, ?_⟩
          rw [List.take_of_length_le (by omega)] at hLda
          exact hLda
      · obtain ⟨s5, g1, ga, y5, y6, rfl, hg1, hLd1⟩ := hI
        rw [List.length_map, List.length_take, Nat.min_eq_left (by omega), hal] at hLd1
        exact ⟨g1, ga, y5, y6, rfl, s4.trans s5, hg1, hLd1⟩
    rintro σ' H5 ⟨g5, ga5, y5, y6, rfl, s5, hg5, hLd5⟩
    have s05 := s12.trans (s3.trans s5)
    obtain ⟨an, han⟩ : ∃ c, as[ll.length - 1]? = some c := ⟨_, List.getElem?_eq_getElem (by omega)⟩
    obtain ⟨hn, hn1, hn2⟩ := (R.same s05).2.at han
    have hn2 : IntsAt H5 an hn := hn2
    have eas : as.map V.ref = (as.take (ll.length - 1)).map V.ref ++ [.ref an] := by
      have e : as = as.take (ll.length - 1) ++ [an] := by
        have e1 : as.take (ll.length - 1 + 1) = as.take (ll.length - 1) ++ [an] := by rw [List.take_add_one, han]; rfl
        rw [← e1, List.take_of_length_le (by omega)]
      conv => lhs; rw [e]
      rw [List.map_append]
      rfl
    have hatl : atI (as.map V.ref) (-1) = some (.ref an) := by
      rw [eas]
      exact atI_last _ _
    have htold := beg_told (g := b.length) (n := ll.length - 1) (ll := ll) (b := b) (h := hn) hkd rfl (by omega) hn1
    have htold : (begAt ll (begS ll b) (ll.length - 1)).map (fun q => q.1 ++ [q.2.sum / hn.sum]) = fils ll b := htold
    have hcl := begAt_cl (ll := ll) (b := b) (i := ll.length - 1)
    have hfw := begS_few (b := b) hkd (i := ll.length - 1) (by omega)
    have kn := hkd hn (List.mem_of_getElem? hn1)
    have hns := sum_kd kn
    have hnb : hn.sum ≤ 18 := by
      have h1 := sum_most (c := 6) (b := hn) fun n hm => (hrw hn (List.mem_of_getElem? hn1)).2 n hm |>.2
      have h2 := kn.1
      have h3 : (hn.length : Int) ≤ 3 := by omega
      omega
    generalize begAt ll (begS ll b) (ll.length - 1) = bs at hLd5 htold hcl hfw
    have hbl := hLd5.1
    refine ⟨.ref g5, rfl, g5, rfl, ⟨_, SqL.of hg5⟩, fun D nD => ?_⟩
    refine lc_list (K := K) (a := g5) (xs := ga5.map V.ref) (fun i H' => Same H5 H' ∧ ∃ ca : List Addr, H' D = some (.lst (ca.map V.ref)) ∧ Rows H' ca ((bs.take i).map fun q => q.1 ++ [q.2.sum / hn.sum])) ⟨same_new nD, [], upd_same, by rw [List.take_zero]; exact True.intro⟩ (fun i H' _ hP => SqL.of (hP.1 _ _ hg5)) (fun i x H' hx ⟨sj, ca, hD, hRc⟩ => ?_) (fun H' ⟨sj, ca, hD, hRc⟩ => ?_)
    · obtain ⟨gx, hgx, rfl⟩ : ∃ c, ga5[i]? = some c ∧ x = V.ref c := by
        rw [List.getElem?_map] at hx
        cases e : ga5[i]? with
        | none => rw [e] at hx; cases hx
        | some c => rw [e] at hx; exact ⟨c, rfl, (Option.some.inj hx).symm⟩
      have hil := (List.getElem?_eq_some_iff.mp hgx).1
      obtain ⟨qi, hqi⟩ : ∃ q, bs[i]? = some q := ⟨_, List.getElem?_eq_getElem (by omega)⟩
      obtain ⟨r1, r2, w1, w2, w3⟩ := (hLd5.2 i gx qi hgx hqi).same sj
      have hq1 := hcl qi (List.mem_of_getElem? hqi)
      refine ⟨gx, _, rfl, SqT.of w1, rfl, _, _, rfl, _, _, rfl, rfl, rfl, yes (iteT ?_)⟩
      refine ⟨.ref r1, rfl, .ref r2, rfl, r2, qi.2, rfl, SqT.of w3, .ref p, rfl, 1, rfl, p, _, _, .ref an, rfl, rfl, SqT.of ((R.same s05).same sj).1, hatl, an, hn, rfl, SqT.of (hn2.same sj), _, _, rfl, rfl, ⟨by omega, by omega⟩, sz_1 _, fun t3 nt3 => ?_⟩
      have m3 := same_new (o := .tup [.int (qi.2.sum / hn.sum)]) nt3
      refine cat_ints (ys := [qi.2.sum / hn.sum]) (w2.same m3) (show IntsAt _ t3 [qi.2.sum / hn.sum] from upd_same) (by rw [List.length_singleton]; omega) fun z5 H12 s12' hz5 => ?_
      have sx := m3.trans s12'
      have hD13 := sx _ _ hD
      refine ⟨_, hD13, ?_, same_late (sj.trans sx) nD, ca ++ [z5], by rw [upd_same, List.map_append]; rfl, ?_⟩
      · have h1 := hRc.len
        rw [List.length_map, List.length_take] at h1
        rw [List.length_map]
        exact Nat.lt_of_le_of_lt (show _ ≤ 600000 by omega) (by decide)
      · rw [List.take_add_one, hqi, List.map_append]
        exact ((hRc.same sx).lput hD13).app ⟨by rw [upd_ne (ne_of hz5 hD13 (fun z => by cases z))]; exact hz5, True.intro⟩
    · rw [List.length_map, List.take_of_length_le (by omega), htold] at hRc
      exact q H' D ca (s05.trans sj) (s05.free nD) hD hRc
end
end HL

set_option pp.maxSteps 2000
namespace HL
open PySem PySem.Spec PyProof.Rows L2 LamX
open C8 (pss_cut)
open RZ (pi_zipA ItzT iZipA)
open GR (Sys Least Nz EqP Cf Orth Sgn Han Latt pairT trimC Grb Spn Kr backSt kr_latt)
theorem good_flaw {g m : Int} {ll : List (List Int)} (g1 : 1 ≤ g) (g3 : g ≤ 3) (m6 : m ≤ 6) (h : GoodLot g m 5 ll) : flaw ll = none := by
  obtain ⟨h1, h2, h3⟩ := h
  have hw : width ll = g.toNat := by
    cases ll with
    | nil => simp at h1
    | cons r rs => exact (h3 r List.mem_cons_self).1
  unfold flaw
  rw [if_pos ⟨h1, h2, by omega, by omega⟩]
  exact flawIn_none fun j r hj hjr => by
    obtain ⟨e1, e2, e3⟩ := h3 r (List.mem_of_getElem? hjr)
    refine okRow_iff.mpr ⟨by rw [e1, hw], fun n hn => ?_, e3⟩
    have := e2 n hn
    omega
def SmallL (ll : List (List Int)) : Prop := GoodLot 1 4 4 ll ∨ GoodLot 2 2 4 ll ∨ GoodLot 3 2 3 ll
theorem row_at {ll : List (List Int)} {r : List Int} (hr : r ∈ ll) : ∃ i, i < ll.length ∧ ll.getD i [] = r := by
  obtain ⟨i, hi, e⟩ := List.mem_iff_getElem.mp hr
  exact ⟨i, hi, by rw [List.getD_eq_getElem?_getD, List.getElem?_eq_getElem hi, e]; rfl⟩
theorem gl_width {g m : Int} {n : Nat} {ll : List (List Int)} (h : GoodLot g m n ll) : width ll = g.toNat := by
  obtain ⟨h1, h2, h3⟩ := h
  cases ll with
  | nil => simp at h1
  | cons r rs => exact (h3 r List.mem_cons_self).1
theorem small_ok {ll : List (List Int)} (h : SmallL ll) : flaw ll = none ∧ SmL ll := by
  rcases h with h | h | h
  · have hw : width ll = 1 := gl_width h
    refine ⟨good_flaw (by decide) (by decide) (by decide) ⟨h.1, Nat.le_trans h.2.1 (by decide), h.2.2⟩, h.2.1, fun x hx nz le i => ?_⟩
    rw [hw] at hx le
    have := GR.kr_small (ks := GR.kw1) (g := 1) (n := 4) (D := 4) GR.kw1_ok (by decide) (by decide) h.2.1 (fun r hr => ?_) hx nz le i
    · omega
    · obtain ⟨e1, e2, n, e3, e4⟩ := h.2.2 r hr
      match r, e1, e2, e3 with
      | [a], _, e2, e3 =>
        have ea : n = a := List.mem_singleton.mp e3
        have b := e2 a List.mem_cons_self
        have c : a = 1 ∨ a = 2 ∨ a = 3 ∨ a = 4 := by omega
        rcases c with rfl | rfl | rfl | rfl <;> decide
  · have hw : width ll = 2 := gl_width h
    refine ⟨good_flaw (by decide) (by decide) (by decide) ⟨h.1, Nat.le_trans h.2.1 (by decide), h.2.2⟩, h.2.1, fun x hx nz le i => ?_⟩
    rw [hw] at hx le
    refine GR.kr_small (ks := GR.kw2) (g := 2) (n := 4) (D := 5) GR.kw2_ok (by decide) (by decide) h.2.1 (fun r hr => ?_) hx nz le i
    obtain ⟨e1, e2, n, e3, e4⟩ := h.2.2 r hr
    match r, e1, e2, e3 with
    | [a, b], _, e2, e3 =>
      have h1 := e2 a List.mem_cons_self
      have h2 := e2 b (List.mem_cons_of_mem _ List.mem_cons_self)
      refine GR.in_kw2 ⟨h1.1, by omega⟩ ⟨h2.1, by omega⟩ ?_
      rcases List.mem_cons.mp e3 with e | e
      · exact .inl (by omega)
      · have := List.mem_singleton.mp e
        exact .inr (by omega)
  · have hw : width ll = 3 := gl_width h
    refine ⟨good_flaw (by decide) (by decide) (by decide) ⟨h.1, Nat.le_trans h.2.1 (by decide), h.2.2⟩, Nat.le_trans h.2.1 (by decide), fun x hx nz le i => ?_⟩
    rw [hw] at hx le
    refine GR.three_small ⟨h.1, h.2.1, fun i hi j => ?_, fun i hi => ?_⟩ hx nz le i
    · obtain ⟨e1, e2, _⟩ := h.2.2 _ (List.getElem_mem hi)
      unfold GR.am
      rw [List.getD_eq_getElem?_getD (l := ll), List.getElem?_eq_getElem hi]
      show 0 ≤ (ll[i]).getD j 0 ∧ (ll[i]).getD j 0 ≤ 2
      rw [List.getD_eq_getElem?_getD]
      cases e : (ll[i])[j]? with
      | none => exact ⟨by decide, by decide⟩
      | some z => exact e2 z (List.mem_of_getElem? e)
    · obtain ⟨e1, e2, n, e3, e4⟩ := h.2.2 _ (List.getElem_mem hi)
      obtain ⟨j, hj, e⟩ := List.mem_iff_getElem.mp e3
      refine ⟨j, ?_, ?_⟩
      · rw [e1] at hj
        exact hj
      · unfold GR.am
        rw [List.getD_eq_getElem?_getD (l := ll), List.getElem?_eq_getElem hi]
        show (ll[i]).getD j 0 ≠ 0
        rw [List.getD_eq_getElem?_getD, List.getElem?_eq_getElem hj, e]
        show n ≠ 0
        omega
theorem small_width {ll : List (List Int)} (h : SmallL ll) : 1 ≤ ll.length ∧ ll.length ≤ 4 := by
  rcases h with h | h | h
  · exact ⟨h.1, h.2.1⟩
  · exact ⟨h.1, h.2.1⟩
  · exact ⟨h.1, Nat.le_trans h.2.1 (by decide)⟩
theorem gl_mono {g m m' : Int} {n n' : Nat} {ll : List (List Int)} (h : GoodLot g m n ll) (hm : m ≤ m') (hn : n ≤ n') : GoodLot g m' n' ll :=
  ⟨h.1, Nat.le_trans h.2.1 hn, fun r hr => by
    obtain ⟨h1, h2, h3⟩ := h.2.2 r hr
    exact ⟨h1, fun x hx => by
      have := h2 x hx
      omega, h3⟩⟩
def PlainG (ll : List (List Int)) : Prop := GoodLot 1 4 3 ll ∨ GoodLot 2 2 3 ll ∨ GoodLot 3 1 3 ll
theorem plain_small {ll : List (List Int)} (h : PlainG ll) : SmallL ll := by
  rcases h with h | h | h
  · exact .inl (gl_mono h (by decide) (by decide))
  · exact .inr (.inl (gl_mono h (by decide) (by decide)))
  · exact .inr (.inr (gl_mono h (by decide) (by decide)))
theorem scPl : FnScope ["_law_feed_here", "_law_how"] ["_law_feed_here"] (defScope sPlain) := ⟨rfl, rfl, rfl, by decide +kernel, rfl, by decide +kernel, by decide +kernel⟩
section
variable {P : Program} {w : World} {K : PySem.W.Frag} {mg : Str → Option Value} {base : Heap}
def spPlainX : Sp := fun vs H Q _ => ∃ (f c : Addr), vs = [.ref f] ∧ FeedAt c H f ∧ ∀ H' p ll, Kp f H H' → FeedAt c H' f → LotAt H' p ll → PlainG ll → Q (.ref p) H'
theorem ok_plainX {f : Addr} {fd : FuncData} (F : Fun K "_law_plain_lot" "_law_plain_lot" sPlain f fd) (CD : Cal P w K mg base CX0 1 "_law_draw" ["_law_feed_here", "_law_many"] spDraw) (CL : Cal P w K mg base CX0 3 "_law_lot" ["_law_feed_here", "_law_goods_here", "_law_kinds", "_law_most"] spLot) : FnOk P w K mg base CX0 4 f fd ["_law_feed_here"] spPlainX := by
  obtain ⟨fD, fdD, GD, gD, kD, bD⟩ := CD.ex
  obtain ⟨fL, fdL, GL, gL, kL, bL⟩ := CL.ex
  refine F.ok scPl (fun vs H Q E h => ?_) (fun cdv A outer s H vs Q E hr h => ?_)
  · obtain ⟨a, c, rfl, _⟩ := h
    rfl
  · obtain ⟨a, c, rfl, Fd, q⟩ := h
    refine ⟨_, (pss_cons (ps_set (i := 1) scPl.nd rfl (.inl rfl) (pe_call GD (hr.mono (by decide)) (by rfl) gD kD bD .nil pass0 (pa_cons (pv 0) (pa_cons pe_int pa_nil))))
      (pss_cons (ps_if (pt_cmpR op_eq (pv 1) pe_int (nomark _)) (pss_one (ps_ret (pe_call GL (hr.mono (by decide)) (by rfl) gL kL bL .nil pass0 (pa_cons (pv 0) (pa_cons pe_int (pa_cons pe_int (pa_cons pe_int pa_nil))))))) pss_nil)
      (pss_cons (ps_if (pt_cmpR op_lt (pv 1) pe_int (nomark _)) (pss_one (ps_ret (pe_call GL (hr.mono (by decide)) (by rfl) gL kL bL .nil pass0 (pa_cons (pv 0) (pa_cons pe_int (pa_cons pe_int (pa_cons pe_int pa_nil))))))) pss_nil)
      (pss_one (ps_ret (pe_call GL (hr.mono (by decide)) (by rfl) gL kL bL .nil pass0 (pa_cons (pv 0) (pa_cons pe_int (pa_cons pe_int (pa_cons pe_int pa_nil)))))))))), ?_⟩
    refine ⟨.ref a, rfl, a, c, 4, rfl, by decide, by decide, Fd, fun d H1 d0 d1 k1 F1 => ?_⟩
    refine ⟨.int d, rfl, rfl, _, rfl, ite2 (fun c1 => ?_) (fun c1 => ?_)⟩
    · exact ⟨.ref a, rfl, a, c, 1, 3, 4, rfl, F1, by decide, by decide, by decide, by decide, by decide, by decide, fun H2 p ll k2 F2 _ hL gl => q H2 p ll (k1.trans k2) F2 hL (.inl gl)⟩
    · refine ⟨.int d, rfl, d, 3, rfl, rfl, _, rfl, ite2 (fun c2 => ?_) (fun c2 => ?_)⟩
      · exact ⟨.ref a, rfl, a, c, 2, 3, 2, rfl, F1, by decide, by decide, by decide, by decide, by decide, by decide, fun H2 p ll k2 F2 _ hL gl => q H2 p ll (k1.trans k2) F2 hL (.inr (.inl gl))⟩
      · exact ⟨.ref a, rfl, a, c, 3, 3, 1, rfl, F1, by decide, by decide, by decide, by decide, by decide, by decide, fun H2 p ll k2 F2 _ hL gl => q H2 p ll (k1.trans k2) F2 hL (.inr (.inr gl))⟩
end
/-! ### all fillings as the law lists them -/
/-- one more drawn number in a list -/
theorem drawn {H H' H2 : Hp} {a c D : Addr} {ns : List Int} {lim d : Int} (nD : H D = none) (nDf : D ≠ a) (nDc : D ≠ c) (kp : Kp a H H') (hD : H' D = some (.lst (ns.map V.int))) (k2 : Kp a H' H2) (F2 : FeedAt c H2 a) (hz : ns.length ≤ 900) (hb : ∀ n ∈ ns, 0 ≤ n ∧ n < lim) (d0 : 0 ≤ d) (d1 : d < lim) :
    ∃ acc, H2 D = some (.lst acc) ∧ acc.length < sizeLine ∧ Kp a H (upd H2 D (.lst (acc ++ [.int d]))) ∧ FeedAt c (upd H2 D (.lst (acc ++ [.int d]))) a ∧
      ∃ ms : List Int, upd H2 D (.lst (acc ++ [.int d])) D = some (.lst (ms.map V.int)) ∧ ms.length = ns.length + 1 ∧ ∀ n ∈ ms, 0 ≤ n ∧ n < lim := by
  have hD2 := k2 _ _ nDf hD
  refine ⟨_, hD2, ?_, (kp.trans k2).late nD, F2.put nDf nDc, ns ++ [d], ?_, ?_, ?_⟩
  · rw [List.length_map]
    exact small1000 (by omega)
  · rw [upd_same, List.map_append]
    rfl
  · rw [List.length_append]
    rfl
  · intro n hn
    rcases List.mem_append.mp hn with h | h
    · exact hb n h
    · rw [List.mem_singleton.mp h]
      exact ⟨d0, d1⟩
section
variable {P : Program} {w : World} {K : PySem.W.Frag} {mg : Str → Option Value} {base : Heap}
end
theorem scSB : FnScope ["_law_feed_here", "_law_lot_here", "_law_good_here"] ["_law_feed_here", "_law_lot_here"] (defScope sSmallBill) := ⟨rfl, rfl, rfl, by decide +kernel, rfl, by decide +kernel, by decide +kernel⟩
def limW (w : Nat) : Int := if w = 1 then 13 else if w = 2 then 6 else 4
section
variable {P : Program} {w : World} {K : PySem.W.Frag} {mg : Str → Option Value} {base : Heap}
def spSmallBill : Sp := fun vs H Q _ => ∃ (f c p : Addr) (as : List Addr) (ll : List (List Int)), vs = [.ref f, .ref p] ∧ FeedAt c H f ∧ RowsAt H p as ll ∧ 1 ≤ ll.length ∧ 1 ≤ width ll ∧ width ll ≤ 3 ∧
  ∀ H' t b, Kp f H H' → FeedAt c H' f → IntsAt H' t b → b.length = width ll → (∀ n ∈ b, 0 ≤ n ∧ n < limW (width ll)) → Q (.ref t) H'
theorem ok_smallBill {f : Addr} {fd : FuncData} (F : Fun K "_law_small_bill" "_law_small_bill" sSmallBill f fd) (B : Bl mg) (CD : Cal P w K mg base CX0 1 "_law_draw" ["_law_feed_here", "_law_many"] spDraw) : FnOk P w K mg base CX0 2 f fd ["_law_feed_here", "_law_lot_here"] spSmallBill := by
  obtain ⟨fD, fdD, GD, gD, kD, bD⟩ := CD.ex
  refine F.ok scSB (fun vs H Q E h => ?_) (fun cdv A outer s H vs Q E hr h => ?_)
  · obtain ⟨a, c, p, as, ll, rfl, _⟩ := h
    rfl
  · obtain ⟨a, c, p, as, ll, rfl, Fd, R, l1, w1, w3, q⟩ := h
    refine ⟨_, (pss_one (ps_ret (pe_callTy call_tuple_of (by rfl) B.tuple (by decide +kernel) (pa_cons (pe_lc (own := [("_law_good_here", 2)]) (g := gName 2) (tt := tYes) (te := tCall spDraw [] E0 (tCons (tVar 0) (tCons (tOp (rIxL K) (tLst (tCons (tC (.int 13)) (tCons (tC (.int 6)) (tCons (tC (.int 4)) tNil)))) (tOp (rI0 fun i j => .int (i - j)) (tCB (fun xs H Q => ∃ p xs', xs = [.ref p] ∧ (SqL K H p xs' ∨ SqT K H p xs') ∧ Q (.int xs'.length) H) (tCons (tOp (rIxT K) (tVar 1) (tC (.int 0))) tNil)) (tC (.int 1)))) tNil))) rfl scSB.nd (pi_tup (pe_ix ix_tup (pv 1) pe_int (fun _ _ => rfl)))
        (blkOk_by (own := [("_law_good_here", 2)]) (N := ["_law_feed_here", "_law_lot_here", "_law_good_here"]) (sc := defScope sSmallBill) (by decide +kernel)) (fun _ _ _ _ _ => pg_name (i := 2) scSB.nd rfl (Or.inl rfl)) (fun _ _ _ _ _ => pts_nil)
        (fun _ _ _ _ _ => (pe_call GD hr (by rfl) gD kD bD .nil pass0 (pa_cons (pv 0) (pa_cons (pe_ix (r := rIxL K) ix_list (pe_lst (pa_cons pe_int (pa_cons pe_int (pa_cons pe_int pa_nil)))) (pe_op op_sub (pe_callB call_len_seq (by rfl) B.len PySem.boot_len (pa_cons (pe_ix (r := rIxT K) ix_tup (pv 1) pe_int (fun _ _ => rfl)) pa_nil)) pe_int) (fun _ _ => rfl)) pa_nil))))) pa_nil)))), ?_⟩
    obtain ⟨a0, ha0, hh0, hw⟩ := R.2.head l1
    have at0 : atI (as.map V.ref) 0 = some (.ref a0) := atI_nat (j := 0) (by rw [List.getElem?_map, ha0]; rfl)
    have hal : as.length = ll.length := R.2.len
    refine ⟨.ref p, rfl, p, _, 0, .ref a0, rfl, rfl, SqT.of R.1, at0, a0, rfl, ⟨_, SqT.of hh0⟩, fun D nD => ?_⟩
    have nDf : D ≠ a := Fd.ne nD
    have nDc : D ≠ c := Fd.neC nD
    have hs0 : ∀ H', Kp a H H' → SqT K H' p (as.map V.ref) ∧ SqT K H' a0 _ := fun H' kp => ⟨SqT.of (kp _ _ (Fd.tup R.1) R.1), SqT.of (kp _ _ (Fd.tup hh0) hh0)⟩
    refine lc_tup (K := K) (a := a0) (fun i H' => Kp a H H' ∧ FeedAt c H' a ∧ ∃ ns : List Int, H' D = some (.lst (ns.map V.int)) ∧ ns.length = i ∧ ∀ n ∈ ns, 0 ≤ n ∧ n < limW (width ll)) ⟨Kp.new nD, Fd.new nD, [], upd_same, rfl, fun n hn => by cases hn⟩ (fun i H' _ hP => (hs0 H' hP.1).2) (fun i x H' hx ⟨kp, F', ns, hD, hl, hb⟩ => ?_) (fun H' ⟨kp, F', ns, hD, hl, hb⟩ => ?_)
    · have hil : i < width ll := by
        have := (List.getElem?_eq_some_iff.mp hx).1
        rw [List.length_map, hw] at this
        exact this
      refine ⟨rfl, yes (iteT ?_)⟩
      refine ⟨.ref a, rfl, by show 3 ≤ sizeLine; decide, fun L nL => ?_⟩
      have sL := same_new (o := .lst [.int 13, .int 6, .int 4]) nL
      have kL := kp.trans (Kp.new (f := a) (o := .lst [.int 13, .int 6, .int 4]) nL)
      obtain ⟨sp, sa⟩ := hs0 _ kL
      have el : atI [V.int 13, V.int 6, V.int 4] (((width ll : Nat) : Int) - 1) = some (.int (limW (width ll))) := by
        unfold limW
        have : width ll = 1 ∨ width ll = 2 ∨ width ll = 3 := by omega
        rcases this with e | e | e <;> rw [e] <;> rfl
      refine ⟨.ref p, rfl, p, _, 0, .ref a0, rfl, rfl, sp, at0, a0, _, rfl, .inr sa, _, 1, rfl, rfl, L, _, _, .int (limW (width ll)), rfl, rfl, SqL.of upd_same, by rw [List.length_map, hw]; exact el, ?_⟩
      have hl1 : 1 ≤ limW (width ll) ∧ limW (width ll) ≤ 13 := by
        unfold limW
        split
        · decide
        · split <;> decide
      refine ⟨a, c, limW (width ll), rfl, hl1.1, by omega, F'.same sL, fun d H2 d0 d1 k2 F2 => ?_⟩
      obtain ⟨acc, e1, e2, e3, e4, ms, e5, e6, e7⟩ := drawn nD nDf nDc kL (sL _ _ hD) k2 F2 (by omega) hb d0 d1
      exact ⟨acc, e1, e2, e3, e4, ms, e5, by rw [e6, hl], e7⟩
    · refine ⟨D, _, rfl, .inl ⟨SqL.of hD, fun t nt => ?_⟩⟩
      exact q _ t ns (kp.trans (Kp.new nt)) (F'.new nt) upd_same (by rw [hl, List.length_map, hw]) hb
end
theorem scMi : FnScope ["_law_one", "_law_other", "_law_at"] ["_law_one", "_law_other"] (defScope sMinus) := ⟨rfl, rfl, rfl, by decide +kernel, rfl, by decide +kernel, by decide +kernel⟩
section
variable {P : Program} {w : World} {K : PySem.W.Frag} {mg : Str → Option Value} {base : Heap}
def spMinus : Sp := fun vs H Q _ => ∃ (a b : Addr) (xs ys : List Int), vs = [.ref a, .ref b] ∧ IntsAt H a xs ∧ IntsAt H b ys ∧ xs.length = ys.length ∧ xs.length ≤ 100 ∧ ∀ H' p, Same H H' → IntsAt H' p (subR xs ys 1) → Q (.ref p) H'
theorem ok_minus {f : Addr} {fd : FuncData} {k : Nat} (F : Fun K "_law_minus" "_law_minus" sMinus f fd) (B : Bl mg) : FnOk P w K mg base CX0 (k + 1) f fd ["_law_one", "_law_other"] spMinus := by
  refine F.ok scMi (fun vs H Q E h => ?_) (fun cdv A outer s H vs Q E hr h => ?_)
  · obtain ⟨a, b, xs, ys, rfl, _⟩ := h
    rfl
  · obtain ⟨a, b, xs, ys, rfl, ha, hb, hl, hz, q⟩ := h
    refine ⟨_, pss_one (ps_ret (pe_callTy call_tuple_of (by rfl) B.tuple (by decide +kernel) (pa_cons (pe_lc (own := [("_law_at", 2)]) (g := gName 2) (tt := tYes) rfl scMi.nd (pi_range1 (by rfl) B.range (pa_cons (pe_callB call_len_seq (by rfl) B.len PySem.boot_len (pa_cons (pv 0) pa_nil)) pa_nil))
        (blkOk_by (own := [("_law_at", 2)]) (N := ["_law_one", "_law_other", "_law_at"]) (sc := defScope sMinus) (by decide +kernel)) (fun _ _ _ _ _ => pg_name (i := 2) scMi.nd rfl (Or.inl rfl)) (fun _ _ _ _ _ => pts_nil)
        (fun _ _ _ _ _ => pe_op op_sub (pe_ix (r := rIxT K) ix_tup (pv 0) (pv 2) (fun _ _ => rfl)) (pe_ix (r := rIxT K) ix_tup (pv 1) (pv 2) (fun _ _ => rfl)))) pa_nil))), ?_⟩
    refine ⟨.ref a, rfl, a, _, rfl, .inr (SqT.of ha), _, rfl, by rw [List.length_map]; omega, by rw [List.length_map]; omega, fun D nD => ?_⟩
    rw [List.length_map]
    refine lc_range (lo := 0) (n := ((xs.length : Nat) : Int).toNat) (fun i H' => Same H H' ∧ H' D = some (.lst (((subR xs ys 1).take i).map V.int))) ⟨same_new nD, upd_same⟩ (fun i H4 hi ⟨s4, hD⟩ => ?_) (fun H4 ⟨s4, hD⟩ => ?_)
    · have hi' : i < xs.length := by omega
      have ez : (0 : Int) + (i : Nat) = ((i : Nat) : Int) := by omega
      rw [ez]
      refine ⟨rfl, yes (iteT ?_)⟩
      refine ⟨.ref a, rfl, .int (i : Int), rfl, a, _, _, _, rfl, rfl, SqT.of (ha.same s4), atIT hi', .ref b, rfl, .int (i : Int), rfl, b, _, _, _, rfl, rfl, SqT.of (hb.same s4), atIT (by omega), _, _, rfl, rfl, ?_⟩
      refine turn_fn (xs := subR xs ys 1) nD ?_ (by rw [subR_len hl]; omega) s4 hD (Same.refl _)
      rw [subR_at hi' (by omega), Int.one_mul]
    · rw [Int.toNat_natCast, List.take_of_length_le (by rw [subR_len hl]; exact Nat.le_refl _)] at hD
      exact ⟨D, _, rfl, .inl ⟨SqL.of hD, fun z nz => q _ z (s4.trans (same_new nz)) upd_same⟩⟩
end
theorem scPs : FnScope ["_law_one", "_law_other", "_law_at"] ["_law_one", "_law_other"] (defScope sPlus) := ⟨rfl, rfl, rfl, by decide +kernel, rfl, by decide +kernel, by decide +kernel⟩
section
variable {P : Program} {w : World} {K : PySem.W.Frag} {mg : Str → Option Value} {base : Heap}
def spPlus : Sp := fun vs H Q _ => ∃ (a b : Addr) (xs ys : List Int), vs = [.ref a, .ref b] ∧ IntsAt H a xs ∧ IntsAt H b ys ∧ xs.length = ys.length ∧ xs.length ≤ 100 ∧ ∀ H' p, Same H H' → IntsAt H' p (subR xs ys (-1)) → Q (.ref p) H'
theorem ok_plus {f : Addr} {fd : FuncData} {k : Nat} (F : Fun K "_law_plus" "_law_plus" sPlus f fd) (B : Bl mg) : FnOk P w K mg base CX0 (k + 1) f fd ["_law_one", "_law_other"] spPlus := by
  refine F.ok scPs (fun vs H Q E h => ?_) (fun cdv A outer s H vs Q E hr h => ?_)
  · obtain ⟨a, b, xs, ys, rfl, _⟩ := h
    rfl
  · obtain ⟨a, b, xs, ys, rfl, ha, hb, hl, hz, q⟩ := h
    refine ⟨_, pss_one (ps_ret (pe_callTy call_tuple_of (by rfl) B.tuple (by decide +kernel) (pa_cons (pe_lc (own := [("_law_at", 2)]) (g := gName 2) (tt := tYes) rfl scPs.nd (pi_range1 (by rfl) B.range (pa_cons (pe_callB call_len_seq (by rfl) B.len PySem.boot_len (pa_cons (pv 0) pa_nil)) pa_nil))
        (blkOk_by (own := [("_law_at", 2)]) (N := ["_law_one", "_law_other", "_law_at"]) (sc := defScope sPlus) (by decide +kernel)) (fun _ _ _ _ _ => pg_name (i := 2) scPs.nd rfl (Or.inl rfl)) (fun _ _ _ _ _ => pts_nil)
        (fun _ _ _ _ _ => pe_op op_add (pe_ix (r := rIxT K) ix_tup (pv 0) (pv 2) (fun _ _ => rfl)) (pe_ix (r := rIxT K) ix_tup (pv 1) (pv 2) (fun _ _ => rfl)))) pa_nil))), ?_⟩
    refine ⟨.ref a, rfl, a, _, rfl, .inr (SqT.of ha), _, rfl, by rw [List.length_map]; omega, by rw [List.length_map]; omega, fun D nD => ?_⟩
    rw [List.length_map]
    refine lc_range (lo := 0) (n := ((xs.length : Nat) : Int).toNat) (fun i H' => Same H H' ∧ H' D = some (.lst (((subR xs ys (-1)).take i).map V.int))) ⟨same_new nD, upd_same⟩ (fun i H4 hi ⟨s4, hD⟩ => ?_) (fun H4 ⟨s4, hD⟩ => ?_)
    · have hi' : i < xs.length := by omega
      have ez : (0 : Int) + (i : Nat) = ((i : Nat) : Int) := by omega
      rw [ez]
      refine ⟨rfl, yes (iteT ?_)⟩
      refine ⟨.ref a, rfl, .int (i : Int), rfl, a, _, _, _, rfl, rfl, SqT.of (ha.same s4), atIT hi', .ref b, rfl, .int (i : Int), rfl, b, _, _, _, rfl, rfl, SqT.of (hb.same s4), atIT (by omega), _, _, rfl, rfl, ?_⟩
      refine turn_fn (xs := subR xs ys (-1)) nD ?_ (by rw [subR_len hl]; omega) s4 hD (Same.refl _)
      rw [subR_at hi' (by omega), show ∀ u v : Int, u - -1 * v = u + v from fun u v => by omega]
    · rw [Int.toNat_natCast, List.take_of_length_le (by rw [subR_len hl]; exact Nat.le_refl _)] at hD
      exact ⟨D, _, rfl, .inl ⟨SqL.of hD, fun z nz => q _ z (s4.trans (same_new nz)) upd_same⟩⟩
end
theorem dp_ints {K : PySem.W.Frag} {H : Hp} : ∀ ns : List Int, DpAll K H (ns.map V.int) (ns.map PyData.int)
  | [] => .nil
  | n :: ns => .cons (.int n) (dp_ints ns)
/-! ### rows as data -/
abbrev dRow (r : List Int) : PyData := .tuple (r.map PyData.int)
theorem dp_rowK {K : PySem.W.Frag} {H : Hp} {a : Addr} {r : List Int} (h : IntsAt H a r) : Dp K H (.ref a) (dRow r) := .tup (SqT.of h) (dp_ints r)
theorem dp_rowsK {K : PySem.W.Frag} {H : Hp} : ∀ {as : List Addr} {ll : List (List Int)}, Rows H as ll → DpAll K H (as.map V.ref) (ll.map dRow)
  | [], [], _ => .nil
  | a :: as, r :: rs, h => .cons (dp_rowK h.1) (dp_rowsK h.2)
  | [], _ :: _, h => h.elim
  | _ :: _, [], h => h.elim
theorem lay_rows : ∀ ll : List (List Int), PyData.canLayAll0 (ll.map dRow) = true
  | [] => rfl
  | r :: ll => by simp [PyData.canLayAll0, PyData.canLay0, PySem.W.ke_canLayAll0, lay_rows ll]
theorem depth_rows : ∀ ll : List (List Int), PyData.depthAll (ll.map dRow) ≤ 1
  | [] => by simp [PyData.depthAll]
  | r :: ll => by
    have := depth_rows ll
    simp [PyData.depthAll, PyData.depth, PySem.W.ke_depthAll]
    omega
theorem shaped_rows (ll : List (List Int)) : SeqAt.shaped (.list (ll.map dRow)) = true := by
  have := depth_rows ll
  simp [SeqAt.shaped, PyData.canLay0, PyData.depth, lay_rows]
  omega

theorem eqv_rnil (ll : List (List Int)) : PyData.eqv (.list (ll.map dRow)) (.list []) = decide (ll = []) := by
  cases ll with
  | nil => simp [PyData.eqv, PyData.eqvAll]
  | cons n ns => simp [PyData.eqv, PyData.eqvAll]
theorem row_eqv : ∀ {r : List Int}, PyData.eqv (dRow r) (dRow (List.replicate r.length 0)) = zeroB r := by
  intro r
  have h : ∀ r : List Int, PyData.eqvAll (r.map PyData.int) ((List.replicate r.length (0 : Int)).map PyData.int) = zeroB r := by
    intro r
    induction r with
    | nil => rfl
    | cons x r ih =>
      unfold zeroB at ih ⊢
      rw [List.length_cons, List.replicate_succ, List.map_cons, List.map_cons, List.all_cons, ← ih]
      simp [PyData.eqvAll, PyData.eqv]
      rfl
  show PyData.eqv (.tuple _) (.tuple _) = _
  rw [← h r]
  simp [PyData.eqv]
theorem shaped_row (r : List Int) : SeqAt.shaped (dRow r) = true := by
  simp [SeqAt.shaped, PyData.canLay0, PyData.depth, PySem.W.ke_canLayAll0, PySem.W.ke_depthAll]
theorem row_eqv2 (xs ys : List Int) : PyData.eqv (dRow xs) (dRow ys) = decide (xs = ys) := by
  have h : ∀ xs ys : List Int, PyData.eqvAll (xs.map PyData.int) (ys.map PyData.int) = decide (xs = ys) := by
    intro xs
    induction xs with
    | nil => intro ys; cases ys <;> simp [PyData.eqvAll]
    | cons x xs ih =>
      intro ys
      cases ys with
      | nil => simp [PyData.eqvAll]
      | cons y ys =>
        rw [List.map_cons, List.map_cons, PyData.eqvAll, ih]
        by_cases h : x = y <;> by_cases g : xs = ys <;> simp [PyData.eqv, h, g]
  show PyData.eqv (.tuple _) (.tuple _) = _
  rw [PyData.eqv]
  exact h xs ys
theorem pack_Lb : ∀ {ll : List (List Int)} {cs : List Int} {j : Nat}, cs.length = ll.length → packI ll cs j = BL.Lb ll (vz cs) j
  | [], [], _, _ => rfl
  | h :: t, c :: cs, j, e => by
    have ih := pack_Lb (ll := t) (cs := cs) (j := j) (by simpa using e)
    show (((c :: cs).zip (h :: t)).map fun q => q.1 * q.2.getD j 0).sum = c * h.getD j 0 + BL.Lb t (BL.sh (vz (c :: cs))) j
    rw [List.zip_cons_cons, List.map_cons, List.sum_cons]
    have e2 : BL.sh (vz (c :: cs)) = vz cs := rfl
    rw [e2, ← ih]
    rfl
  | [], _ :: _, _, e => by cases e
  | _ :: _, [], _, e => by cases e
theorem any_row {rows : List (List Int)} {r : List Int} : (rows.map dRow).any (fun z => PyData.eqv z (dRow r)) = decide (r ∈ rows) := by
  rw [List.any_map]
  by_cases h : r ∈ rows
  · rw [decide_eq_true h, List.any_eq_true]
    exact ⟨r, h, by show PyData.eqv (dRow r) (dRow r) = true; rw [row_eqv2]; exact decide_eq_true rfl⟩
  · rw [decide_eq_false h]
    refine Bool.eq_false_iff.mpr fun z => ?_
    obtain ⟨x, hx, e⟩ := List.any_eq_true.mp z
    have e : PyData.eqv (dRow x) (dRow r) = true := e
    rw [row_eqv2] at e
    exact h (by rw [← of_decide_eq_true e]; exact hx)
end HL

set_option pp.maxSteps 2000
namespace HL
open PySem PySem.Spec PyProof.Rows L2 LamX
open C8 (pss_cut)
open GR (Sys Least Nz EqP Cf Orth Sgn Han Latt pairT trimC Grb Spn Kr backSt kr_latt)
abbrev NL : List Str := ["_law_script", "_law_feed_here", "_law_turn", "_law_lot_here", "_law_bill", "_law_many", "_law_rows", "_law_known", "_law_changes", "_law_at", "_law_step", "_law_change", "_law_both", "_law_later", "_law_row"]
theorem scLaw : FnScope NL ["_law_script"] (defScope sLaw) := ⟨rfl, rfl, rfl, by decide +kernel, rfl, by decide +kernel, by decide +kernel⟩
/-- all that the law takes from the module -/
structure Txt (P : Program) (w : World) (K : PySem.W.Frag) (mg : Str → Option Value) (base : Heap) (Pw : Addr) : Prop where
  B : Bl mg
  feed : Cal P w K mg base CX0 1 "_law_feed" ["_law_script"] (spFeed K)
  so : mg "sorted" = none
  pl : Cal P w K mg base CX0 4 "_law_plain_lot" ["_law_feed_here"] spPlainX
  sb : Cal P w K mg base CX0 2 "_law_small_bill" ["_law_feed_here", "_law_lot_here"] spSmallBill
  hm : Cal P w K mg base CX0 6 "how_many" ["lot", "bill"] spHowMany
  fi : ∃ (f : Addr) (fd : FuncData) (t : Tok), FnOk P w K mg base CX0 6 f fd ["lot", "bill", "most"] spFil ∧ mg "fillings" = some (.ref f) ∧ PySem.W.keepIn K (.ref f) = true ∧ L2.Binds K fd ["lot", "bill", "most"] [.int 400 t]
  gs : Cal P w K mg base CX0 2 "_law_goods" ["_law_lot_here", "_law_counts"] spLGoods
  dr : Cal P w K mg base CX0 1 "_law_draw" ["_law_feed_here", "_law_many"] spDraw
  gr : Cal P w K mg base CX0 7 "ground" ["lot"] (spGround [(Pw, qW)])
  ps : Cal P w K mg base CX0 1 "_law_plus" ["_law_one", "_law_other"] spPlus
  mi : Cal P w K mg base CX0 1 "_law_minus" ["_law_one", "_law_other"] spMinus
/-- the law's turn: what it knows of the heap -/
structure S7 (cf fe : Addr) (T : List (Addr × Str)) (p : Addr) (as : List Addr) (ll : List (List Int)) (H : Hp) : Prop where
  F : FeedAt cf H fe
  T : Tabs T H
  R : RowsAt H p as ll
section
variable {cf fe p : Addr} {T : List (Addr × Str)} {as : List Addr} {ll : List (List Int)} {H H' : Hp}
theorem S7.same (x : S7 cf fe T p as ll H) (s : Same H H') : S7 cf fe T p as ll H' := ⟨x.F.same s, x.T.ext s, x.R.same s⟩
theorem S7.ext (x : S7 cf fe T p as ll H) (s : ExtN H H') (t : Tabs T H') : S7 cf fe T p as ll H' := ⟨x.F.ext s, t, x.R.ext s⟩
theorem S7.kp (x : S7 cf fe T p as ll H) (k : Kp fe H H') (F : FeedAt cf H' fe) : S7 cf fe T p as ll H' := ⟨F, tabs_kp x.T x.F k, x.R.kp x.F k⟩
theorem S7.put (x : S7 cf fe T p as ll H) {l : Addr} {xs ys : List V} (h : H l = some (.lst xs)) (n1 : l ≠ fe) (n2 : l ≠ cf) : S7 cf fe T p as ll (upd H l (.lst ys)) :=
  ⟨x.F.put n1 n2, tabs_list x.T h, ⟨by rw [upd_ne (ne_of x.R.1 h (fun z => by cases z))]; exact x.R.1, x.R.2.lput h⟩⟩
theorem S7.newF (x : S7 cf fe T p as ll H) {l : Addr} (nl : New H l) : l ≠ fe ∧ l ≠ cf := by
  obtain ⟨ns, i, b, m, n, g1, g2, _⟩ := x.F
  exact ⟨fun e => by rw [e] at nl; exact absurd rfl (New.ne nl g1 (fun ps z => by cases z)), fun e => by rw [e] at nl; exact absurd rfl (New.ne nl g2 (fun ps z => by cases z))⟩
end
/-- sorted of a list of rows -/
theorem sortedD_rows {K : PySem.W.Frag} {H : Hp} {Q : VK} {l : Addr} {as : List Addr} {R : List (List Int)} (hl : H l = some (.lst (as.map V.ref))) (hR : Rows H as R) (ne : ∀ r ∈ R, r ≠ []) (nd : R.Nodup)
    (q : ∀ z cs R', H z = none → R'.Perm R → R'.Pairwise (· < ·) → cs.length = R'.length → Rows (upd H z (.lst (cs.map V.ref))) cs R' → Q (.ref z) (upd H z (.lst (cs.map V.ref)))) : rSortedD K [.ref l] H Q := by
  have hrm := rows_map hR
  have hre := rows_each hR
  refine ⟨l, as, fun a => .tuple ((rowF H a).map .int), rfl, SqL.of hl, fun a ha => dq_row (hre a ha).2, ?_, .inl fun d hd => ?_, fun a ha => ?_, fun cs z ecs PM nz => ?_⟩
  · intro d hd d' hd'
    obtain ⟨a, _, rfl⟩ := List.mem_map.mp hd
    obtain ⟨a', _, rfl⟩ := List.mem_map.mp hd'
    exact row_alike _ _
  · obtain ⟨a, ha, rfl⟩ := List.mem_map.mp hd
    have := ne _ (hre a ha).1
    cases e : rowF H a with
    | nil => rw [e] at this; exact absurd rfl this
    | cons x r => exact ⟨.int x, r.map .int, rfl⟩
  · show (PyData.tuple ((rowF H a).map .int)).depth ≤ 4
    rw [row_depth]
    decide
  · have S : cs.Pairwise fun a b => PySem.W.dataLe false (fun a => .tuple ((rowF H a).map .int)) a b = true := by
      rw [ecs]
      exact PySem.W.sort_pairwise (PySem.W.sortLe_total _ _ _) _
    have pR : (cs.map (rowF H)).Perm R := by
      rw [← hrm]
      exact PM.map _
    have rise : (cs.map (rowF H)).Pairwise (· < ·) := by
      have nd2 := pR.nodup_iff.mpr nd
      rw [List.nodup_iff_pairwise_ne, List.pairwise_map] at nd2
      rw [List.pairwise_map]
      have S2 := S
      rw [dataLe_row] at S2
      refine (S2.and nd2).imp fun {a b} h => ?_
      have h1 := of_decide_eq_true h.1
      rcases lt_tot (rowF H a) (rowF H b) with c | c | c
      · exact c
      · exact absurd c h.2
      · exact absurd c h1
    exact q z cs _ nz pR rise (by rw [List.length_map]) ((map_rows fun a ha => (hre a (PM.mem_iff.mp ha)).2).same (same_new nz))
theorem lx_lt : ∀ {x y : List Int}, lx x y → x < y
  | a :: x, c :: y, h => by
    rcases h with h | ⟨e, h⟩
    · exact List.Lex.rel h
    · rw [e]
      exact List.Lex.cons (lx_lt h)
theorem sorted_oneL : ∀ {A B : List (List Int)}, A.Pairwise (· < ·) → B.Pairwise (· < ·) → (∀ x, x ∈ A ↔ x ∈ B) → A = B
  | [], [], _, _, _ => rfl
  | a :: A, [], _, _, h => by
    have := (h a).mp List.mem_cons_self
    cases this
  | [], b :: B, _, _, h => by
    have := (h b).mpr List.mem_cons_self
    cases this
  | a :: A, b :: B, ha, hb, h => by
    obtain ⟨a1, a2⟩ := List.pairwise_cons.mp ha
    obtain ⟨b1, b2⟩ := List.pairwise_cons.mp hb
    have e : a = b := by
      rcases List.mem_cons.mp ((h a).mp List.mem_cons_self) with e | e
      · exact e
      · rcases List.mem_cons.mp ((h b).mpr List.mem_cons_self) with f | f
        · exact f.symm
        · exact absurd (lt_tr (a1 b f) (b1 a e)) (lt_irr a)
    subst e
    refine congrArg _ (sorted_oneL a2 b2 fun x => ⟨fun hx => ?_, fun hx => ?_⟩)
    · rcases List.mem_cons.mp ((h x).mp (List.mem_cons_of_mem _ hx)) with e | e
      · rw [e] at hx
        exact absurd (a1 a hx) (lt_irr a)
      · exact e
    · rcases List.mem_cons.mp ((h x).mpr (List.mem_cons_of_mem _ hx)) with e | e
      · rw [e] at hx
        exact absurd (b1 a hx) (lt_irr a)
      · exact e
theorem box_few {b : List Int} {w : Nat} (hl : b.length = w) (w1 : 1 ≤ w) (w3 : w ≤ 3) (hb : ∀ n ∈ b, 0 ≤ n ∧ n < limW w) : boxI b ≤ 64 ∧ b.sum ≤ 12 := by
  have c : w = 1 ∨ w = 2 ∨ w = 3 := by omega
  rcases c with e | e | e
  · rw [e] at hl hb
    match b, hl with
    | [x], _ =>
      have := hb x List.mem_cons_self
      have l : limW 1 = 13 := rfl
      rw [l] at this
      exact ⟨by show 1 * (x + 1) ≤ 64; omega, by show x + 0 ≤ 12; omega⟩
  · rw [e] at hl hb
    match b, hl with
    | [x, y], _ =>
      have h1 := hb x List.mem_cons_self
      have h2 := hb y (List.mem_cons_of_mem _ List.mem_cons_self)
      have l : limW 2 = 6 := rfl
      rw [l] at h1 h2
      refine ⟨?_, by show x + (y + 0) ≤ 12; omega⟩
      show 1 * (x + 1) * (y + 1) ≤ 64
      have : 1 * (x + 1) * (y + 1) ≤ 6 * (y + 1) := Int.mul_le_mul_of_nonneg_right (by omega) (by omega)
      omega
  · rw [e] at hl hb
    match b, hl with
    | [x, y, z], _ =>
      have h1 := hb x List.mem_cons_self
      have h2 := hb y (List.mem_cons_of_mem _ List.mem_cons_self)
      have h3 := hb z (List.mem_cons_of_mem _ (List.mem_cons_of_mem _ List.mem_cons_self))
      have l : limW 3 = 4 := rfl
      rw [l] at h1 h2 h3
      refine ⟨?_, by show x + (y + (z + 0)) ≤ 12; omega⟩
      show 1 * (x + 1) * (y + 1) * (z + 1) ≤ 64
      have a1 : 1 * (x + 1) * (y + 1) ≤ 4 * (y + 1) := Int.mul_le_mul_of_nonneg_right (by omega) (by omega)
      have a2 : 1 * (x + 1) * (y + 1) * (z + 1) ≤ 16 * (z + 1) := Int.mul_le_mul_of_nonneg_right (by omega) (by omega)
      omega
/-- what the law has found, and what it has looked at -/
structure KN (ll : List (List Int)) (b : List Int) (R known : List (List Int)) (a : Nat) : Prop where
  sub : ∀ u ∈ known, Comes ll u b
  nd : known.Nodup
  ne : known ≠ []
  le : a ≤ known.length
  cl : ∀ i u, i < a → known[i]? = some u → ∀ r ∈ R, ∀ s : Int, (s = 1 ∨ s = -1) → Comes ll (subR u r s) b → subR u r s ∈ known
/-- in the midst of one row: what is seen of it -/
structure KI (ll : List (List Int)) (b : List Int) (known don kn' : List (List Int)) : Prop where
  sub : ∀ u ∈ kn', Comes ll u b
  nd : kn'.Nodup
  pre : ∃ more, kn' = known ++ more
  cl : ∀ x ∈ don, Comes ll x b → x ∈ kn'
theorem KI.start {ll R known : List (List Int)} {b : List Int} {a : Nat} (N : KN ll b R known a) : KI ll b known [] known := ⟨N.sub, N.nd, ⟨[], (List.append_nil _).symm⟩, fun x hx => by cases hx⟩
theorem KI.skip {ll known don kn' : List (List Int)} {b x : List Int} (I : KI ll b known don kn') (h : Comes ll x b → x ∈ kn') : KI ll b known (don ++ [x]) kn' :=
  ⟨I.sub, I.nd, I.pre, fun y hy hc => by
    rcases List.mem_append.mp hy with q | q
    · exact I.cl y q hc
    · rw [List.mem_singleton.mp q] at hc ⊢
      exact h hc⟩
theorem KI.add {ll known don kn' : List (List Int)} {b x : List Int} (I : KI ll b known don kn') (h : Comes ll x b) (n : x ∉ kn') : KI ll b known (don ++ [x]) (kn' ++ [x]) := by
  obtain ⟨more, e⟩ := I.pre
  refine ⟨fun u hu => ?_, ?_, ⟨more ++ [x], by rw [e, List.append_assoc]⟩, fun y hy hc => ?_⟩
  · rcases List.mem_append.mp hu with q | q
    · exact I.sub u q
    · rw [List.mem_singleton.mp q]; exact h
  · refine List.nodup_append.mpr ⟨I.nd, List.nodup_cons.mpr ⟨(fun z => by cases z), List.nodup_nil⟩, fun a ha c hc z => ?_⟩
    rw [List.mem_singleton.mp hc] at z
    exact n (z ▸ ha)
  · rcases List.mem_append.mp hy with q | q
    · exact List.mem_append_left _ (I.cl y q hc)
    · exact List.mem_append_right _ q
def donR (u : List Int) (R : List (List Int)) (i : Nat) : List (List Int) := (R.take i).flatMap fun r => [subR u r (-1), subR u r 1]
theorem donR_more {u r : List Int} {R : List (List Int)} {i : Nat} (h : R[i]? = some r) : donR u R (i + 1) = donR u R i ++ [subR u r (-1)] ++ [subR u r 1] := by
  unfold donR
  rw [List.take_add_one, h, List.flatMap_append, List.append_assoc]
  rfl
theorem KI.done {ll R known kn' : List (List Int)} {b u : List Int} {a : Nat} (N : KN ll b R known a) (hu : known[a]? = some u) (I : KI ll b known (donR u R R.length) kn') : KN ll b R kn' (a + 1) := by
  obtain ⟨more, e⟩ := I.pre
  have ha := (List.getElem?_eq_some_iff.mp hu).1
  have up : ∀ i x, i < known.length → kn'[i]? = some x → known[i]? = some x := fun i x hi h => by
    rw [e, List.getElem?_append_left hi] at h
    exact h
  refine ⟨I.sub, I.nd, fun z => N.ne ?_, by rw [e, List.length_append]; omega, fun i x hi hx r hr s hs hc => ?_⟩
  · rw [e] at z
    exact (List.append_eq_nil_iff.mp z).1
  · have hx' := up i x (by omega) hx
    by_cases c : i < a
    · rw [e]
      exact List.mem_append_left _ (N.cl i x c hx' r hr s hs hc)
    · have : i = a := by omega
      rw [this, hu] at hx'
      cases Option.some.inj hx'
      refine I.cl _ (List.mem_flatMap.mpr ⟨r, by rw [List.take_length]; exact hr, ?_⟩) hc
      rcases hs with q | q <;> rw [q]
      · exact List.mem_cons_of_mem _ List.mem_cons_self
      · exact List.mem_cons_self
theorem KN.all {ll R known : List (List Int)} {b : List Int} {g : Nat} (A : GR.Lo ll g R) (hb : b.length = g) (N : KN ll b R known known.length) : ∀ v, Comes ll v b → v ∈ known := fun v hv => by
  obtain ⟨u, hu⟩ : ∃ u, u ∈ known := by
    cases e : known with
    | nil => exact absurd e N.ne
    | cons x xs => exact ⟨x, List.mem_cons_self⟩
  refine GR.all_led A hb (S := fun x => x ∈ known) (fun x hx r hr s hs hc => ?_) hv _ u (Nat.le_refl _) (N.sub u hu) hu
  obtain ⟨i, hi, e⟩ := List.mem_iff_getElem.mp hx
  exact N.cl i x hi (by rw [List.getElem?_eq_getElem hi, e]) r hr s hs hc
theorem few_nd {known rows : List (List Int)} (nd : known.Nodup) (sub : ∀ x ∈ known, x ∈ rows) : known.length ≤ rows.length := GR.nd_len nd sub
theorem sum0_nil {ll : List (List Int)} {b : List Int} (h : Comes ll [] b) (n : 1 ≤ ll.length) : False := by
  have := comes_len h
  simp at this
  omega
theorem KI.few {ll known don kn' : List (List Int)} {b : List Int} {g : Nat} (hk : ∀ h ∈ ll, Kd g h) (hb : b.length = g) (I : KI ll b known don kn') : kn'.length ≤ cnt ll b := by
  rw [← fils_len]
  exact few_nd I.nd fun x hx => (fils_mem hk hb).mpr (I.sub x hx)
/-- the law's heap while it leads on -/
structure BF (cf fe : Addr) (T : List (Addr × Str)) (p : Addr) (as : List Addr) (ll : List (List Int)) (l : Addr) (ra : List Addr) (F : List (List Int)) (ch : Addr) (ca : List Addr) (R : List (List Int)) (kn : Addr) (ka : List Addr) (known : List (List Int)) (H : Hp) : Prop where
  S : S7 cf fe T p as ll H
  hl : H l = some (.lst (ra.map V.ref))
  hF : Rows H ra F
  hc : H ch = some (.lst (ca.map V.ref))
  hR : Rows H ca R
  hk : H kn = some (.lst (ka.map V.ref))
  hK : Rows H ka known
  n1 : kn ≠ fe
  n2 : kn ≠ cf
  n3 : l ≠ kn
  n4 : ch ≠ kn
section
variable {cf fe p l ch kn : Addr} {T : List (Addr × Str)} {as ra ca ka : List Addr} {ll F R known : List (List Int)} {H H' : Hp}
theorem BF.same (x : BF cf fe T p as ll l ra F ch ca R kn ka known H) (s : Same H H') : BF cf fe T p as ll l ra F ch ca R kn ka known H' :=
  ⟨x.S.same s, s _ _ x.hl, x.hF.same s, s _ _ x.hc, x.hR.same s, s _ _ x.hk, x.hK.same s, x.n1, x.n2, x.n3, x.n4⟩
theorem BF.more (x : BF cf fe T p as ll l ra F ch ca R kn ka known H) {c : Addr} {r : List Int} (hr : IntsAt H c r) : BF cf fe T p as ll l ra F ch ca R kn (ka ++ [c]) (known ++ [r]) (upd H kn (.lst ((ka ++ [c]).map V.ref))) := by
  refine ⟨x.S.put x.hk x.n1 x.n2, by rw [upd_ne x.n3]; exact x.hl, x.hF.lput x.hk, by rw [upd_ne x.n4]; exact x.hc, x.hR.lput x.hk, upd_same, (x.hK.lput x.hk).app ⟨?_, True.intro⟩, x.n1, x.n2, x.n3, x.n4⟩
  show upd H kn _ c = _
  rw [upd_ne (ne_of hr x.hk (fun z => by cases z))]
  exact hr
end
theorem goods_bill {ll : List (List Int)} {b c : List Int} (hk : ∀ h ∈ ll, Kd (width ll) h) (hb : b.length = width ll) (hc : Comes ll c b) : goodsI ll c = b := by
  obtain ⟨h1, _, h3⟩ := (GR.comes_vz hk hb).mp hc
  have l1 : (goodsI ll c).length = width ll := by unfold goodsI; rw [List.length_map, List.length_range]
  refine GR.row_same (by omega) fun i => ?_
  by_cases hi : i < width ll
  · rw [h3 i]
    unfold goodsI
    rw [List.getD_eq_getElem?_getD, List.getElem?_map, List.getElem?_range hi]
    exact pack_Lb h1
  · rw [GR.far_row (by omega), GR.far_row (by omega)]
theorem eqv_rows : ∀ A : List (List Int), PyData.eqv (.list (A.map dRow)) (.list (A.map dRow)) = true := fun A => by
  have h : ∀ A : List (List Int), PyData.eqvAll (A.map dRow) (A.map dRow) = true := fun A => by
    induction A with
    | nil => simp [PyData.eqvAll]
    | cons r A ih =>
      show PyData.eqvAll (dRow r :: A.map dRow) (dRow r :: A.map dRow) = true
      rw [PyData.eqvAll, row_eqv2, ih, decide_eq_true rfl]
      rfl
  rw [PyData.eqv]
  exact h A
section
variable {P : Program} {w : World} {K : PySem.W.Frag} {mg : Str → Option Value} {base : Heap}
def spLaw (K : PySem.W.Frag) (Pw : Addr) : Sp := fun vs H Q _ => ∃ (a : Addr) (ns : List Int), vs = [.ref a] ∧ SqL K H a (ns.map V.int) ∧ ns.length ≤ 63 ∧ Tabs [(Pw, qW)] H ∧ ∀ H', Q (.bl true) H'
theorem ok_law {f Pw : Addr} {fd : FuncData} (F : Fun K "law" "law" sLaw f fd) (T : Txt P w K mg base Pw) : FnOk P w K mg base CX0 8 f fd ["_law_script"] (spLaw K Pw) := by
  have B := T.B
  obtain ⟨fF, fdF, GF, gF, kF, bF⟩ := T.feed.ex
  have mSo := T.so
  obtain ⟨fPl, fdPl, GPl, gPl, kPl, bPl⟩ := T.pl.ex
  obtain ⟨fSb, fdSb, GSb, gSb, kSb, bSb⟩ := T.sb.ex
  obtain ⟨fHm, fdHm, GHm, gHm, kHm, bHm⟩ := T.hm.ex
  obtain ⟨fFi, fdFi, tFi, GFi, gFi, kFi, bFi⟩ := T.fi
  obtain ⟨fGs, fdGs, GGs, gGs, kGs, bGs⟩ := T.gs.ex
  obtain ⟨fD, fdD, GD, gD, kD, bD⟩ := T.dr.ex
  obtain ⟨fGr, fdGr, GGr, gGr, kGr, bGr⟩ := T.gr.ex
  obtain ⟨fPs, fdPs, GPs, gPs, kPs, bPs⟩ := T.ps.ex
  obtain ⟨fMi, fdMi, GMi, gMi, kMi, bMi⟩ := T.mi.ex
  refine F.ok scLaw (fun vs H Q E h => ?_) fun cdv A outer s H vs Q E hr h => ?_
  · obtain ⟨a, ns, rfl, _⟩ := h
    rfl
  · obtain ⟨a, ns, rfl, hS, hlen, hT, q⟩ := h
    have hu := hr.un
    refine ⟨_, (pss_cons (ps_set (i := 1) scLaw.nd rfl (.inl rfl) (pe_call GF (hr.mono (by decide)) (by rfl) gF kF bF .nil pass0 (pa_cons (pv 0) pa_nil)))
      (pss_cons (ps_for PassesOwn.never rfl (pi_range1 (by rfl) B.range (pa_cons pe_int pa_nil)) (pg_name (i := 2) scLaw.nd rfl (.inl rfl))
      (pss_cut (ps_set (i := 3) scLaw.nd rfl (.inr rfl) (pe_call GPl (hr.mono (by decide)) (by rfl) gPl kPl bPl .nil pass0 (pa_cons (pv 1) pa_nil)))
      (pss_cut (ps_set (i := 4) scLaw.nd rfl (.inr rfl) (pe_call GSb (hr.mono (by decide)) (by rfl) gSb kSb bSb .nil pass0 (pa_cons (pv 1) (pa_cons (pv 3) pa_nil))))
      (pss_cut (ps_set (i := 5) scLaw.nd rfl (.inl rfl) (pe_call GHm (hr.mono (by decide)) (by rfl) gHm kHm bHm .nil pass0 (pa_cons (pv 3) (pa_cons (pv 4) pa_nil))))
      (pss_cut (ps_if (pt_cmpR op_gt (pv 5) pe_int (nomark _)) (pss_one ps_continue) pss_nil)
      (pss_cut (ps_set (i := 6) scLaw.nd rfl (.inl rfl) (pe_call GFi (hr.mono (by decide)) (by rfl) gFi kFi bFi (show Vals [V.int 400] [Value.int 400 tFi] from .cons ⟨_, rfl⟩ .nil) pass0 (pa_cons (pv 3) (pa_cons (pv 4) pa_nil))))
      (pss_cut (ps_if (PW.pt (pw_or (pt_cmpR op_ne (pe_callB call_len_seq (by rfl) B.len PySem.boot_len (pa_cons (pv 6) pa_nil)) (pv 5) (nomark _)) (pw_or1 (pt_not (pt_val (pe_callB (cr_all rfl) (by rfl) B.all (by decide +kernel) (pa_cons (pe_lc (own := [("_law_row", 14)]) (g := gName 14) (tt := tYes) (te := (tOp (rI0 fun i j => .bl (decide (j ≤ i))) (tCB (rMinT K) (tCons (tVar 14) tNil)) (tC (.int 0)))) rfl scLaw.nd (pi_list (pv 6))
        (blkOk_by (own := [("_law_row", 14)]) (N := NL) (sc := defScope sLaw) (by decide +kernel)) (fun _ _ _ _ _ => pg_name (i := 14) scLaw.nd rfl (Or.inl rfl)) (fun _ _ _ _ _ => pts_nil)
        (fun _ _ _ _ _ => (pe_cmpR op_ge (pe_callB (cr_minT rfl hr.units) (by rfl) B.min (by decide +kernel) (pa_cons (pv 14) pa_nil)) pe_int (nomark _)))) pa_nil))))))) pss_never pss_nil)
      (pss_cut (ps_if (pt_not (pt_val (pe_callB (cr_all rfl) (by rfl) B.all (by decide +kernel) (pa_cons (pe_lc (own := [("_law_row", 14)]) (g := gName 14) (tt := tYes) (te := (tOp (rEqD K) (tCall spLGoods [] E0 (tCons (tVar 3) (tCons (tVar 14) tNil))) (tVar 4))) rfl scLaw.nd (pi_list (pv 6))
        (blkOk_by (own := [("_law_row", 14)]) (N := NL) (sc := defScope sLaw) (by decide +kernel)) (fun _ _ _ _ _ => pg_name (i := 14) scLaw.nd rfl (Or.inl rfl)) (fun _ _ _ _ _ => pts_nil)
        (fun _ _ _ _ _ => (pe_cmpR (op_eqD hr.units) (pe_call GGs (hr.mono (by decide)) (by rfl) gGs kGs bGs .nil pass0 (pa_cons (pv 3) (pa_cons (pv 14) pa_nil))) (pv 4) (nomark _)))) pa_nil)))) pss_never pss_nil)
      (pss_cut (ps_if (pt_cmpR (op_eqD hr.units) (pv 6) (pe_lst pa_nil) (nomark _)) (pss_one ps_continue) pss_nil)
      (pss_cut (ps_set (i := 7) scLaw.nd rfl (.inl rfl) (pe_lst (pa_cons (pe_ix ix_list (pv 6) (pe_call GD (hr.mono (by decide)) (by rfl) gD kD bD .nil pass0 (pa_cons (pv 1) (pa_cons (pe_callB call_len_seq (by rfl) B.len PySem.boot_len (pa_cons (pv 6) pa_nil)) pa_nil))) (fun _ _ => rfl)) pa_nil)))
      (pss_cut (ps_set (i := 8) scLaw.nd rfl (.inl rfl) (pe_call GGr (hr.mono (by decide)) (by rfl) gGr kGr bGr .nil pass0 (pa_cons (pv 3) pa_nil)))
      (pss_cut (ps_set (i := 9) scLaw.nd rfl (.inl rfl) pe_int)
      (pss_cut (ps_for PassesOwn.never rfl (pi_range1 (by rfl) B.range (pa_cons pe_int pa_nil)) (pg_name (i := 10) scLaw.nd rfl (.inl rfl))
      (pss_one (ps_if (pt_cmpR op_lt (pv 9) (pe_callB call_len_seq (by rfl) B.len PySem.boot_len (pa_cons (pv 7) pa_nil)) (nomark _)) (pss_cons (ps_for PassesOwn.never rfl (pi_list (pv 8)) (pg_name (i := 11) scLaw.nd rfl (.inl rfl))
      (pss_cons (ps_set (i := 12) scLaw.nd rfl (.inl rfl) (pe_lst (pa_cons (pe_call GPs (hr.mono (by decide)) (by rfl) gPs kPs bPs .nil pass0 (pa_cons (pe_ix ix_list (pv 7) (pv 9) (fun _ _ => rfl)) (pa_cons (pv 11) pa_nil))) pa_nil)))
      (pss_cons (ps_expr (pe_bm PySem.F.plainAttrs_list PySem.F.slot_list_append PySem.F.type_list_append mt_append (pv 12) (pa_cons (pe_call GMi (hr.mono (by decide)) (by rfl) gMi kMi bMi .nil pass0 (pa_cons (pe_ix ix_list (pv 7) (pv 9) (fun _ _ => rfl)) (pa_cons (pv 11) pa_nil))) pa_nil)))
      (pss_one (ps_for PassesOwn.never rfl (pi_list (pv 12)) (pg_name (i := 13) scLaw.nd rfl (.inl rfl))
      (pss_one (ps_if (PW.pt (pw_and (pt_cmpR op_ge (pe_callB (cr_minT rfl hr.units) (by rfl) B.min (by decide +kernel) (pa_cons (pv 13) pa_nil)) pe_int (nomark _)) (pw_and1 (pt_cmpR (op_notInD (Nat.lt_of_le_of_lt (Nat.add_le_add_left (by decide) _) hu)) (pv 13) (pv 7) (by rfl))))) (pss_one (ps_expr (pe_bm PySem.F.plainAttrs_list PySem.F.slot_list_append PySem.F.type_list_append mt_append (pv 7) (pa_cons (pv 13) pa_nil)))) pss_nil)))))))
      (pss_one (ps_set (i := 9) scLaw.nd rfl (.inl rfl) (pe_op op_add (pv 9) pe_int)))) pss_nil)))
      (pss_one (ps_if (pt_cmpR (op_neD hr.units) (pe_callB (cr_sortedD hr) (by rfl) mSo (by decide +kernel) (pa_cons (pv 7) pa_nil)) (pv 6) (nomark _)) pss_never pss_nil)))))))))))))))
      (pss_one (ps_ret pe_bl)))), ?_⟩
    refine ⟨.ref a, rfl, a, ns, rfl, hS, hlen, fun H1 fe cf s1 nf F1 => ?_⟩
    refine ⟨2, rfl, by decide, by decide, ?_⟩
    refine for_range (lo := 0) (n := 2) (fun i σ' H' => (∃ y2 y3 y4 y5 y6 y7 y8 y9 y10 y11 y12 y13, σ' = [some (.ref a), some (.ref fe), y2, y3, y4, y5, y6, y7, y8, y9, y10, y11, y12, y13, none]) ∧ FeedAt cf H' fe ∧ Tabs [(Pw, qW)] H')
      ⟨⟨_, _, _, _, _, _, _, _, _, _, _, _, rfl⟩, F1, hT.ext s1⟩ (fun i σ H2 hi hI => ?_) (fun σ H2 _ => q H2)
    obtain ⟨⟨y2, y3, y4, y5, y6, y7, y8, y9, y10, y11, y12, y13, rfl⟩, F2, T2⟩ := hI
    -- the lot
    refine ⟨fun σ' H' => ∃ (p : Addr) (as : List Addr) (ll : List (List Int)), (∃ y2 y4 y5 y6 y7 y8 y9 y10 y11 y12 y13, σ' = [some (.ref a), some (.ref fe), y2, some (.ref p), y4, y5, y6, y7, y8, y9, y10, y11, y12, y13, none]) ∧ S7 cf fe [(Pw, qW)] p as ll H' ∧ PlainG ll, ?_, ?_⟩
    · refine ⟨.ref fe, rfl, fe, cf, rfl, F2, fun H3 p ll k3 F3 ⟨as, hp, hR⟩ sl => ?_⟩
      exact ⟨p, as, ll, ⟨_, _, _, _, _, _, _, _, _, _, _, rfl⟩, ⟨F3, tabs_kp T2 F2 k3, ⟨hp, hR⟩⟩, sl⟩
    clear F2 T2
    rintro σ' H3 ⟨p, as, ll, ⟨y2, y4, y5, y6, y7, y8, y9, y10, y11, y12, y13, rfl⟩, X3, pl⟩
    have sl := plain_small pl
    obtain ⟨ef, SL⟩ := small_ok sl
    obtain ⟨n1, n4⟩ := small_width sl
    have hok := flaw_ok ef
    have hkd := flaw_kd ef
    have hlen0 := X3.R.2.len
    -- the bill
    refine ⟨fun σ' H' => ∃ (bl : Addr) (b : List Int), (∃ y2 y5 y6 y7 y8 y9 y10 y11 y12 y13, σ' = [some (.ref a), some (.ref fe), y2, some (.ref p), some (.ref bl), y5, y6, y7, y8, y9, y10, y11, y12, y13, none]) ∧ S7 cf fe [(Pw, qW)] p as ll H' ∧ IntsAt H' bl b ∧ b.length = width ll ∧ (∀ n ∈ b, 0 ≤ n ∧ n < limW (width ll)), ?_, ?_⟩
    · refine ⟨.ref fe, rfl, .ref p, rfl, nilA ⟨fe, cf, p, as, ll, rfl, X3.F, X3.R, n1, by omega, by omega, fun H4 t b k4 F4 hb el hz => ?_⟩⟩
      exact ⟨t, b, ⟨_, _, _, _, _, _, _, _, _, _, rfl⟩, X3.kp k4 F4, hb, el, hz⟩
    clear X3
    rintro σ' H4 ⟨bl, b, ⟨y2, y5, y6, y7, y8, y9, y10, y11, y12, y13, rfl⟩, X4, hb, el, hz⟩
    obtain ⟨bx, bs⟩ := box_few el (by omega) (by omega) hz
    have h30 : ∀ n ∈ b, 0 ≤ n ∧ n < G30 := fun n hn => by
      have h1 := hz n hn
      have h2 : limW (width ll) ≤ 13 := by unfold limW; split <;> first | decide | (split <;> decide)
      exact ⟨h1.1, Int.lt_of_lt_of_le h1.2 (Int.le_trans h2 (by decide))⟩
    have hmem : ∀ u, u ∈ fils ll b ↔ Comes ll u b := fun u => fils_mem hkd el
    have hcnt : (fils ll b).length = cnt ll b := fils_len _ _
    -- how many
    refine ⟨fun σ' H' => (∃ y2 y6 y7 y8 y9 y10 y11 y12 y13, σ' = [some (.ref a), some (.ref fe), y2, some (.ref p), some (.ref bl), some (.int (cnt ll b : Nat)), y6, y7, y8, y9, y10, y11, y12, y13, none]) ∧ Same H4 H', ?_, ?_⟩
    · refine ⟨.ref p, rfl, .ref bl, rfl, nilA ⟨p, bl, as, ll, b, rfl, X4.R, ef, hb, el, h30, by omega, fun H5 s5 => ?_⟩⟩
      exact ⟨⟨_, _, _, _, _, _, _, _, _, rfl⟩, s5⟩
    rintro σ' H5 ⟨⟨y2, y6, y7, y8, y9, y10, y11, y12, y13, rfl⟩, s5⟩
    have X5 := X4.same s5
    replace hb := hb.same s5
    clear X4 s5
    -- too many
    refine ⟨fun σ' H' => (∃ y2 y6 y7 y8 y9 y10 y11 y12 y13, σ' = [some (.ref a), some (.ref fe), y2, some (.ref p), some (.ref bl), some (.int (cnt ll b : Nat)), y6, y7, y8, y9, y10, y11, y12, y13, none]) ∧ H' = H5 ∧ cnt ll b ≤ 150, ?_, ?_⟩
    · refine ⟨.int (cnt ll b : Nat), rfl, _, 150, rfl, rfl, _, rfl, ite2 (fun c1 => ?_) (fun c1 => ?_)⟩
      · exact ⟨⟨_, _, _, _, _, _, _, _, _, _, _, _, rfl⟩, X5.F, X5.T⟩
      · refine ⟨⟨_, _, _, _, _, _, _, _, _, rfl⟩, rfl, ?_⟩
        have : ¬ (150 : Int) < (cnt ll b : Nat) := fun z => c1 (decide_eq_true z)
        omega
    rintro σ' H' ⟨⟨y2, y6, y7, y8, y9, y10, y11, y12, y13, rfl⟩, eH, few⟩
    subst H'
    -- the fillings
    refine ⟨fun σ' H' => ∃ (l : Addr) (ra : List Addr), (∃ y2 y7 y8 y9 y10 y11 y12 y13, σ' = [some (.ref a), some (.ref fe), y2, some (.ref p), some (.ref bl), some (.int (cnt ll b : Nat)), some (.ref l), y7, y8, y9, y10, y11, y12, y13, none]) ∧ Same H5 H' ∧ H' l = some (.lst (ra.map V.ref)) ∧ Rows H' ra (fils ll b) ∧ H5 l = none, ?_, ?_⟩
    · refine ⟨.ref p, rfl, .ref bl, rfl, nilA ⟨p, bl, as, ll, b, 400, rfl, X5.R, ef, hb, by omega, el, h30, by omega, by omega, by omega, by omega, fun H6 l ca s6 nl hl hR => ?_⟩⟩
      exact ⟨l, ca, ⟨_, _, _, _, _, _, _, _, rfl⟩, s6, hl, hR, nl⟩
    rintro σ' H6 ⟨l, ra, ⟨y2, y7, y8, y9, y10, y11, y12, y13, rfl⟩, s6, hl, hF, nl⟩
    have X6 := X5.same s6
    replace hb := hb.same s6
    have nlf := X5.newF (New.of nl)
    clear X5 s6
    have hal := hF.len
    -- none below 0
    refine ⟨fun σ' H' => (∃ y2 y7 y8 y9 y10 y11 y12 y13, σ' = [some (.ref a), some (.ref fe), y2, some (.ref p), some (.ref bl), some (.int (cnt ll b : Nat)), some (.ref l), y7, y8, y9, y10, y11, y12, y13, none]) ∧ Same H6 H', ?_, ?_⟩
    · refine ⟨.ref l, rfl, l, _, rfl, .inl (SqL.of hl), .int (cnt ll b : Nat), rfl, rfl, _, rfl, ?_⟩
      rw [List.length_map, hal, hcnt, decide_eq_true rfl]
      refine iteF ?_
      refine ⟨.ref l, rfl, l, rfl, ⟨_, SqL.of hl⟩, fun D nD => ?_⟩
      refine lc_list (K := K) (a := l) (xs := ra.map V.ref) (fun i H' => Same H6 H' ∧ H' D = some (.lst ((List.replicate i true).map V.bl))) ⟨same_new nD, upd_same⟩ (fun i H' _ hP => SqL.of (hP.1 _ _ hl)) (fun i x H' hx ⟨sj, hD⟩ => ?_) (fun H' ⟨sj, hD⟩ => ?_)
      · obtain ⟨c, hc, rfl⟩ := refAt hx
        obtain ⟨r, hr1, hr2⟩ := (hF.same sj).at hc
        have hr2 : IntsAt H' c r := hr2
        have hrm := (hmem r).mp (List.mem_of_getElem? hr1)
        have hil := (List.getElem?_eq_some_iff.mp hr1).1
        refine ⟨rfl, yes (iteT ?_)⟩
        refine ⟨.ref c, rfl, c, r, rfl, SqT.of hr2, by rw [comes_len hrm]; omega, fun m m1 m2 => ?_⟩
        refine ⟨m, 0, rfl, rfl, ?_⟩
        dsimp only
        rw [decide_eq_true (show (0 : Int) ≤ m from comes_nn hrm m m1)]
        refine ⟨_, hD, ?_, same_late sj nD, ?_⟩
        · rw [List.length_map, List.length_replicate]
          exact Nat.lt_of_le_of_lt (show i ≤ 10000 by omega) (by decide)
        · rw [upd_same, List.replicate_succ', List.map_append]
          rfl
      · have e : (List.replicate (ra.map V.ref).length true).all id = true := List.all_eq_true.mpr fun x hx => List.eq_of_mem_replicate hx
        refine ⟨D, _, rfl, SqL.of hD, ?_⟩
        rw [e]
        exact ⟨_, rfl, iteF ⟨⟨_, _, _, _, _, _, _, _, rfl⟩, sj⟩⟩
    rintro σ' H7 ⟨⟨y2, y7, y8, y9, y10, y11, y12, y13, rfl⟩, s7⟩
    have X7 := X6.same s7
    replace hb := hb.same s7
    replace hl := s7 _ _ hl
    replace hF := hF.same s7
    clear X6 s7
    -- each comes to the bill
    refine ⟨fun σ' H' => (∃ y2 y7 y8 y9 y10 y11 y12 y13, σ' = [some (.ref a), some (.ref fe), y2, some (.ref p), some (.ref bl), some (.int (cnt ll b : Nat)), some (.ref l), y7, y8, y9, y10, y11, y12, y13, none]) ∧ Same H7 H', ?_, ?_⟩
    · refine ⟨.ref l, rfl, l, rfl, ⟨_, SqL.of hl⟩, fun D nD => ?_⟩
      refine lc_list (K := K) (a := l) (xs := ra.map V.ref) (fun i H' => Same H7 H' ∧ H' D = some (.lst ((List.replicate i true).map V.bl))) ⟨same_new nD, upd_same⟩ (fun i H' _ hP => SqL.of (hP.1 _ _ hl)) (fun i x H' hx ⟨sj, hD⟩ => ?_) (fun H' ⟨sj, hD⟩ => ?_)
      · obtain ⟨c, hc, rfl⟩ := refAt hx
        obtain ⟨r, hr1, hr2⟩ := (hF.same sj).at hc
        have hr2 : IntsAt H' c r := hr2
        have hrm := (hmem r).mp (List.mem_of_getElem? hr1)
        have hil := (List.getElem?_eq_some_iff.mp hr1).1
        refine ⟨rfl, yes (iteT ?_)⟩
        refine ⟨.ref p, rfl, .ref c, rfl, nilA ⟨p, c, as, ll, r, rfl, X7.R.same sj, ef, hr2, comes_len hrm, fun H8 t s8 ht => ?_⟩⟩
        refine ⟨.ref bl, rfl, dRow (goodsI ll r), dRow b, dp_rowK ht, dp_rowK ((hb.same sj).same s8), shaped_row _, shaped_row _, ?_⟩
        rw [row_eqv2, decide_eq_true (goods_bill hkd el hrm)]
        refine ⟨_, s8 _ _ hD, ?_, same_late (sj.trans s8) nD, ?_⟩
        · rw [List.length_map, List.length_replicate]
          exact Nat.lt_of_le_of_lt (show i ≤ 10000 by omega) (by decide)
        · rw [upd_same, List.replicate_succ', List.map_append]
          rfl
      · have e : (List.replicate (ra.map V.ref).length true).all id = true := List.all_eq_true.mpr fun x hx => List.eq_of_mem_replicate hx
        refine ⟨D, _, rfl, SqL.of hD, ?_⟩
        rw [e]
        exact ⟨_, rfl, iteF ⟨⟨_, _, _, _, _, _, _, _, rfl⟩, sj⟩⟩
    rintro σ' H8 ⟨⟨y2, y7, y8, y9, y10, y11, y12, y13, rfl⟩, s8⟩
    have X8 := X7.same s8
    replace hb := hb.same s8
    replace hl := s8 _ _ hl
    replace hF := hF.same s8
    clear X7 s8
    -- none at all
    refine ⟨fun σ' H' => (∃ y2 y7 y8 y9 y10 y11 y12 y13, σ' = [some (.ref a), some (.ref fe), y2, some (.ref p), some (.ref bl), some (.int (cnt ll b : Nat)), some (.ref l), y7, y8, y9, y10, y11, y12, y13, none]) ∧ Same H8 H' ∧ fils ll b ≠ [], ?_, ?_⟩
    · refine ⟨.ref l, rfl, (by show 0 ≤ sizeLine; decide), fun e ne => ?_⟩
      have se := same_new (o := .lst []) ne
      refine ⟨.list ((fils ll b).map dRow), .list [], .lst (SqL.of (se _ _ hl)) (dp_rowsK (hF.same se)), .lst (SqL.of upd_same) .nil, shaped_rows _, rfl, ?_⟩
      rw [eqv_rnil]
      refine ⟨_, rfl, ite2 (fun c1 => ?_) (fun c1 => ?_)⟩
      · have X9 := X8.same se
        exact ⟨⟨_, _, _, _, _, _, _, _, _, _, _, _, rfl⟩, X9.F, X9.T⟩
      · exact ⟨⟨_, _, _, _, _, _, _, _, rfl⟩, se, fun z => c1 (decide_eq_true z)⟩
    rintro σ' H9 ⟨⟨y2, y7, y8, y9, y10, y11, y12, y13, rfl⟩, s9, hne⟩
    have X9 := X8.same s9
    replace hb := hb.same s9
    replace hl := s9 _ _ hl
    replace hF := hF.same s9
    clear X8 s9
    have lpos : 0 < (fils ll b).length := List.length_pos_iff.mpr hne
    -- one of them
    refine ⟨fun σ' H' => ∃ (kn c : Addr) (u : List Int), (∃ y2 y8 y9 y10 y11 y12 y13, σ' = [some (.ref a), some (.ref fe), y2, some (.ref p), some (.ref bl), some (.int (cnt ll b : Nat)), some (.ref l), some (.ref kn), y8, y9, y10, y11, y12, y13, none]) ∧ S7 cf fe [(Pw, qW)] p as ll H' ∧ H' l = some (.lst (ra.map V.ref)) ∧ Rows H' ra (fils ll b) ∧ H' kn = some (.lst ([c].map V.ref)) ∧ IntsAt H' c u ∧ u ∈ fils ll b ∧ kn ≠ fe ∧ kn ≠ cf ∧ l ≠ kn, ?_, ?_⟩
    · refine ⟨.ref l, rfl, .ref fe, rfl, .ref l, rfl, l, _, rfl, .inl (SqL.of hl), nilA ⟨fe, cf, _, rfl, by rw [List.length_map, hal]; omega, by rw [List.length_map, hal]; omega, X9.F, fun d H10 d0 d1 k10 F10 => ?_⟩⟩
      have X10 := X9.kp k10 F10
      have hl10 := k10 _ _ nlf.1 hl
      have hF10 := hF.kp X9.F k10
      rw [List.length_map, hal] at d1
      have hdn : d.toNat < ra.length := by omega
      have hra : ra[d.toNat]? = some ra[d.toNat] := List.getElem?_eq_getElem hdn
      obtain ⟨u, hu1, hu2⟩ := hF10.at hra
      have hu2 : IntsAt H10 ra[d.toNat] u := hu2
      have at0 : atI (ra.map V.ref) d = some (.ref ra[d.toNat]) := by
        have := atI_nat (xs := ra.map V.ref) (j := d.toNat) (v := .ref ra[d.toNat]) (by rw [List.getElem?_map, hra]; rfl)
        rw [Int.toNat_of_nonneg d0] at this
        exact this
      refine ⟨l, _, d, _, rfl, rfl, SqL.of hl10, at0, sz_1 _, fun kn nk => ?_⟩
      have sk := same_new (o := .lst [.ref ra[d.toNat]]) nk
      exact ⟨kn, ra[d.toNat], u, ⟨_, _, _, _, _, _, _, rfl⟩, X10.same sk, sk _ _ hl10, hF10.same sk, upd_same, hu2.same sk, List.mem_of_getElem? hu1, (X10.newF (New.of nk)).1, (X10.newF (New.of nk)).2, fun e => by rw [← e, hl10] at nk; cases nk⟩
    clear X9 hl hF hb
    rintro σ' H10 ⟨kn, c0, u0, ⟨y2, y8, y9, y10, y11, y12, y13, rfl⟩, X10, hl, hF, hk, hc0, hu0, m1, m2, m3⟩
    -- the swaps
    refine ⟨fun σ' H' => ∃ (ch : Addr) (ca : List Addr) (R : List (List Int)), (∃ y2 y9 y10 y11 y12 y13, σ' = [some (.ref a), some (.ref fe), y2, some (.ref p), some (.ref bl), some (.int (cnt ll b : Nat)), some (.ref l), some (.ref kn), some (.ref ch), y9, y10, y11, y12, y13, none]) ∧ BF cf fe [(Pw, qW)] p as ll l ra (fils ll b) ch ca R kn [c0] [u0] H' ∧ GrP ll R, ?_, ?_⟩
    · refine ⟨.ref p, rfl, p, as, ll, rfl, X10.R, ef, SL, X10.T, fun H11 ch ca R e11 T11 nc hc hR G => ?_⟩
      have hk' : H11 kn = some (.lst ([c0].map V.ref)) := e11 _ _ hk (fun ps z => by cases z)
      have n4 : ch ≠ kn := fun e => by
        rw [e] at nc
        exact absurd rfl (New.ne nc hk (fun ps z => by cases z))
      exact ⟨ch, ca, R, ⟨_, _, _, _, _, _, rfl⟩, ⟨X10.ext e11 T11, e11 _ _ hl (fun ps z => by cases z), hF.ext e11, hc, hR, hk', ⟨hc0.ext e11, True.intro⟩, m1, m2, m3, n4⟩, G⟩
    clear X10 hl hF hk hc0
    rintro σ' H11 ⟨ch, ca, R, ⟨y2, y9, y10, y11, y12, y13, rfl⟩, W11, G⟩
    have A : GR.Lo ll (width ll) R := ⟨hkd, G.g, G.len⟩
    have hRl := W11.hR.len
    -- where it begins
    refine ⟨fun σ' H' => (∃ y2 y10 y11 y12 y13, σ' = [some (.ref a), some (.ref fe), y2, some (.ref p), some (.ref bl), some (.int (cnt ll b : Nat)), some (.ref l), some (.ref kn), some (.ref ch), some (.int ((0 : Nat) : Int)), y10, y11, y12, y13, none]) ∧ H' = H11, ⟨⟨_, _, _, _, _, rfl⟩, rfl⟩, ?_⟩
    rintro σ' H' ⟨⟨y2, y10, y11, y12, y13, rfl⟩, eH⟩
    subst H'
    -- it leads on
    have st0 : KN ll b R [u0] 0 := ⟨fun u hu => by rw [List.mem_singleton.mp hu]; exact (hmem u0).mp hu0, List.nodup_cons.mpr ⟨(fun z => by cases z), List.nodup_nil⟩, (fun z => by cases z), Nat.zero_le _, fun i u hi => absurd hi (Nat.not_lt_zero _)⟩
    refine ⟨fun σ' H' => ∃ (ka : List Addr) (known : List (List Int)) (at_ : Nat), (∃ y2 y10 y11 y12 y13, σ' = [some (.ref a), some (.ref fe), y2, some (.ref p), some (.ref bl), some (.int (cnt ll b : Nat)), some (.ref l), some (.ref kn), some (.ref ch), some (.int (at_ : Int)), y10, y11, y12, y13, none]) ∧ BF cf fe [(Pw, qW)] p as ll l ra (fils ll b) ch ca R kn ka known H' ∧ KN ll b R known known.length, ?_, ?_⟩
    · refine ⟨200, rfl, by decide, by decide, ?_⟩
      refine for_range (lo := 0) (n := 200) (fun i σ' H' => ∃ (ka : List Addr) (known : List (List Int)) (at_ : Nat), (∃ y2 y10 y11 y12 y13, σ' = [some (.ref a), some (.ref fe), y2, some (.ref p), some (.ref bl), some (.int (cnt ll b : Nat)), some (.ref l), some (.ref kn), some (.ref ch), some (.int (at_ : Int)), y10, y11, y12, y13, none]) ∧ BF cf fe [(Pw, qW)] p as ll l ra (fils ll b) ch ca R kn ka known H' ∧ KN ll b R known at_ ∧ (at_ = i ∨ at_ = known.length))
        ⟨[c0], [u0], 0, ⟨_, _, _, _, _, rfl⟩, W11, st0, .inl rfl⟩ (fun i σ' H12 hi hI => ?_) (fun σ' H12 hI => ?_)
      · obtain ⟨ka, known, at_, ⟨y2, y10, y11, y12, y13, rfl⟩, W12, N, hat⟩ := hI
        have hkl := W12.hK.len
        refine ⟨.int (at_ : Int), rfl, .ref kn, rfl, kn, _, rfl, .inl (SqL.of W12.hk), _, _, rfl, rfl, _, rfl, ite2 (fun c1 => ?_) (fun c1 => ?_)⟩
        · have hlt : at_ < known.length := by
            have := of_decide_eq_true c1
            rw [List.length_map] at this
            omega
          have hu : known[at_]? = some known[at_] := List.getElem?_eq_getElem hlt
          generalize known[at_] = u at hu
          obtain ⟨c, hc1, hc2⟩ : ∃ c, ka[at_]? = some c ∧ ∀ H' ka' kn', Rows H' ka' kn' → (∃ m1, ka' = ka ++ m1) → (∃ m2, kn' = known ++ m2) → IntsAt H' c u := by
            have hka : at_ < ka.length := by omega
            refine ⟨ka[at_], List.getElem?_eq_getElem hka, fun H' ka' kn' hR' ⟨m1, e1⟩ ⟨m2, e2⟩ => ?_⟩
            have g1 : ka'[at_]? = some ka[at_] := by rw [e1, List.getElem?_append_left hka]; exact List.getElem?_eq_getElem hka
            obtain ⟨r, hr1, hr2⟩ := hR'.at g1
            have hr2 : IntsAt H' ka[at_] r := hr2
            rw [e2, List.getElem?_append_left hlt, hu] at hr1
            cases Option.some.inj hr1
            exact hr2
          have huc := N.sub u (List.mem_of_getElem? hu)
          have hul := comes_len huc
          refine ⟨.ref ch, rfl, ch, rfl, ⟨_, SqL.of W12.hc⟩, ?_⟩
          refine for_list (K := K) (a := ch) (xs := ca.map V.ref) (fun j σ' H' => ∃ (m1 : List Addr) (kn' : List (List Int)), (∃ y2 y10 y11 y12 y13, σ' = [some (.ref a), some (.ref fe), y2, some (.ref p), some (.ref bl), some (.int (cnt ll b : Nat)), some (.ref l), some (.ref kn), some (.ref ch), some (.int (at_ : Int)), y10, y11, y12, y13, none]) ∧ BF cf fe [(Pw, qW)] p as ll l ra (fils ll b) ch ca R kn (ka ++ m1) kn' H' ∧ KI ll b known (donR u R j) kn')
            ⟨[], known, ⟨_, _, _, _, _, rfl⟩, by rw [List.append_nil]; exact W12, KI.start N⟩ (fun j σ' H' _ hJ => by obtain ⟨m1, kn', _, W, _⟩ := hJ; revert W; rename_i W _; intro W; exact SqL.of W.hc) (fun j x σ' H13 hx hJ => ?_) (fun σ' H13 hJ => ?_)
          · obtain ⟨m1, kn', ⟨y2, y10, y11, y12, y13, rfl⟩, W13, I⟩ := hJ
            obtain ⟨cr, hcr, rfl⟩ := refAt hx
            obtain ⟨r, hr1, hr2⟩ := W13.hR.at hcr
            have hr2 : IntsAt H13 cr r := hr2
            have hrm := List.mem_of_getElem? hr1
            have hrl := G.len r hrm
            have hrK := (G.g.ok _ (List.mem_map_of_mem hrm)).1
            obtain ⟨more, epre⟩ := I.pre
            have hka : at_ < (ka ++ m1).length := by
              have := (List.getElem?_eq_some_iff.mp hc1).1
              rw [List.length_append]
              omega
            have atk : atI ((ka ++ m1).map V.ref) (at_ : Int) = some (.ref c) := atI_nat (by rw [List.getElem?_map, List.getElem?_append_left (List.getElem?_eq_some_iff.mp hc1).1, hc1]; rfl)
            have hcu := hc2 H13 _ _ W13.hK ⟨m1, rfl⟩ ⟨more, epre⟩
            refine ⟨.ref kn, rfl, .int (at_ : Int), rfl, kn, _, _, _, rfl, rfl, SqL.of W13.hk, atk, .ref cr, rfl, nilA ⟨c, cr, u, r, rfl, hcu, hr2, by omega, by omega, fun H14 z1 s14 hz1 => ?_⟩⟩
            refine ⟨sz_1 _, fun D nD => ?_⟩
            have sD := same_new (o := .lst [.ref z1]) nD
            have W15 := (W13.same s14).same sD
            have hz1' := hz1.same sD
            have hD : upd H14 D (.lst [.ref z1]) D = some (.lst [.ref z1]) := upd_same
            have hcu15 := (hcu.same s14).same sD
            have hr15 := (hr2.same s14).same sD
            have nDk : D ≠ kn := fun e => by rw [e, (W13.same s14).hk] at nD; cases nD
            generalize upd H14 D (.lst [.ref z1]) = H15 at W15 hz1' hD hcu15 hr15 ⊢
            refine ⟨.ref D, rfl, .inl ⟨rfl, _, SqL.of hD⟩, .ref kn, rfl, .int (at_ : Int), rfl, kn, _, _, _, rfl, rfl, SqL.of W15.hk, atk, .ref cr, rfl, nilA ⟨c, cr, u, r, rfl, hcu15, hr15, by omega, by omega, fun H16 z2 s16 hz2 => ?_⟩⟩
            have hD16 := s16 _ _ hD
            refine ⟨D, _, _, rfl, rfl, hD16, (by show 1 < sizeLine; decide), ?_⟩
            have W16 := W15.same s16
            have hz1'' := hz1'.same s16
            have W17 : BF cf fe [(Pw, qW)] p as ll l ra (fils ll b) ch ca R kn (ka ++ m1) kn' (upd H16 D (.lst ([V.ref z1] ++ [V.ref z2]))) := by
              have nf := W16.S.F
              refine ⟨W16.S.put hD16 ?_ ?_, ?_, W16.hF.lput hD16, ?_, W16.hR.lput hD16, ?_, W16.hK.lput hD16, W16.n1, W16.n2, W16.n3, W16.n4⟩
              · exact ((W13.S.same s14).newF (New.of nD)).1
              · exact ((W13.S.same s14).newF (New.of nD)).2
              · rw [upd_ne (fun e => by rw [← e, (W13.same s14).hl] at nD; cases nD)]; exact W16.hl
              · rw [upd_ne (fun e => by rw [← e, (W13.same s14).hc] at nD; cases nD)]; exact W16.hc
              · rw [upd_ne (Ne.symm nDk)]; exact W16.hk
            have hz1p : IntsAt (upd H16 D (.lst ([V.ref z1] ++ [V.ref z2]))) z1 (subR u r (-1)) := by
              show upd H16 D _ z1 = _
              rw [upd_ne (ne_of hz1'' hD16 (fun z => by cases z))]
              exact hz1''
            have hz2p : IntsAt (upd H16 D (.lst ([V.ref z1] ++ [V.ref z2]))) z2 (subR u r 1) := by
              show upd H16 D _ z2 = _
              rw [upd_ne (ne_of hz2 hD16 (fun z => by cases z))]
              exact hz2
            have hDp : upd H16 D (.lst ([V.ref z1] ++ [V.ref z2])) D = some (.lst ([z1, z2].map V.ref)) := upd_same
            generalize upd H16 D (.lst ([V.ref z1] ++ [V.ref z2])) = H17 at W17 hz1p hz2p hDp ⊢
            refine ⟨.ref D, rfl, D, rfl, ⟨_, SqL.of hDp⟩, ?_⟩
            refine for_list (K := K) (a := D) (xs := [z1, z2].map V.ref) (fun t σ' H' => ∃ (m1 : List Addr) (kn' : List (List Int)), (∃ y2 y10 y13, σ' = [some (.ref a), some (.ref fe), y2, some (.ref p), some (.ref bl), some (.int (cnt ll b : Nat)), some (.ref l), some (.ref kn), some (.ref ch), some (.int (at_ : Int)), y10, some (.ref cr), some (.ref D), y13, none]) ∧ BF cf fe [(Pw, qW)] p as ll l ra (fils ll b) ch ca R kn (ka ++ m1) kn' H' ∧ KI ll b known (donR u R j ++ [subR u r (-1), subR u r 1].take t) kn' ∧ H' D = some (.lst ([z1, z2].map V.ref)) ∧ IntsAt H' z1 (subR u r (-1)) ∧ IntsAt H' z2 (subR u r 1))
              ⟨m1, kn', ⟨_, _, _, rfl⟩, W17, by rw [List.take_zero, List.append_nil]; exact I, hDp, hz1p, hz2p⟩ (fun t σ' H' _ hT => by obtain ⟨_, _, h⟩ := hT; exact SqL.of h.2.2.2.1) (fun t x σ' H18 hx hT => ?_) (fun σ' H18 hT => ?_)
            · obtain ⟨m1, kn', ⟨y2, y10, y13, rfl⟩, W18, I18, hD18, hq1, hq2⟩ := hT
              obtain ⟨zt, hzt, rfl⟩ := refAt hx
              obtain ⟨v, s, hs, hv1, hv2, hv3⟩ : ∃ (v : List Int) (s : Int), (s = 1 ∨ s = -1) ∧ IntsAt H18 zt v ∧ v = subR u r s ∧ [subR u r (-1), subR u r 1].take (t + 1) = [subR u r (-1), subR u r 1].take t ++ [v] := by
                match t, hzt with
                | 0, h => cases Option.some.inj h; exact ⟨_, -1, .inr rfl, hq1, rfl, rfl⟩
                | 1, h => cases Option.some.inj h; exact ⟨_, 1, .inl rfl, hq2, rfl, rfl⟩
                | t + 2, h => simp at h
              have hvl : v.length = ll.length := by rw [hv2, subR_len (by omega)]; exact hul
              rw [hv3, ← List.append_assoc]
              generalize donR u R j ++ [subR u r (-1), subR u r 1].take t = don at I18 ⊢
              refine ⟨.ref zt, rfl, zt, v, rfl, SqT.of hv1, by omega, fun m m1' m2' => ?_⟩
              refine ⟨m, 0, rfl, rfl, _, rfl, ite2 (fun c2 => ?_) (fun c2 => ?_)⟩
              · have hm0 : 0 ≤ m := of_decide_eq_true c2
                have vn : ∀ x ∈ v, 0 ≤ x := fun x hx => Int.le_trans hm0 (m2' x hx)
                have hvc : Comes ll v b := by
                  rw [hv2] at vn ⊢
                  exact GR.fil_swap hkd el huc hrl hrK fun i => by
                    have := GR.nn_at vn i
                    rw [GR.subR_at (by omega)] at this
                    exact this
                refine ⟨.ref zt, rfl, .ref kn, rfl, dRow v, kn'.map dRow, dp_rowK hv1, .lst (SqL.of W18.hk) (dp_rowsK W18.hK), shaped_row _, shaped_rows _, ?_⟩
                rw [any_row]
                refine ⟨_, rfl, ite2 (fun c3 => ?_) (fun c3 => ?_)⟩
                · have nin : v ∉ kn' := by
                    intro z
                    rw [decide_eq_true z] at c3
                    cases c3
                  have kf := I18.few hkd el
                  have kl := W18.hK.len
                  refine ⟨.ref kn, rfl, .inl ⟨rfl, _, SqL.of W18.hk⟩, .ref zt, rfl, kn, _, _, rfl, rfl, W18.hk, ?_, ?_⟩
                  · rw [List.length_map, kl]
                    exact Nat.lt_of_le_of_lt (show _ ≤ 1000 by omega) (by decide)
                  · have W19 := W18.more hv1
                    rw [List.append_assoc] at W19
                    refine ⟨m1 ++ [zt], kn' ++ [v], ⟨_, _, _, rfl⟩, ?_, I18.add hvc nin, ?_, ?_, ?_⟩
                    · have e : (ka ++ m1).map V.ref ++ [V.ref zt] = (ka ++ (m1 ++ [zt])).map V.ref := by simp
                      rw [e]
                      exact W19
                    · rw [upd_ne nDk]; exact hD18
                    · show upd H18 kn _ z1 = _
                      rw [upd_ne (ne_of hq1 W18.hk (fun z => by cases z))]
                      exact hq1
                    · show upd H18 kn _ z2 = _
                      rw [upd_ne (ne_of hq2 W18.hk (fun z => by cases z))]
                      exact hq2
                · have hin : v ∈ kn' := Classical.byContradiction fun z => c3 (by rw [decide_eq_false z]; rfl)
                  exact ⟨m1, kn', ⟨_, _, _, rfl⟩, W18, I18.skip fun _ => hin, hD18, hq1, hq2⟩
              · have hm0 : ¬ 0 ≤ m := fun z => c2 (decide_eq_true z)
                exact ⟨m1, kn', ⟨_, _, _, rfl⟩, W18, I18.skip fun hc => absurd (comes_nn hc m m1') hm0, hD18, hq1, hq2⟩
            · obtain ⟨m1, kn', ⟨y2, y10, y13, rfl⟩, W18, I18, _, _, _⟩ := hT
              refine ⟨m1, kn', ⟨_, _, _, _, _, rfl⟩, W18, ?_⟩
              rw [donR_more hr1, List.append_assoc]
              exact I18
          · obtain ⟨m1, kn', ⟨y2, y10, y11, y12, y13, rfl⟩, W13, I⟩ := hJ
            rw [List.length_map, hRl] at I
            refine ⟨.int (at_ : Int), rfl, _, _, rfl, rfl, ?_⟩
            have N' := I.done N hu
            refine ⟨ka ++ m1, kn', at_ + 1, ⟨_, _, _, _, _, rfl⟩, W13, N', ?_⟩
            rcases hat with h | h
            · exact .inl (by omega)
            · omega
        · have hge : at_ = known.length := by
            have h1 : ¬ (at_ : Int) < ((ka.map V.ref).length : Nat) := fun z => c1 (decide_eq_true z)
            rw [List.length_map] at h1
            have := N.le
            omega
          exact ⟨ka, known, at_, ⟨_, _, _, _, _, rfl⟩, W12, N, .inr hge⟩
      · obtain ⟨ka, known, at_, ⟨y2, y10, y11, y12, y13, rfl⟩, W12, N, hat⟩ := hI
        have e : at_ = known.length := by
          rcases hat with h | h
          · have h1 : known.length ≤ cnt ll b := by
              rw [← hcnt]
              exact few_nd N.nd fun x hx => (hmem x).mpr (N.sub x hx)
            have := N.le
            omega
          · exact h
        subst e
        exact ⟨ka, known, _, ⟨_, _, _, _, _, rfl⟩, W12, N⟩
    rintro σ' H12 ⟨ka, known, at_, ⟨y2, y10, y11, y12, y13, rfl⟩, W12, N⟩
    -- all are found
    have nn : ∀ r ∈ known, r ≠ [] := fun r hr e => by
      have := comes_len (N.sub r hr)
      rw [e] at this
      simp at this
      omega
    refine ⟨.ref kn, rfl, nilA (sortedD_rows W12.hk W12.hK nn N.nd fun z cs R' nz pR rise lc hR' => ?_)⟩
    have sz := same_new (o := .lst (cs.map V.ref)) nz
    have eR : R' = fils ll b := sorted_oneL rise ((fils_rise _ _).imp lx_lt) fun x => by
      rw [pR.mem_iff, hmem]
      exact ⟨N.sub x, N.all A el x⟩
    subst eR
    refine ⟨.ref l, rfl, .list ((fils ll b).map dRow), .list ((fils ll b).map dRow), .lst (SqL.of upd_same) (dp_rowsK hR'), .lst (SqL.of (sz _ _ W12.hl)) (dp_rowsK (W12.hF.same sz)), shaped_rows _, shaped_rows _, ?_⟩
    rw [eqv_rows]
    have X13 := W12.S.same sz
    exact ⟨_, rfl, iteF ⟨⟨_, _, _, _, _, _, _, _, _, _, _, _, rfl⟩, X13.F, X13.T⟩⟩

end
end HL

namespace HL
open PySem PySem.Spec PyProof.Rows L2
open LamX (Tabs TabS TabB LawAtS)
/-- whether an error of the class T is what an except clause of S takes -/
theorem exm_by {K : PySem.W.Frag} {S T : Addr} {b : Bool} (h1 : PySem.W.subIn K (.ref S) (.type "BaseException") = some true) (h2 : PySem.W.isClsIn K S = true) (h3 : PySem.W.typeIn K (.ref S) = some (.type "type"))
    (h4 : PySem.W.subIn K (.ref T) (.ref S) = some b) : PySem.W.exmOne K (.ref T) (.ref S) = some b := by
  have e1 : (PySem.W.subIn K (.ref S) (.type "BaseException") == some true) = true := by rw [h1] <;> rfl
  have e2 : ((PySem.W.clsIn K S).isSome && PySem.W.typeIn K (.ref S) == some (.type "type")) = true := by
    have h2' : (PySem.W.clsIn K S).isSome = true := h2
    rw [h2', h3] <;> rfl
  show (if (PySem.W.subIn K (.ref S) (.type "BaseException") == some true) = true then (if ((PySem.W.clsIn K S).isSome && PySem.W.typeIn K (.ref S) == some (.type "type")) = true then PySem.W.subIn K (.ref T) (.ref S) else none) else none) = some b
  rw [if_pos e1, if_pos e2]
  exact h4
theorem rev_vals {zs : List V} {ws : List Value} (r : Vals zs ws) : Vals zs.reverse ws.reverse := by
  induction r with
  | nil => exact .nil
  | cons r t ih =>
    rw [List.reverse_cons, List.reverse_cons]
    exact ih.append (.cons r .nil)
theorem all_mk {l : PySem.W.OpenLaw} {w : World} {K : PySem.W.Frag} {h : Heap} {mg : Str → Option Value} {fa : Addr} (X : K.In h) (G : h.Ns mainGlobals mg) (hfa : mg "law" = some (.ref fa))
    {f0 : Addr} {oc0 kV0 dc0 pm0 cd0 ct0 : Value} {od0 an0 : Option Addr} {sl0 : Array (Option Value)}
    {f1 : Addr} {oc1 kV1 dc1 pm1 cd1 ct1 : Value} {od1 an1 : Option Addr} {sl1 : Array (Option Value)}
    {f2 : Addr} {oc2 kV2 dc2 pm2 cd2 ct2 : Value} {od2 an2 : Option Addr} {sl2 : Array (Option Value)}
    {f3 : Addr} {oc3 kV3 dc3 pm3 cd3 ct3 : Value} {od3 an3 : Option Addr} {sl3 : Array (Option Value)}
    {f4 : Addr} {oc4 kV4 dc4 pm4 cd4 ct4 : Value} {od4 an4 : Option Addr} {sl4 : Array (Option Value)}
    {f5 : Addr} {oc5 kV5 dc5 pm5 cd5 ct5 : Value} {od5 an5 : Option Addr} {sl5 : Array (Option Value)}
    {f6 : Addr} {oc6 kV6 dc6 pm6 cd6 ct6 : Value} {od6 an6 : Option Addr} {sl6 : Array (Option Value)}
    {f7 : Addr} {oc7 kV7 dc7 pm7 cd7 ct7 : Value} {od7 an7 : Option Addr} {sl7 : Array (Option Value)}
    {f8 : Addr} {oc8 kV8 dc8 pm8 cd8 ct8 : Value} {od8 an8 : Option Addr} {sl8 : Array (Option Value)}
    {f9 : Addr} {oc9 kV9 dc9 pm9 cd9 ct9 : Value} {od9 an9 : Option Addr} {sl9 : Array (Option Value)}
    {f10 : Addr} {oc10 kV10 dc10 pm10 cd10 ct10 : Value} {od10 an10 : Option Addr} {sl10 : Array (Option Value)}
    {f11 : Addr} {oc11 kV11 dc11 pm11 cd11 ct11 : Value} {od11 an11 : Option Addr} {sl11 : Array (Option Value)}
    {f12 : Addr} {oc12 kV12 dc12 pm12 cd12 ct12 : Value} {od12 an12 : Option Addr} {sl12 : Array (Option Value)}
    {f13 : Addr} {oc13 kV13 dc13 pm13 cd13 ct13 : Value} {od13 an13 : Option Addr} {sl13 : Array (Option Value)}
    {f14 : Addr} {oc14 kV14 dc14 pm14 cd14 ct14 : Value} {od14 an14 : Option Addr} {sl14 : Array (Option Value)}
    {f15 : Addr} {oc15 kV15 dc15 pm15 cd15 ct15 : Value} {od15 an15 : Option Addr} {sl15 : Array (Option Value)}
    {f16 : Addr} {oc16 kV16 dc16 pm16 cd16 ct16 : Value} {od16 an16 : Option Addr} {sl16 : Array (Option Value)}
    {f17 : Addr} {oc17 kV17 dc17 pm17 cd17 ct17 : Value} {od17 an17 : Option Addr} {sl17 : Array (Option Value)}
    {f18 : Addr} {oc18 kV18 dc18 pm18 cd18 ct18 : Value} {od18 an18 : Option Addr} {sl18 : Array (Option Value)}
    {f19 : Addr} {oc19 kV19 dc19 pm19 cd19 ct19 : Value} {od19 an19 : Option Addr} {sl19 : Array (Option Value)}
    {f20 : Addr} {oc20 kV20 dc20 pm20 cd20 ct20 : Value} {od20 an20 : Option Addr} {sl20 : Array (Option Value)}
    {f21 : Addr} {oc21 kV21 dc21 pm21 cd21 ct21 : Value} {od21 an21 : Option Addr} {sl21 : Array (Option Value)}
    {f22 : Addr} {oc22 kV22 dc22 pm22 cd22 ct22 : Value} {od22 an22 : Option Addr} {sl22 : Array (Option Value)}
    {f23 : Addr} {oc23 kV23 dc23 pm23 cd23 ct23 : Value} {od23 an23 : Option Addr} {sl23 : Array (Option Value)}
    {f24 : Addr} {oc24 kV24 dc24 pm24 cd24 ct24 : Value} {od24 an24 : Option Addr} {sl24 : Array (Option Value)}
    {f25 : Addr} {oc25 kV25 dc25 pm25 cd25 ct25 : Value} {od25 an25 : Option Addr} {sl25 : Array (Option Value)}
    {f26 : Addr} {oc26 kV26 dc26 pm26 cd26 ct26 : Value} {od26 an26 : Option Addr} {sl26 : Array (Option Value)}
    {f27 : Addr} {oc27 kV27 dc27 pm27 cd27 ct27 : Value} {od27 an27 : Option Addr} {sl27 : Array (Option Value)}
    {f28 : Addr} {oc28 kV28 dc28 pm28 cd28 ct28 : Value} {od28 an28 : Option Addr} {sl28 : Array (Option Value)}
    {f29 : Addr} {oc29 kV29 dc29 pm29 cd29 ct29 : Value} {od29 an29 : Option Addr} {sl29 : Array (Option Value)}
    {f30 : Addr} {oc30 kV30 dc30 pm30 cd30 ct30 : Value} {od30 an30 : Option Addr} {sl30 : Array (Option Value)}
    {f31 : Addr} {oc31 kV31 dc31 pm31 cd31 ct31 : Value} {od31 an31 : Option Addr} {sl31 : Array (Option Value)}
    {f32 : Addr} {oc32 kV32 dc32 pm32 cd32 ct32 : Value} {od32 an32 : Option Addr} {sl32 : Array (Option Value)}
    {f33 : Addr} {oc33 kV33 dc33 pm33 cd33 ct33 : Value} {od33 an33 : Option Addr} {sl33 : Array (Option Value)}
    {f34 : Addr} {oc34 kV34 dc34 pm34 cd34 ct34 : Value} {od34 an34 : Option Addr} {sl34 : Array (Option Value)}
    {f35 : Addr} {oc35 kV35 dc35 pm35 cd35 ct35 : Value} {od35 an35 : Option Addr} {sl35 : Array (Option Value)}
    {f36 : Addr} {oc36 kV36 dc36 pm36 cd36 ct36 : Value} {od36 an36 : Option Addr} {sl36 : Array (Option Value)}
    {f37 : Addr} {oc37 kV37 dc37 pm37 cd37 ct37 : Value} {od37 an37 : Option Addr} {sl37 : Array (Option Value)}
    {fLe TLe : Addr} {ocLe kVLe dcLe pmLe cdLe ctLe ocTLe : Value} {odLe anLe odTLe : Option Addr} {slLe slTLe : Array (Option Value)} {tkLe : Tok} {nTLe : Nat}
    {fW ccW PW : Addr} {ocW kVW dcW pmW ctW : Value} {odW anW : Option Addr} {slW : Array (Option Value)}
    {fFl DFl : Addr} {ocFl dcFl pmFl cdFl ctFl : Value} {odFl anFl : Option Addr} {slFl : Array (Option Value)} {tkFl : Tok}
    {fL : Addr} {ocL kVL dcL pmL cdvL ctL : Value} {odL anL : Option Addr} {slL : Array (Option Value)}
    {t6 : Tok}
    {t5 : Tok}
    {t3 : Tok}
    {t30 : Tok}
    {t4000 : Tok}
    (hTabW : h.get? PW = some (PySem.W.tabObj #[]))
    (a0 : PySem.W.nsIn K mainGlobals "is_hold" = some (some (.ref f0)))
    (l0 : K.lookup f0 = some ⟨oc0, od0, .func (PySem.W.fnOf "is_hold" "is_hold" (defArgs sIsHold) (defBody sIsHold) (defScope sIsHold) .none kV0 dc0 pm0 an0 cd0 ct0), sl0⟩)
    (c0 : PySem.W.codeIn K cd0 "is_hold" = true)
    (k0 : PySem.W.keepIn K (.ref f0) = true)
    (a1 : PySem.W.nsIn K mainGlobals "look_lot" = some (some (.ref f1)))
    (l1 : K.lookup f1 = some ⟨oc1, od1, .func (PySem.W.fnOf "look_lot" "look_lot" (defArgs sLook) (defBody sLook) (defScope sLook) .none kV1 dc1 pm1 an1 cd1 ct1), sl1⟩)
    (c1 : PySem.W.codeIn K cd1 "look_lot" = true)
    (k1 : PySem.W.keepIn K (.ref f1) = true)
    (a2 : PySem.W.nsIn K mainGlobals "goods_of" = some (some (.ref f2)))
    (l2 : K.lookup f2 = some ⟨oc2, od2, .func (PySem.W.fnOf "goods_of" "goods_of" (defArgs sGoods) (defBody sGoods) (defScope sGoods) .none kV2 dc2 pm2 an2 cd2 ct2), sl2⟩)
    (c2 : PySem.W.codeIn K cd2 "goods_of" = true)
    (k2 : PySem.W.keepIn K (.ref f2) = true)
    (a3 : PySem.W.nsIn K mainGlobals "first_wrong" = some (some (.ref f3)))
    (l3 : K.lookup f3 = some ⟨oc3, od3, .func (PySem.W.fnOf "first_wrong" "first_wrong" (defArgs sFirst) (defBody sFirst) (defScope sFirst) .none kV3 dc3 pm3 an3 cd3 ct3), sl3⟩)
    (c3 : PySem.W.codeIn K cd3 "first_wrong" = true)
    (k3 : PySem.W.keepIn K (.ref f3) = true)
    (a4 : PySem.W.nsIn K mainGlobals "look_bill" = some (some (.ref f4)))
    (l4 : K.lookup f4 = some ⟨oc4, od4, .func (PySem.W.fnOf "look_bill" "look_bill" (defArgs sLookBill) (defBody sLookBill) (defScope sLookBill) .none kV4 dc4 pm4 an4 cd4 ct4), sl4⟩)
    (c4 : PySem.W.codeIn K cd4 "look_bill" = true)
    (k4 : PySem.W.keepIn K (.ref f4) = true)
    (a5 : PySem.W.nsIn K mainGlobals "unit" = some (some (.ref f5)))
    (l5 : K.lookup f5 = some ⟨oc5, od5, .func (PySem.W.fnOf "unit" "unit" (defArgs sUnit) (defBody sUnit) (defScope sUnit) .none kV5 dc5 pm5 an5 cd5 ct5), sl5⟩)
    (c5 : PySem.W.codeIn K cd5 "unit" = true)
    (k5 : PySem.W.keepIn K (.ref f5) = true)
    (a6 : PySem.W.nsIn K mainGlobals "opposite" = some (some (.ref f6)))
    (l6 : K.lookup f6 = some ⟨oc6, od6, .func (PySem.W.fnOf "opposite" "opposite" (defArgs sOppo) (defBody sOppo) (defScope sOppo) .none kV6 dc6 pm6 an6 cd6 ct6), sl6⟩)
    (c6 : PySem.W.codeIn K cd6 "opposite" = true)
    (k6 : PySem.W.keepIn K (.ref f6) = true)
    (a7 : PySem.W.nsIn K mainGlobals "is_nought" = some (some (.ref f7)))
    (l7 : K.lookup f7 = some ⟨oc7, od7, .func (PySem.W.fnOf "is_nought" "is_nought" (defArgs sIsNought) (defBody sIsNought) (defScope sIsNought) .none kV7 dc7 pm7 an7 cd7 ct7), sl7⟩)
    (c7 : PySem.W.codeIn K cd7 "is_nought" = true)
    (k7 : PySem.W.keepIn K (.ref f7) = true)
    (a8 : PySem.W.nsIn K mainGlobals "look_box" = some (some (.ref f8)))
    (l8 : K.lookup f8 = some ⟨oc8, od8, .func (PySem.W.fnOf "look_box" "look_box" (defArgs sBox) (defBody sBox) (defScope sBox) .none kV8 dc8 pm8 an8 cd8 ct8), sl8⟩)
    (c8 : PySem.W.codeIn K cd8 "look_box" = true)
    (k8 : PySem.W.keepIn K (.ref f8) = true)
    (a9 : PySem.W.nsIn K mainGlobals "look_both" = some (some (.ref f9)))
    (l9 : K.lookup f9 = some ⟨oc9, od9, .func (PySem.W.fnOf "look_both" "look_both" (defArgs sBoth) (defBody sBoth) (defScope sBoth) .none kV9 dc9 pm9 an9 cd9 ct9), sl9⟩)
    (c9 : PySem.W.codeIn K cd9 "look_both" = true)
    (k9 : PySem.W.keepIn K (.ref f9) = true)
    (a10 : PySem.W.nsIn K mainGlobals "cells_of" = some (some (.ref f10)))
    (l10 : K.lookup f10 = some ⟨oc10, od10, .func (PySem.W.fnOf "cells_of" "cells_of" (defArgs sCells) (defBody sCells) (defScope sCells) .none kV10 dc10 pm10 an10 cd10 ct10), sl10⟩)
    (c10 : PySem.W.codeIn K cd10 "cells_of" = true)
    (k10 : PySem.W.keepIn K (.ref f10) = true)
    (a11 : PySem.W.nsIn K mainGlobals "with_one_more" = some (some (.ref f11)))
    (l11 : K.lookup f11 = some ⟨oc11, od11, .func (PySem.W.fnOf "with_one_more" "with_one_more" (defArgs sOneMore) (defBody sOneMore) (defScope sOneMore) .none kV11 dc11 pm11 an11 cd11 ct11), sl11⟩)
    (c11 : PySem.W.codeIn K cd11 "with_one_more" = true)
    (k11 : PySem.W.keepIn K (.ref f11) = true)
    (a12 : PySem.W.nsIn K mainGlobals "tables_of" = some (some (.ref f12)))
    (l12 : K.lookup f12 = some ⟨oc12, od12, .func (PySem.W.fnOf "tables_of" "tables_of" (defArgs sTables) (defBody sTables) (defScope sTables) .none kV12 dc12 pm12 an12 cd12 ct12), sl12⟩)
    (c12 : PySem.W.codeIn K cd12 "tables_of" = true)
    (k12 : PySem.W.keepIn K (.ref f12) = true)
    (a13 : PySem.W.nsIn K mainGlobals "takings" = some (some (.ref f13)))
    (l13 : K.lookup f13 = some ⟨oc13, od13, .func (PySem.W.fnOf "takings" "takings" (defArgs sTakings) (defBody sTakings) (defScope sTakings) .none kV13 dc13 pm13 an13 cd13 ct13), sl13⟩)
    (c13 : PySem.W.codeIn K cd13 "takings" = true)
    (k13 : PySem.W.keepIn K (.ref f13) = true)
    (a14 : PySem.W.nsIn K mainGlobals "how_many" = some (some (.ref f14)))
    (l14 : K.lookup f14 = some ⟨oc14, od14, .func (PySem.W.fnOf "how_many" "how_many" (defArgs sHowMany) (defBody sHowMany) (defScope sHowMany) .none kV14 dc14 pm14 an14 cd14 ct14), sl14⟩)
    (c14 : PySem.W.codeIn K cd14 "how_many" = true)
    (k14 : PySem.W.keepIn K (.ref f14) = true)
    (a15 : PySem.W.nsIn K mainGlobals "sign_of" = some (some (.ref f15)))
    (l15 : K.lookup f15 = some ⟨oc15, od15, .func (PySem.W.fnOf "sign_of" "sign_of" (defArgs sSignOf) (defBody sSignOf) (defScope sSignOf) .none kV15 dc15 pm15 an15 cd15 ct15), sl15⟩)
    (c15 : PySem.W.codeIn K cd15 "sign_of" = true)
    (k15 : PySem.W.keepIn K (.ref f15) = true)
    (a16 : PySem.W.nsIn K mainGlobals "first_place" = some (some (.ref f16)))
    (l16 : K.lookup f16 = some ⟨oc16, od16, .func (PySem.W.fnOf "first_place" "first_place" (defArgs sFirstPl) (defBody sFirstPl) (defScope sFirstPl) .none kV16 dc16 pm16 an16 cd16 ct16), sl16⟩)
    (c16 : PySem.W.codeIn K cd16 "first_place" = true)
    (k16 : PySem.W.keepIn K (.ref f16) = true)
    (a17 : PySem.W.nsIn K mainGlobals "told_way" = some (some (.ref f17)))
    (l17 : K.lookup f17 = some ⟨oc17, od17, .func (PySem.W.fnOf "told_way" "told_way" (defArgs sWay) (defBody sWay) (defScope sWay) .none kV17 dc17 pm17 an17 cd17 ct17), sl17⟩)
    (c17 : PySem.W.codeIn K cd17 "told_way" = true)
    (k17 : PySem.W.keepIn K (.ref f17) = true)
    (a18 : PySem.W.nsIn K mainGlobals "spanning" = some (some (.ref f18)))
    (l18 : K.lookup f18 = some ⟨oc18, od18, .func (PySem.W.fnOf "spanning" "spanning" (defArgs sSpan) (defBody sSpan) (defScope sSpan) .none kV18 dc18 pm18 an18 cd18 ct18), sl18⟩)
    (c18 : PySem.W.codeIn K cd18 "spanning" = true)
    (k18 : PySem.W.keepIn K (.ref f18) = true)
    (a19 : PySem.W.nsIn K mainGlobals "sign_rows" = some (some (.ref f19)))
    (l19 : K.lookup f19 = some ⟨oc19, od19, .func (PySem.W.fnOf "sign_rows" "sign_rows" (defArgs sSignRows) (defBody sSignRows) (defScope sSignRows) .none kV19 dc19 pm19 an19 cd19 ct19), sl19⟩)
    (c19 : PySem.W.codeIn K cd19 "sign_rows" = true)
    (k19 : PySem.W.keepIn K (.ref f19) = true)
    (a20 : PySem.W.nsIn K mainGlobals "has_signs" = some (some (.ref f20)))
    (l20 : K.lookup f20 = some ⟨oc20, od20, .func (PySem.W.fnOf "has_signs" "has_signs" (defArgs sHasSigns) (defBody sHasSigns) (defScope sHasSigns) .none kV20 dc20 pm20 an20 cd20 ct20), sl20⟩)
    (c20 : PySem.W.codeIn K cd20 "has_signs" = true)
    (k20 : PySem.W.keepIn K (.ref f20) = true)
    (a21 : PySem.W.nsIn K mainGlobals "let_in" = some (some (.ref f21)))
    (l21 : K.lookup f21 = some ⟨oc21, od21, .func (PySem.W.fnOf "let_in" "let_in" (defArgs sLetIn) (defBody sLetIn) (defScope sLetIn) .none kV21 dc21 pm21 an21 cd21 ct21), sl21⟩)
    (c21 : PySem.W.codeIn K cd21 "let_in" = true)
    (k21 : PySem.W.keepIn K (.ref f21) = true)
    (a22 : PySem.W.nsIn K mainGlobals "is_no_greater" = some (some (.ref f22)))
    (l22 : K.lookup f22 = some ⟨oc22, od22, .func (PySem.W.fnOf "is_no_greater" "is_no_greater" (defArgs sNoGr) (defBody sNoGr) (defScope sNoGr) .none kV22 dc22 pm22 an22 cd22 ct22), sl22⟩)
    (c22 : PySem.W.codeIn K cd22 "is_no_greater" = true)
    (k22 : PySem.W.keepIn K (.ref f22) = true)
    (a23 : PySem.W.nsIn K mainGlobals "is_new" = some (some (.ref f23)))
    (l23 : K.lookup f23 = some ⟨oc23, od23, .func (PySem.W.fnOf "is_new" "is_new" (defArgs sIsNew) (defBody sIsNew) (defScope sIsNew) .none kV23 dc23 pm23 an23 cd23 ct23), sl23⟩)
    (c23 : PySem.W.codeIn K cd23 "is_new" = true)
    (k23 : PySem.W.keepIn K (.ref f23) = true)
    (a24 : PySem.W.nsIn K mainGlobals "trimmed" = some (some (.ref f24)))
    (l24 : K.lookup f24 = some ⟨oc24, od24, .func (PySem.W.fnOf "trimmed" "trimmed" (defArgs sTrim) (defBody sTrim) (defScope sTrim) .none kV24 dc24 pm24 an24 cd24 ct24), sl24⟩)
    (c24 : PySem.W.codeIn K cd24 "trimmed" = true)
    (k24 : PySem.W.keepIn K (.ref f24) = true)
    (a25 : PySem.W.nsIn K mainGlobals "completed" = some (some (.ref f25)))
    (l25 : K.lookup f25 = some ⟨oc25, od25, .func (PySem.W.fnOf "completed" "completed" (defArgs sCompl) (defBody sCompl) (defScope sCompl) .none kV25 dc25 pm25 an25 cd25 ct25), sl25⟩)
    (c25 : PySem.W.codeIn K cd25 "completed" = true)
    (k25 : PySem.W.keepIn K (.ref f25) = true)
    (a26 : PySem.W.nsIn K mainGlobals "lifted" = some (some (.ref f26)))
    (l26 : K.lookup f26 = some ⟨oc26, od26, .func (PySem.W.fnOf "lifted" "lifted" (defArgs sLifted) (defBody sLifted) (defScope sLifted) .none kV26 dc26 pm26 an26 cd26 ct26), sl26⟩)
    (c26 : PySem.W.codeIn K cd26 "lifted" = true)
    (k26 : PySem.W.keepIn K (.ref f26) = true)
    (a27 : PySem.W.nsIn K mainGlobals "ground" = some (some (.ref f27)))
    (l27 : K.lookup f27 = some ⟨oc27, od27, .func (PySem.W.fnOf "ground" "ground" (defArgs sGround) (defBody sGround) (defScope sGround) .none kV27 dc27 pm27 an27 cd27 ct27), sl27⟩)
    (c27 : PySem.W.codeIn K cd27 "ground" = true)
    (k27 : PySem.W.keepIn K (.ref f27) = true)
    (a28 : PySem.W.nsIn K mainGlobals "_law_feed" = some (some (.ref f28)))
    (l28 : K.lookup f28 = some ⟨oc28, od28, .func (PySem.W.fnOf "_law_feed" "_law_feed" (defArgs sFeed) (defBody sFeed) (defScope sFeed) .none kV28 dc28 pm28 an28 cd28 ct28), sl28⟩)
    (c28 : PySem.W.codeIn K cd28 "_law_feed" = true)
    (k28 : PySem.W.keepIn K (.ref f28) = true)
    (a29 : PySem.W.nsIn K mainGlobals "_law_draw" = some (some (.ref f29)))
    (l29 : K.lookup f29 = some ⟨oc29, od29, .func (PySem.W.fnOf "_law_draw" "_law_draw" (defArgs sDraw) (defBody sDraw) (defScope sDraw) .none kV29 dc29 pm29 an29 cd29 ct29), sl29⟩)
    (c29 : PySem.W.codeIn K cd29 "_law_draw" = true)
    (k29 : PySem.W.keepIn K (.ref f29) = true)
    (a30 : PySem.W.nsIn K mainGlobals "_law_hold" = some (some (.ref f30)))
    (l30 : K.lookup f30 = some ⟨oc30, od30, .func (PySem.W.fnOf "_law_hold" "_law_hold" (defArgs sHold) (defBody sHold) (defScope sHold) .none kV30 dc30 pm30 an30 cd30 ct30), sl30⟩)
    (c30 : PySem.W.codeIn K cd30 "_law_hold" = true)
    (k30 : PySem.W.keepIn K (.ref f30) = true)
    (a31 : PySem.W.nsIn K mainGlobals "_law_lot" = some (some (.ref f31)))
    (l31 : K.lookup f31 = some ⟨oc31, od31, .func (PySem.W.fnOf "_law_lot" "_law_lot" (defArgs sLot) (defBody sLot) (defScope sLot) .none kV31 dc31 pm31 an31 cd31 ct31), sl31⟩)
    (c31 : PySem.W.codeIn K cd31 "_law_lot" = true)
    (k31 : PySem.W.keepIn K (.ref f31) = true)
    (a32 : PySem.W.nsIn K mainGlobals "_law_plain_lot" = some (some (.ref f32)))
    (l32 : K.lookup f32 = some ⟨oc32, od32, .func (PySem.W.fnOf "_law_plain_lot" "_law_plain_lot" (defArgs sPlain) (defBody sPlain) (defScope sPlain) .none kV32 dc32 pm32 an32 cd32 ct32), sl32⟩)
    (c32 : PySem.W.codeIn K cd32 "_law_plain_lot" = true)
    (k32 : PySem.W.keepIn K (.ref f32) = true)
    (a33 : PySem.W.nsIn K mainGlobals "_law_small_bill" = some (some (.ref f33)))
    (l33 : K.lookup f33 = some ⟨oc33, od33, .func (PySem.W.fnOf "_law_small_bill" "_law_small_bill" (defArgs sSmallBill) (defBody sSmallBill) (defScope sSmallBill) .none kV33 dc33 pm33 an33 cd33 ct33), sl33⟩)
    (c33 : PySem.W.codeIn K cd33 "_law_small_bill" = true)
    (k33 : PySem.W.keepIn K (.ref f33) = true)
    (a34 : PySem.W.nsIn K mainGlobals "_law_plus" = some (some (.ref f34)))
    (l34 : K.lookup f34 = some ⟨oc34, od34, .func (PySem.W.fnOf "_law_plus" "_law_plus" (defArgs sPlus) (defBody sPlus) (defScope sPlus) .none kV34 dc34 pm34 an34 cd34 ct34), sl34⟩)
    (c34 : PySem.W.codeIn K cd34 "_law_plus" = true)
    (k34 : PySem.W.keepIn K (.ref f34) = true)
    (a35 : PySem.W.nsIn K mainGlobals "_law_minus" = some (some (.ref f35)))
    (l35 : K.lookup f35 = some ⟨oc35, od35, .func (PySem.W.fnOf "_law_minus" "_law_minus" (defArgs sMinus) (defBody sMinus) (defScope sMinus) .none kV35 dc35 pm35 an35 cd35 ct35), sl35⟩)
    (c35 : PySem.W.codeIn K cd35 "_law_minus" = true)
    (k35 : PySem.W.keepIn K (.ref f35) = true)
    (a36 : PySem.W.nsIn K mainGlobals "_law_good" = some (some (.ref f36)))
    (l36 : K.lookup f36 = some ⟨oc36, od36, .func (PySem.W.fnOf "_law_good" "_law_good" (defArgs sGood) (defBody sGood) (defScope sGood) .none kV36 dc36 pm36 an36 cd36 ct36), sl36⟩)
    (c36 : PySem.W.codeIn K cd36 "_law_good" = true)
    (k36 : PySem.W.keepIn K (.ref f36) = true)
    (a37 : PySem.W.nsIn K mainGlobals "_law_goods" = some (some (.ref f37)))
    (l37 : K.lookup f37 = some ⟨oc37, od37, .func (PySem.W.fnOf "_law_goods" "_law_goods" (defArgs sLGoods) (defBody sLGoods) (defScope sLGoods) .none kV37 dc37 pm37 an37 cd37 ct37), sl37⟩)
    (c37 : PySem.W.codeIn K cd37 "_law_goods" = true)
    (k37 : PySem.W.keepIn K (.ref f37) = true)
    (aLe : PySem.W.nsIn K mainGlobals "less" = some (some (.ref fLe)))
    (lLe : K.lookup fLe = some ⟨ocLe, odLe, .func (PySem.W.fnOf "less" "less" (defArgs sLess) (defBody sLess) (defScope sLess) (.ref TLe) kVLe dcLe pmLe anLe cdLe ctLe), slLe⟩)
    (cLe : PySem.W.codeIn K cdLe "less" = true)
    (kLe : PySem.W.keepIn K (.ref fLe) = true)
    (lTLe : K.lookup TLe = some ⟨ocTLe, odTLe, .seq #[.int 1 tkLe] nTLe, slTLe⟩)
    (aW : PySem.W.nsIn K mainGlobals "with_one_at" = some (some (.ref fW)))
    (lW : K.lookup fW = some ⟨ocW, odW, .func (PySem.W.fnOf "with_one_at" "with_one_at" (defArgs sOneAt) (defBody sOneAt) (defScope sOneAt) .none kVW dcW pmW anW (.ref ccW) ctW), slW⟩)
    (cW : PySem.W.codeIn K (.ref ccW) "with_one_at" = true)
    (kW : PySem.W.keepIn K (.ref fW) = true)
    (nPW : K.lookup PW = none)
    (hdW : PySem.W.codeHdIn K ccW PW = true)
    (aFl : PySem.W.nsIn K mainGlobals "fillings" = some (some (.ref fFl)))
    (lFl : K.lookup fFl = some ⟨ocFl, odFl, .func (PySem.W.fnOf "fillings" "fillings" (defArgs sFillings) (defBody sFillings) (defScope sFillings) .none (.ref DFl) dcFl pmFl anFl cdFl ctFl), slFl⟩)
    (cFl : PySem.W.codeIn K cdFl "fillings" = true)
    (kFl : PySem.W.keepIn K (.ref fFl) = true)
    (nDFl : PySem.W.nsIn K DFl "most" = some (some (.int (400) tkFl)))
    (aL : PySem.W.nsIn K mainGlobals "law" = some (some (.ref fL)))
    (lL : K.lookup fL = some ⟨ocL, odL, .func (PySem.W.fnOf "law" "law" (defArgs sLaw) (defBody sLaw) (defScope sLaw) .none kVL dcL pmL anL cdvL ctL), slL⟩)
    (cdL : PySem.W.codeIn K cdvL "law" = true)
    (kL : PySem.W.keepIn K (.ref fL) = true)
    (v6 : PySem.W.nsIn K mainGlobals "MOST_HOLD" = some (some (.int 6 t6)))
    (v5 : PySem.W.nsIn K mainGlobals "MOST_KINDS" = some (some (.int 5 t5)))
    (v3 : PySem.W.nsIn K mainGlobals "MOST_GOODS" = some (some (.int 3 t3)))
    (v30 : PySem.W.nsIn K mainGlobals "GREAT" = some (some (.int G30 t30)))
    (v4000 : PySem.W.nsIn K mainGlobals "MOST_BOX" = some (some (.int 4000 t4000)))
    (z_len : PySem.W.nsIn K mainGlobals "len" = some none)
    (z_list : PySem.W.nsIn K mainGlobals "list" = some none)
    (z_tuple : PySem.W.nsIn K mainGlobals "tuple" = some none)
    (z_dict : PySem.W.nsIn K mainGlobals "dict" = some none)
    (z_str : PySem.W.nsIn K mainGlobals "str" = some none)
    (z_int : PySem.W.nsIn K mainGlobals "int" = some none)
    (z_bool : PySem.W.nsIn K mainGlobals "bool" = some none)
    (z_isinstance : PySem.W.nsIn K mainGlobals "isinstance" = some none)
    (z_all : PySem.W.nsIn K mainGlobals "all" = some none)
    (z_range : PySem.W.nsIn K mainGlobals "range" = some none)
    (z_sum : PySem.W.nsIn K mainGlobals "sum" = some none)
    (z_min : PySem.W.nsIn K mainGlobals "min" = some none)
    (z_max : PySem.W.nsIn K mainGlobals "max" = some none)
    (z_enumerate : PySem.W.nsIn K mainGlobals "enumerate" = some none)
    (z_zip : PySem.W.nsIn K mainGlobals "zip" = some none)
    (z_sorted : PySem.W.nsIn K mainGlobals "sorted" = some none)
    (z_abs : PySem.W.nsIn K mainGlobals "abs" = some none)
    (z_reversed : PySem.W.nsIn K mainGlobals "reversed" = some none)
    : LawAtS l w K CX0 8 63 "_law_script" mg fa h := by
  have e := hfa.symm.trans (PySem.W.mg_of X G aL)
  cases e
  have F0 := fun_mk (st := sIsHold) l0 c0 k0
  have b0 := F0.binds (ps := ["hold", "goods"]) fun _ _ _ _ _ _ us hl => match us, hl with | [_, _], _ => rfl
  have g0 := PySem.W.mg_of X G a0
  have F1 := fun_mk (st := sLook) l1 c1 k1
  have b1 := F1.binds (ps := ["lot"]) fun _ _ _ _ _ _ us hl => match us, hl with | [_], _ => rfl
  have g1 := PySem.W.mg_of X G a1
  have F2 := fun_mk (st := sGoods) l2 c2 k2
  have b2 := F2.binds (ps := ["lot"]) fun _ _ _ _ _ _ us hl => match us, hl with | [_], _ => rfl
  have g2 := PySem.W.mg_of X G a2
  have F3 := fun_mk (st := sFirst) l3 c3 k3
  have b3 := F3.binds (ps := ["row", "many"]) fun _ _ _ _ _ _ us hl => match us, hl with | [_, _], _ => rfl
  have g3 := PySem.W.mg_of X G a3
  have F4 := fun_mk (st := sLookBill) l4 c4 k4
  have b4 := F4.binds (ps := ["lot", "bill"]) fun _ _ _ _ _ _ us hl => match us, hl with | [_, _], _ => rfl
  have g4 := PySem.W.mg_of X G a4
  have F5 := fun_mk (st := sUnit) l5 c5 k5
  have b5 := F5.binds (ps := ["place", "many"]) fun _ _ _ _ _ _ us hl => match us, hl with | [_, _], _ => rfl
  have g5 := PySem.W.mg_of X G a5
  have F6 := fun_mk (st := sOppo) l6 c6 k6
  have b6 := F6.binds (ps := ["row"]) fun _ _ _ _ _ _ us hl => match us, hl with | [_], _ => rfl
  have g6 := PySem.W.mg_of X G a6
  have F7 := fun_mk (st := sIsNought) l7 c7 k7
  have b7 := F7.binds (ps := ["row"]) fun _ _ _ _ _ _ us hl => match us, hl with | [_], _ => rfl
  have g7 := PySem.W.mg_of X G a7
  have F8 := fun_mk (st := sBox) l8 c8 k8
  have b8 := F8.binds (ps := ["bill"]) fun _ _ _ _ _ _ us hl => match us, hl with | [_], _ => rfl
  have g8 := PySem.W.mg_of X G a8
  have F9 := fun_mk (st := sBoth) l9 c9 k9
  have b9 := F9.binds (ps := ["lot", "bill"]) fun _ _ _ _ _ _ us hl => match us, hl with | [_, _], _ => rfl
  have g9 := PySem.W.mg_of X G a9
  have F10 := fun_mk (st := sCells) l10 c10 k10
  have b10 := F10.binds (ps := ["bill"]) fun _ _ _ _ _ _ us hl => match us, hl with | [_], _ => rfl
  have g10 := PySem.W.mg_of X G a10
  have F11 := fun_mk (st := sOneMore) l11 c11 k11
  have b11 := F11.binds (ps := ["cells", "table", "hold"]) fun _ _ _ _ _ _ us hl => match us, hl with | [_, _, _], _ => rfl
  have g11 := PySem.W.mg_of X G a11
  have F12 := fun_mk (st := sTables) l12 c12 k12
  have b12 := F12.binds (ps := ["lot", "bill"]) fun _ _ _ _ _ _ us hl => match us, hl with | [_, _], _ => rfl
  have g12 := PySem.W.mg_of X G a12
  have F13 := fun_mk (st := sTakings) l13 c13 k13
  have b13 := F13.binds (ps := ["bill", "hold"]) fun _ _ _ _ _ _ us hl => match us, hl with | [_, _], _ => rfl
  have g13 := PySem.W.mg_of X G a13
  have F14 := fun_mk (st := sHowMany) l14 c14 k14
  have b14 := F14.binds (ps := ["lot", "bill"]) fun _ _ _ _ _ _ us hl => match us, hl with | [_, _], _ => rfl
  have g14 := PySem.W.mg_of X G a14
  have F15 := fun_mk (st := sSignOf) l15 c15 k15
  have b15 := F15.binds (ps := ["number"]) fun _ _ _ _ _ _ us hl => match us, hl with | [_], _ => rfl
  have g15 := PySem.W.mg_of X G a15
  have F16 := fun_mk (st := sFirstPl) l16 c16 k16
  have b16 := F16.binds (ps := ["row"]) fun _ _ _ _ _ _ us hl => match us, hl with | [_], _ => rfl
  have g16 := PySem.W.mg_of X G a16
  have F17 := fun_mk (st := sWay) l17 c17 k17
  have b17 := F17.binds (ps := ["row"]) fun _ _ _ _ _ _ us hl => match us, hl with | [_], _ => rfl
  have g17 := PySem.W.mg_of X G a17
  have F18 := fun_mk (st := sSpan) l18 c18 k18
  have b18 := F18.binds (ps := ["lot"]) fun _ _ _ _ _ _ us hl => match us, hl with | [_], _ => rfl
  have g18 := PySem.W.mg_of X G a18
  have F19 := fun_mk (st := sSignRows) l19 c19 k19
  have b19 := F19.binds (ps := ["many"]) fun _ _ _ _ _ _ us hl => match us, hl with | [_], _ => rfl
  have g19 := PySem.W.mg_of X G a19
  have F20 := fun_mk (st := sHasSigns) l20 c20 k20
  have b20 := F20.binds (ps := ["row", "signs"]) fun _ _ _ _ _ _ us hl => match us, hl with | [_, _], _ => rfl
  have g20 := PySem.W.mg_of X G a20
  have F21 := fun_mk (st := sLetIn) l21 c21 k21
  have b21 := F21.binds (ps := ["row", "place", "sides", "waiting"]) fun _ _ _ _ _ _ us hl => match us, hl with | [_, _, _, _], _ => rfl
  have g21 := PySem.W.mg_of X G a21
  have F22 := fun_mk (st := sNoGr) l22 c22 k22
  have b22 := F22.binds (ps := ["row", "other", "many"]) fun _ _ _ _ _ _ us hl => match us, hl with | [_, _, _], _ => rfl
  have g22 := PySem.W.mg_of X G a22
  have F23 := fun_mk (st := sIsNew) l23 c23 k23
  have b23 := F23.binds (ps := ["row", "place", "sides"]) fun _ _ _ _ _ _ us hl => match us, hl with | [_, _, _], _ => rfl
  have g23 := PySem.W.mg_of X G a23
  have F24 := fun_mk (st := sTrim) l24 c24 k24
  have b24 := F24.binds (ps := ["row", "place", "fresh"]) fun _ _ _ _ _ _ us hl => match us, hl with | [_, _, _], _ => rfl
  have g24 := PySem.W.mg_of X G a24
  have F25 := fun_mk (st := sCompl) l25 c25 k25
  have b25 := F25.binds (ps := ["members", "place", "fresh"]) fun _ _ _ _ _ _ us hl => match us, hl with | [_, _, _], _ => rfl
  have g25 := PySem.W.mg_of X G a25
  have F26 := fun_mk (st := sLifted) l26 c26 k26
  have b26 := F26.binds (ps := ["rows", "place", "fresh"]) fun _ _ _ _ _ _ us hl => match us, hl with | [_, _, _], _ => rfl
  have g26 := PySem.W.mg_of X G a26
  have F27 := fun_mk (st := sGround) l27 c27 k27
  have b27 := F27.binds (ps := ["lot"]) fun _ _ _ _ _ _ us hl => match us, hl with | [_], _ => rfl
  have g27 := PySem.W.mg_of X G a27
  have F28 := fun_mk (st := sFeed) l28 c28 k28
  have b28 := F28.binds (ps := ["_law_script"]) fun _ _ _ _ _ _ us hl => match us, hl with | [_], _ => rfl
  have g28 := PySem.W.mg_of X G a28
  have F29 := fun_mk (st := sDraw) l29 c29 k29
  have b29 := F29.binds (ps := ["_law_feed_here", "_law_many"]) fun _ _ _ _ _ _ us hl => match us, hl with | [_, _], _ => rfl
  have g29 := PySem.W.mg_of X G a29
  have F30 := fun_mk (st := sHold) l30 c30 k30
  have b30 := F30.binds (ps := ["_law_feed_here", "_law_goods_here", "_law_most"]) fun _ _ _ _ _ _ us hl => match us, hl with | [_, _, _], _ => rfl
  have g30 := PySem.W.mg_of X G a30
  have F31 := fun_mk (st := sLot) l31 c31 k31
  have b31 := F31.binds (ps := ["_law_feed_here", "_law_goods_here", "_law_kinds", "_law_most"]) fun _ _ _ _ _ _ us hl => match us, hl with | [_, _, _, _], _ => rfl
  have g31 := PySem.W.mg_of X G a31
  have F32 := fun_mk (st := sPlain) l32 c32 k32
  have b32 := F32.binds (ps := ["_law_feed_here"]) fun _ _ _ _ _ _ us hl => match us, hl with | [_], _ => rfl
  have g32 := PySem.W.mg_of X G a32
  have F33 := fun_mk (st := sSmallBill) l33 c33 k33
  have b33 := F33.binds (ps := ["_law_feed_here", "_law_lot_here"]) fun _ _ _ _ _ _ us hl => match us, hl with | [_, _], _ => rfl
  have g33 := PySem.W.mg_of X G a33
  have F34 := fun_mk (st := sPlus) l34 c34 k34
  have b34 := F34.binds (ps := ["_law_one", "_law_other"]) fun _ _ _ _ _ _ us hl => match us, hl with | [_, _], _ => rfl
  have g34 := PySem.W.mg_of X G a34
  have F35 := fun_mk (st := sMinus) l35 c35 k35
  have b35 := F35.binds (ps := ["_law_one", "_law_other"]) fun _ _ _ _ _ _ us hl => match us, hl with | [_, _], _ => rfl
  have g35 := PySem.W.mg_of X G a35
  have F36 := fun_mk (st := sGood) l36 c36 k36
  have b36 := F36.binds (ps := ["_law_lot_here", "_law_counts", "_law_good_here"]) fun _ _ _ _ _ _ us hl => match us, hl with | [_, _, _], _ => rfl
  have g36 := PySem.W.mg_of X G a36
  have F37 := fun_mk (st := sLGoods) l37 c37 k37
  have b37 := F37.binds (ps := ["_law_lot_here", "_law_counts"]) fun _ _ _ _ _ _ us hl => match us, hl with | [_, _], _ => rfl
  have g37 := PySem.W.mg_of X G a37
  have FLe : FunD K "less" "less" (defArgs sLess) (defBody sLess) (defScope sLess) [.int 1] [] fLe (PySem.W.fnOf "less" "less" (defArgs sLess) (defBody sLess) (defScope sLess) (.ref TLe) kVLe dcLe pmLe anLe cdLe ctLe) :=
    ⟨⟨ocLe, odLe, .ref TLe, kVLe, dcLe, pmLe, anLe, cdLe, ctLe, slLe, rfl, lLe, cLe, .inr ⟨by simp, TLe, _, [.int 1 tkLe], nTLe, rfl, lTLe, rfl, .cons ⟨_, rfl⟩ .nil⟩, .inl rfl⟩, kLe⟩
  obtain ⟨dsLe, rdLe, bLe⟩ := FLe.binds1 (ps := ["row", "other", "times"]) 2 0 (by simp) rfl (fun T kV doc pm an cdv ct us its h1 h2 => by
    match us, its, h1, h2 with
    | [u0, u1], [k1], _, _ => exact ⟨_, rfl, rfl⟩)
  obtain ⟨ttLe, edLe⟩ : ∃ t, dsLe = [.int 1 t] := by
    cases rdLe with
    | cons r t =>
      cases t
      obtain ⟨q, rfl⟩ := r
      exact ⟨q, rfl⟩
  subst edLe
  obtain ⟨dzLe, rzLe, bzLe⟩ := FLe.binds1 (ps := ["row", "other", "times"]) 3 1 (by simp) rfl (fun T kV doc pm an cdv ct us its h1 h2 => by
    match us, its, h1, h2 with
    | [u0, u1, u2], [k1], _, _ => exact ⟨_, rfl, rfl⟩)
  have ezLe : dzLe = [] := by
    cases rzLe
    rfl
  subst ezLe
  have FW := fun_mk (st := sOneAt) lW cW kW
  have bW := FW.binds (ps := ["rows", "place"]) fun _ _ _ _ _ _ us hl => match us, hl with | [_, _], _ => rfl
  have gW := PySem.W.mg_of X G aW
  have kwFl : KwdV K (.ref DFl) [("most", .int (400))] := .inr ⟨DFl, rfl, fun q hq => by
    rw [List.mem_singleton.mp hq]
    exact ⟨_, nDFl, ⟨_, rfl⟩⟩⟩
  have FFl : FunD K "fillings" "fillings" (defArgs sFillings) (defBody sFillings) (defScope sFillings) [] [("most", .int (400))] fFl (PySem.W.fnOf "fillings" "fillings" (defArgs sFillings) (defBody sFillings) (defScope sFillings) .none (.ref DFl) dcFl pmFl anFl cdFl ctFl) :=
    ⟨⟨ocFl, odFl, .none, .ref DFl, dcFl, pmFl, anFl, cdFl, ctFl, slFl, rfl, lFl, cFl, .inl ⟨rfl, rfl⟩, kwFl⟩, kFl⟩
  obtain ⟨dsFl, rdFl, bFl⟩ := FFl.binds0 (ps := ["lot", "bill", "most"]) 2 (by simp) rfl (fun D doc pm an cdv ct us ks h1 h2 => by
    match us, ks, h1, h2 with
    | [u0, u1], [k1], _, _ => exact ⟨_, _, _, _, _, _, rfl, rfl, rfl⟩)
  obtain ⟨ttFl, edFl⟩ : ∃ t, dsFl = [.int (400) t] := by
    cases rdFl with
    | cons r t =>
      cases t
      obtain ⟨q, rfl⟩ := r
      exact ⟨q, rfl⟩
  subst edFl
  have FL := fun_mk (st := sLaw) lL cdL kL
  have M : Consts mg := ⟨⟨_, PySem.W.mg_of X G v6⟩, ⟨_, PySem.W.mg_of X G v5⟩, ⟨_, PySem.W.mg_of X G v3⟩⟩
  have B : Bl mg := ⟨PySem.W.mg_none_of X G z_len, PySem.W.mg_none_of X G z_list, PySem.W.mg_none_of X G z_tuple, PySem.W.mg_none_of X G z_dict, PySem.W.mg_none_of X G z_str, PySem.W.mg_none_of X G z_int, PySem.W.mg_none_of X G z_bool, PySem.W.mg_none_of X G z_isinstance, PySem.W.mg_none_of X G z_all, PySem.W.mg_none_of X G z_range, PySem.W.mg_none_of X G z_sum, PySem.W.mg_none_of X G z_min, PySem.W.mg_none_of X G z_max, PySem.W.mg_none_of X G z_enumerate⟩
  refine ⟨PySem.W.fnOf "law" "law" (defArgs sLaw) (defBody sLaw) (defScope sLaw) .none kVL dcL pmL anL cdvL ctL, [(ccW, PW)], spLaw K PW, fun p hp => ?_, fun p hp => ?_, fun p hp => ?_, fun s u => .of_eq rfl, fun H a ns hl _ hH hS => ⟨a, ns, rfl, hS, hl, fun p hp => ?_, fun _ => rfl⟩, fun base KB GB TB => ?_⟩
  · rw [List.mem_singleton.mp hp]; exact hTabW
  · rw [List.mem_singleton.mp hp]; exact nPW
  · rw [List.mem_singleton.mp hp]; exact PySem.W.codeHd_of_K X hdW
  · rw [List.mem_singleton.mp hp]; exact TabS.nil (hH (ccW, PW) List.mem_cons_self)
  · have Tb := TB (ccW, PW) List.mem_cons_self
    have cDraw : Cal l.prog w K mg base CX0 1 "_law_draw" ["_law_feed_here", "_law_many"] spDraw := ⟨⟨f29, _, ok_draw F29 B.len, g29, k29, b29⟩⟩
    have cHold : Cal l.prog w K mg base CX0 2 "_law_hold" ["_law_feed_here", "_law_goods_here", "_law_most"] spHold := ⟨⟨f30, _, ok_hold F30 B cDraw, g30, k30, b30⟩⟩
    have cLot : Cal l.prog w K mg base CX0 3 "_law_lot" ["_law_feed_here", "_law_goods_here", "_law_kinds", "_law_most"] spLot := ⟨⟨f31, _, ok_lot F31 B cDraw cHold, g31, k31, b31⟩⟩
    have cIH : Cal l.prog w K mg base CX0 1 "is_hold" ["hold", "goods"] spIsHold := ⟨⟨f0, _, ok_isHold F0 B M, g0, k0, b0⟩⟩
    have cLk : Cal l.prog w K mg base CX0 2 "look_lot" ["lot"] spLook0 := ⟨⟨f1, _, ok_look0 F1 B M cIH, g1, k1, b1⟩⟩
    have cGo : Cal l.prog w K mg base CX0 3 "goods_of" ["lot"] spGoods0 := ⟨⟨f2, _, ok_goods0 F2 B cLk, g2, k2, b2⟩⟩
    have cUn : Cal l.prog w K mg base CX0 1 "unit" ["place", "many"] spUnit := ⟨⟨f5, _, ok_unit F5, g5, k5, b5⟩⟩
    have cLe : CalLess l.prog w K mg base := ⟨fLe, _, ok_less FLe B (PySem.W.mg_none_of X G z_zip), PySem.W.mg_of X G aLe, kLe, bzLe⟩
    have hTw : ∀ p ∈ [(PW, qW)], p.1 = PW → p.2 = qW := fun p hp e => by
      rw [List.mem_singleton.mp hp]
    have cOA : Cal l.prog w K mg base CX0 5 "with_one_at" ["rows", "place"] (spOneAt [(PW, qW)]) := ⟨⟨fW, _, ok_oneAt List.mem_cons_self hTw lW cW Tb B (PySem.W.mg_none_of X G z_sorted) (PySem.W.mg_none_of X G z_abs) cLe, gW, kW, bW⟩⟩
    have cSp : Cal l.prog w K mg base CX0 6 "spanning" ["lot"] (spSpan [(PW, qW)]) := ⟨⟨f18, _, ok_span F18 B cGo cUn cOA, g18, k18, b18⟩⟩
    have cOp : Cal l.prog w K mg base CX0 1 "opposite" ["row"] spOpp := ⟨⟨f6, _, ok_opp F6 B, g6, k6, b6⟩⟩
    have cNu : Cal l.prog w K mg base CX0 1 "is_nought" ["row"] spNought := ⟨⟨f7, _, ok_nought F7 B, g7, k7, b7⟩⟩
    have cSo : Cal l.prog w K mg base CX0 1 "sign_of" ["number"] spSign := ⟨⟨f15, _, ok_sign F15, g15, k15, b15⟩⟩
    have cFp : Cal l.prog w K mg base CX0 1 "first_place" ["row"] spFirstP := ⟨⟨f16, _, ok_firstP F16 B, g16, k16, b16⟩⟩
    have cTw : Cal l.prog w K mg base CX0 2 "told_way" ["row"] spWay := ⟨⟨f17, _, ok_way F17 cFp cOp, g17, k17, b17⟩⟩
    have cSr : Cal l.prog w K mg base CX0 1 "sign_rows" ["many"] spSignRows := ⟨⟨f19, _, ok_signRows F19 B, g19, k19, b19⟩⟩
    have cHs : Cal l.prog w K mg base CX0 1 "has_signs" ["row", "signs"] (spHas K) := ⟨⟨f20, _, ok_has F20 B (PySem.W.mg_none_of X G z_zip), g20, k20, b20⟩⟩
    have cLi : Cal l.prog w K mg base CX0 2 "let_in" ["row", "place", "sides", "waiting"] spLetIn := ⟨⟨f21, _, ok_letIn F21 B (PySem.W.mg_none_of X G z_abs) cSo, g21, k21, b21⟩⟩
    have cNg : Cal l.prog w K mg base CX0 1 "is_no_greater" ["row", "other", "many"] spNoG := ⟨⟨f22, _, ok_noG F22 B (PySem.W.mg_none_of X G z_abs), g22, k22, b22⟩⟩
    have cIn : Cal l.prog w K mg base CX0 2 "is_new" ["row", "place", "sides"] spIsNew := ⟨⟨f23, _, ok_isNew F23 cNu cSo cNg, g23, k23, b23⟩⟩
    have cTr : Cal l.prog w K mg base CX0 2 "trimmed" ["row", "place", "fresh"] spTrim := ⟨⟨f24, _, ok_trim F24 (PySem.W.mg_none_of X G z_abs) cLe cSo, g24, k24, b24⟩⟩
    have cCo : Cal l.prog w K mg base CX0 3 "completed" ["members", "place", "fresh"] spCompl := ⟨⟨f25, _, ok_compl F25 B cLi cLe cTr cIn, g25, k25, b25⟩⟩
    have cLf : Cal l.prog w K mg base CX0 4 "lifted" ["rows", "place", "fresh"] spLift := ⟨⟨f26, _, ok_lifted F26 B cLe cOp cSr cHs cCo cTw, g26, k26, b26⟩⟩
    have cGr : Cal l.prog w K mg base CX0 7 "ground" ["lot"] (spGround [(PW, qW)]) := ⟨⟨f27, _, ok_ground F27 B (PySem.W.mg_none_of X G z_sorted) cSp cFp cTw cLf, g27, k27, b27⟩⟩
    have cLs : CalLessD l.prog w K mg base := ⟨fLe, _, ttLe, ok_lessS FLe B (PySem.W.mg_none_of X G z_zip), PySem.W.mg_of X G aLe, kLe, bLe⟩
    have cF0 : Cal l.prog w K mg base CX0 1 "first_wrong" ["row", "many"] spFirst0 := ⟨⟨f3, _, ok_first0 F3 B ⟨_, PySem.W.mg_of X G v30⟩, g3, k3, b3⟩⟩
    have cL0 : Cal l.prog w K mg base CX0 4 "look_bill" ["lot", "bill"] spLookBill0 := ⟨⟨f4, _, ok_lookBill0 F4 cF0 cGo, g4, k4, b4⟩⟩
    have cBx : Cal l.prog w K mg base CX0 1 "look_box" ["bill"] spBox0 := ⟨⟨f8, _, ok_box0 F8 ⟨_, PySem.W.mg_of X G v4000⟩, g8, k8, b8⟩⟩
    have cBo : Cal l.prog w K mg base CX0 5 "look_both" ["lot", "bill"] spBoth0 := ⟨⟨f9, _, ok_both0 F9 cL0 cBx, g9, k9, b9⟩⟩
    have cCe : Cal l.prog w K mg base CX0 1 "cells_of" ["bill"] spCells := ⟨⟨f10, _, ok_cells F10 B, g10, k10, b10⟩⟩
    have cOM : Cal l.prog w K mg base CX0 2 "with_one_more" ["cells", "table", "hold"] spOneMore := ⟨⟨f11, _, ok_oneMore F11 cLs, g11, k11, b11⟩⟩
    have cTa : Cal l.prog w K mg base CX0 3 "tables_of" ["lot", "bill"] spTables := ⟨⟨f12, _, ok_tables F12 B (PySem.W.mg_none_of X G z_reversed) cCe cOM, g12, k12, b12⟩⟩
    have cTk : Cal l.prog w K mg base CX0 2 "takings" ["bill", "hold"] spTakings := ⟨⟨f13, _, ok_takings F13 B cLs, g13, k13, b13⟩⟩
    have cGd : Cal l.prog w K mg base CX0 1 "_law_good" ["_law_lot_here", "_law_counts", "_law_good_here"] spGood := ⟨⟨f36, _, ok_good F36 B, g36, k36, b36⟩⟩
    have T : Txt l.prog w K mg base PW := {
        B := B
        feed := ⟨⟨f28, _, ok_feed F28 B.list, g28, k28, b28⟩⟩
        so := (PySem.W.mg_none_of X G z_sorted)
        pl := ⟨⟨f32, _, ok_plainX F32 cDraw cLot, g32, k32, b32⟩⟩
        sb := ⟨⟨f33, _, ok_smallBill F33 B cDraw, g33, k33, b33⟩⟩
        hm := ⟨⟨f14, _, ok_howMany F14 cBo cTa, g14, k14, b14⟩⟩
        fi := ⟨fFl, _, ttFl, ok_fil FFl B cBo cTa cTk, PySem.W.mg_of X G aFl, kFl, bFl⟩
        gs := ⟨⟨f37, _, ok_lGoods F37 B cGd, g37, k37, b37⟩⟩
        dr := cDraw
        gr := cGr
        ps := ⟨⟨f34, _, ok_plus F34 B, g34, k34, b34⟩⟩
        mi := ⟨⟨f35, _, ok_minus F35 B, g35, k35, b35⟩⟩ }
    exact ok_law FL T
end HL

open PySem PySem.W PyProof.Rows
set_option maxHeartbeats 0 in
theorem PySem.Challenge.cw_hamperlot_k11_whole_fillings_all_led_to_holds : PySem.Challenge.rw_hamperlot_k11_whole_fillings_all_led_to.Holds := by
  w_on; o_law; k_head; (case hw => w_witness2)
  k_fill
  refine LamX.walk_ofTs (l := PySem.Challenge.rw_hamperlot_k11_whole_fillings_all_led_to) (n := 63) (k := 8) (x := "_law_script") (CX := fun _ => L2.CX0) rfl (by decide) rfl ⟨rfl, by decide, by decide⟩ (fun w h Y => PySem.W.km_in_of Y) ?F (fun _ _ _ _ _ h => h)
  case F =>
    intro w mg fa h Y KX G hmg
    refine' HL.all_mk KX G hmg (PySem.W.km_tabs_of Y _ (List.mem_cons_self))  ?a0 ?l0 ?c0 ?k0 ?a1 ?l1 ?c1 ?k1 ?a2 ?l2 ?c2 ?k2 ?a3 ?l3 ?c3 ?k3 ?a4 ?l4 ?c4 ?k4 ?a5 ?l5 ?c5 ?k5 ?a6 ?l6 ?c6 ?k6 ?a7 ?l7 ?c7 ?k7 ?a8 ?l8 ?c8 ?k8 ?a9 ?l9 ?c9 ?k9 ?a10 ?l10 ?c10 ?k10 ?a11 ?l11 ?c11 ?k11 ?a12 ?l12 ?c12 ?k12 ?a13 ?l13 ?c13 ?k13 ?a14 ?l14 ?c14 ?k14 ?a15 ?l15 ?c15 ?k15 ?a16 ?l16 ?c16 ?k16 ?a17 ?l17 ?c17 ?k17 ?a18 ?l18 ?c18 ?k18 ?a19 ?l19 ?c19 ?k19 ?a20 ?l20 ?c20 ?k20 ?a21 ?l21 ?c21 ?k21 ?a22 ?l22 ?c22 ?k22 ?a23 ?l23 ?c23 ?k23 ?a24 ?l24 ?c24 ?k24 ?a25 ?l25 ?c25 ?k25 ?a26 ?l26 ?c26 ?k26 ?a27 ?l27 ?c27 ?k27 ?a28 ?l28 ?c28 ?k28 ?a29 ?l29 ?c29 ?k29 ?a30 ?l30 ?c30 ?k30 ?a31 ?l31 ?c31 ?k31 ?a32 ?l32 ?c32 ?k32 ?a33 ?l33 ?c33 ?k33 ?a34 ?l34 ?c34 ?k34 ?a35 ?l35 ?c35 ?k35 ?a36 ?l36 ?c36 ?k36 ?a37 ?l37 ?c37 ?k37 ?aLe ?lLe ?cLe ?kLe ?lTLe ?aW ?lW ?cW ?kW ?nPW ?hdW ?aFl ?lFl ?cFl ?kFl ?nDFl ?aL ?lL ?cdL ?kL ?v6 ?v5 ?v3 ?v30 ?v4000 ?z_len ?z_list ?z_tuple ?z_dict ?z_str ?z_int ?z_bool ?z_isinstance ?z_all ?z_range ?z_sum ?z_min ?z_max ?z_enumerate ?z_zip ?z_sorted ?z_abs ?z_reversed
    (case a0 => first | k_is | rfl)
    (case l0 => first | k_is | rfl)
    (case c0 => first | k_is | rfl)
    (case k0 => first | k_is | rfl)
    (case a1 => first | k_is | rfl)
    (case l1 => first | k_is | rfl)
    (case c1 => first | k_is | rfl)
    (case k1 => first | k_is | rfl)
    (case a2 => first | k_is | rfl)
    (case l2 => first | k_is | rfl)
    (case c2 => first | k_is | rfl)
    (case k2 => first | k_is | rfl)
    (case a3 => first | k_is | rfl)
    (case l3 => first | k_is | rfl)
    (case c3 => first | k_is | rfl)
    (case k3 => first | k_is | rfl)
    (case a4 => first | k_is | rfl)
    (case l4 => first | k_is | rfl)
    (case c4 => first | k_is | rfl)
    (case k4 => first | k_is | rfl)
    (case a5 => first | k_is | rfl)
    (case l5 => first | k_is | rfl)
    (case c5 => first | k_is | rfl)
    (case k5 => first | k_is | rfl)
    (case a6 => first | k_is | rfl)
    (case l6 => first | k_is | rfl)
    (case c6 => first | k_is | rfl)
    (case k6 => first | k_is | rfl)
    (case a7 => first | k_is | rfl)
    (case l7 => first | k_is | rfl)
    (case c7 => first | k_is | rfl)
    (case k7 => first | k_is | rfl)
    (case a8 => first | k_is | rfl)
    (case l8 => first | k_is | rfl)
    (case c8 => first | k_is | rfl)
    (case k8 => first | k_is | rfl)
    (case a9 => first | k_is | rfl)
    (case l9 => first | k_is | rfl)
    (case c9 => first | k_is | rfl)
    (case k9 => first | k_is | rfl)
    (case a10 => first | k_is | rfl)
    (case l10 => first | k_is | rfl)
    (case c10 => first | k_is | rfl)
    (case k10 => first | k_is | rfl)
    (case a11 => first | k_is | rfl)
    (case l11 => first | k_is | rfl)
    (case c11 => first | k_is | rfl)
    (case k11 => first | k_is | rfl)
    (case a12 => first | k_is | rfl)
    (case l12 => first | k_is | rfl)
    (case c12 => first | k_is | rfl)
    (case k12 => first | k_is | rfl)
    (case a13 => first | k_is | rfl)
    (case l13 => first | k_is | rfl)
    (case c13 => first | k_is | rfl)
    (case k13 => first | k_is | rfl)
    (case a14 => first | k_is | rfl)
    (case l14 => first | k_is | rfl)
    (case c14 => first | k_is | rfl)
    (case k14 => first | k_is | rfl)
    (case a15 => first | k_is | rfl)
    (case l15 => first | k_is | rfl)
    (case c15 => first | k_is | rfl)
    (case k15 => first | k_is | rfl)
    (case a16 => first | k_is | rfl)
    (case l16 => first | k_is | rfl)
    (case c16 => first | k_is | rfl)
    (case k16 => first | k_is | rfl)
    (case a17 => first | k_is | rfl)
    (case l17 => first | k_is | rfl)
    (case c17 => first | k_is | rfl)
    (case k17 => first | k_is | rfl)
    (case a18 => first | k_is | rfl)
    (case l18 => first | k_is | rfl)
    (case c18 => first | k_is | rfl)
    (case k18 => first | k_is | rfl)
    (case a19 => first | k_is | rfl)
    (case l19 => first | k_is | rfl)
    (case c19 => first | k_is | rfl)
    (case k19 => first | k_is | rfl)
    (case a20 => first | k_is | rfl)
    (case l20 => first | k_is | rfl)
    (case c20 => first | k_is | rfl)
    (case k20 => first | k_is | rfl)
    (case a21 => first | k_is | rfl)
    (case l21 => first | k_is | rfl)
    (case c21 => first | k_is | rfl)
    (case k21 => first | k_is | rfl)
    (case a22 => first | k_is | rfl)
    (case l22 => first | k_is | rfl)
    (case c22 => first | k_is | rfl)
    (case k22 => first | k_is | rfl)
    (case a23 => first | k_is | rfl)
    (case l23 => first | k_is | rfl)
    (case c23 => first | k_is | rfl)
    (case k23 => first | k_is | rfl)
    (case a24 => first | k_is | rfl)
    (case l24 => first | k_is | rfl)
    (case c24 => first | k_is | rfl)
    (case k24 => first | k_is | rfl)
    (case a25 => first | k_is | rfl)
    (case l25 => first | k_is | rfl)
    (case c25 => first | k_is | rfl)
    (case k25 => first | k_is | rfl)
    (case a26 => first | k_is | rfl)
    (case l26 => first | k_is | rfl)
    (case c26 => first | k_is | rfl)
    (case k26 => first | k_is | rfl)
    (case a27 => first | k_is | rfl)
    (case l27 => first | k_is | rfl)
    (case c27 => first | k_is | rfl)
    (case k27 => first | k_is | rfl)
    (case a28 => first | k_is | rfl)
    (case l28 => first | k_is | rfl)
    (case c28 => first | k_is | rfl)
    (case k28 => first | k_is | rfl)
    (case a29 => first | k_is | rfl)
    (case l29 => first | k_is | rfl)
    (case c29 => first | k_is | rfl)
    (case k29 => first | k_is | rfl)
    (case a30 => first | k_is | rfl)
    (case l30 => first | k_is | rfl)
    (case c30 => first | k_is | rfl)
    (case k30 => first | k_is | rfl)
    (case a31 => first | k_is | rfl)
    (case l31 => first | k_is | rfl)
    (case c31 => first | k_is | rfl)
    (case k31 => first | k_is | rfl)
    (case a32 => first | k_is | rfl)
    (case l32 => first | k_is | rfl)
    (case c32 => first | k_is | rfl)
    (case k32 => first | k_is | rfl)
    (case a33 => first | k_is | rfl)
    (case l33 => first | k_is | rfl)
    (case c33 => first | k_is | rfl)
    (case k33 => first | k_is | rfl)
    (case a34 => first | k_is | rfl)
    (case l34 => first | k_is | rfl)
    (case c34 => first | k_is | rfl)
    (case k34 => first | k_is | rfl)
    (case a35 => first | k_is | rfl)
    (case l35 => first | k_is | rfl)
    (case c35 => first | k_is | rfl)
    (case k35 => first | k_is | rfl)
    (case a36 => first | k_is | rfl)
    (case l36 => first | k_is | rfl)
    (case c36 => first | k_is | rfl)
    (case k36 => first | k_is | rfl)
    (case a37 => first | k_is | rfl)
    (case l37 => first | k_is | rfl)
    (case c37 => first | k_is | rfl)
    (case k37 => first | k_is | rfl)
    (case aLe => first | k_is | rfl)
    (case lLe => first | k_is | rfl)
    (case cLe => first | k_is | rfl)
    (case kLe => first | k_is | rfl)
    (case lTLe => first | k_is | rfl)
    (case aW => first | k_is | rfl)
    (case lW => first | k_is | rfl)
    (case cW => first | k_is | rfl)
    (case kW => first | k_is | rfl)
    (case nPW => first | k_is | rfl)
    (case hdW => first | k_is | rfl)
    (case aFl => first | k_is | rfl)
    (case lFl => first | k_is | rfl)
    (case cFl => first | k_is | rfl)
    (case kFl => first | k_is | rfl)
    (case nDFl => first | k_is | rfl)
    (case aL => first | k_is | rfl)
    (case lL => first | k_is | rfl)
    (case cdL => first | k_is | rfl)
    (case kL => first | k_is | rfl)
    (case v6 => first | k_is | rfl)
    (case v5 => first | k_is | rfl)
    (case v3 => first | k_is | rfl)
    (case v30 => first | k_is | rfl)
    (case v4000 => first | k_is | rfl)
    (case z_len => first | k_is | rfl)
    (case z_list => first | k_is | rfl)
    (case z_tuple => first | k_is | rfl)
    (case z_dict => first | k_is | rfl)
    (case z_str => first | k_is | rfl)
    (case z_int => first | k_is | rfl)
    (case z_bool => first | k_is | rfl)
    (case z_isinstance => first | k_is | rfl)
    (case z_all => first | k_is | rfl)
    (case z_range => first | k_is | rfl)
    (case z_sum => first | k_is | rfl)
    (case z_min => first | k_is | rfl)
    (case z_max => first | k_is | rfl)
    (case z_enumerate => first | k_is | rfl)
    (case z_zip => first | k_is | rfl)
    (case z_sorted => first | k_is | rfl)
    (case z_abs => first | k_is | rfl)
    (case z_reversed => first | k_is | rfl)

