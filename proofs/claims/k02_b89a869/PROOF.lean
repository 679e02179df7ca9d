import PyProof.Rows.All
import Wide.All
import OpenK.AllK
import Wide.FinOn
import PySem.Challenge.RW_hamperlot_k02_bills_judged
import HandS.ForMost
import HandS.Exc
import HandS.TryOnly
import HandS.ExcInit
import HandS.ExcField
import HandS.WordsExc
import HandS.Lambda
import HandS.EndTab
import HandS.IsInst
import HandS.TupMul
import HandS.TupAny
import HandS.Walk
import HandS.Defaults
import KE.KTupSum
import KE.DatumOrd
import KE.GoesEnum
import HandS.TryMany
import HandS.Wide
import HandS.Zip
import KE.KEqSeq
import KE.KNestM
set_option Elab.async false
set_option linter.all false
set_option maxRecDepth 100000
set_option maxHeartbeats 4000000
/-! Rules of one's own beside the layer's: sum, max, min of a tuple of ints; enumerate of a tuple; a tuple times 1. -/
namespace HL
open PySem PySem.Spec PyProof.Rows L2
section
variable {X : Cx}
theorem tupI {pins : List (Addr × Obj)} {σ : L2.St} {H : Hp} {s : Shared} {a : Addr} {ns : List Int} (I : Inv X pins σ H s) (h : SqT X.K H a (ns.map V.int)) :
    ∃ its : List Value, IntsAre its ns ∧ s.heap.IsTuple a its.toArray := by
  obtain ⟨its, rv, ⟨o, ho, hc, n, hd⟩, _⟩ := I.tuple h
  exact ⟨its, rv.ints, o, ho, hc, n, hd⟩
/-- sum(t) -/
def rSumT (K : PySem.W.Frag) : List V → Hp → VK → Prop := fun vs H Q =>
  ∃ (a : Addr) (ns : List Int), vs = [V.ref a] ∧ SqT K H a (ns.map V.int) ∧ Q (.int ns.sum) H
theorem cr_sumT (hc : X.calm = true) : CallR X (.builtin "sum") (rSumT X.K) := by
  intro pins s σ H vs us Q I r h
  obtain ⟨a, ns, rfl, hs, q⟩ := h
  obtain ⟨its, hi, hl⟩ := tupI I hs
  rw [Vals.ref1 r]
  obtain ⟨xs, e⟩ := hi.allInts.items
  have hn : numsOf (intItems xs).toList = ns := by
    rw [← e]
    exact hi.numsOf
  rw [nums_intItems] at hn
  rw [e] at hl
  refine PySem.W.ktm_sumG (I.ok.hd hc) hl fun h' tk t' hk => ?_
  rw [preSum_eq]
  rw [List.take_of_length_le (by simp), hn]
  exact ⟨.int _, H, I.kept hk, ⟨_, rfl⟩, q⟩
theorem maxOf_le (x : Int) (xs : List Int) : PySem.W.maxOf x xs ∈ x :: xs ∧ ∀ y ∈ x :: xs, y ≤ PySem.W.maxOf x xs := by
  induction xs generalizing x with
  | nil => exact ⟨List.mem_cons_self, fun y hy => by simp at hy; subst hy; exact Int.le_refl _⟩
  | cons z zs ih =>
    have e : PySem.W.maxOf x (z :: zs) = PySem.W.maxOf (if PySem.W.DatumOrd.lt x z = true then z else x) zs := rfl
    have d : (PySem.W.DatumOrd.lt x z = true) ↔ x < z := by
      show decide (x < z) = true ↔ x < z
      exact decide_eq_true_iff
    rw [e]
    by_cases c : x < z
    · rw [if_pos (d.mpr c)]
      obtain ⟨h1, h2⟩ := ih z
      refine ⟨List.mem_cons_of_mem _ h1, fun y hy => ?_⟩
      rcases List.mem_cons.mp hy with r | r
      · have := h2 z List.mem_cons_self
        omega
      · exact h2 y r
    · rw [if_neg (fun q => c (d.mp q))]
      obtain ⟨h1, h2⟩ := ih x
      refine ⟨?_, fun y hy => ?_⟩
      · rcases List.mem_cons.mp h1 with r | r
        · rw [r]; exact List.mem_cons_self
        · exact List.mem_cons_of_mem _ (List.mem_cons_of_mem _ r)
      · rcases List.mem_cons.mp hy with r | r
        · have := h2 x List.mem_cons_self
          omega
        · rcases List.mem_cons.mp r with r | r
          · have := h2 x List.mem_cons_self
            omega
          · exact h2 y (List.mem_cons_of_mem _ r)
theorem minOf_le (x : Int) (xs : List Int) : PySem.W.minOf x xs ∈ x :: xs ∧ ∀ y ∈ x :: xs, PySem.W.minOf x xs ≤ y := by
  induction xs generalizing x with
  | nil => exact ⟨List.mem_cons_self, fun y hy => by simp at hy; subst hy; exact Int.le_refl _⟩
  | cons z zs ih =>
    have e : PySem.W.minOf x (z :: zs) = PySem.W.minOf (if PySem.W.DatumOrd.lt z x = true then z else x) zs := rfl
    have d : (PySem.W.DatumOrd.lt z x = true) ↔ z < x := by
      show decide (z < x) = true ↔ z < x
      exact decide_eq_true_iff
    rw [e]
    by_cases c : z < x
    · rw [if_pos (d.mpr c)]
      obtain ⟨h1, h2⟩ := ih z
      refine ⟨List.mem_cons_of_mem _ h1, fun y hy => ?_⟩
      rcases List.mem_cons.mp hy with r | r
      · have := h2 z List.mem_cons_self
        omega
      · exact h2 y r
    · rw [if_neg (fun q => c (d.mp q))]
      obtain ⟨h1, h2⟩ := ih x
      refine ⟨?_, fun y hy => ?_⟩
      · rcases List.mem_cons.mp h1 with r | r
        · rw [r]; exact List.mem_cons_self
        · exact List.mem_cons_of_mem _ (List.mem_cons_of_mem _ r)
      · rcases List.mem_cons.mp hy with r | r
        · have := h2 x List.mem_cons_self
          omega
        · rcases List.mem_cons.mp r with r | r
          · have := h2 x List.mem_cons_self
            omega
          · exact h2 y (List.mem_cons_of_mem _ r)
/-- max(t), min(t) of ints -/
def rMaxT (K : PySem.W.Frag) : List V → Hp → VK → Prop := fun vs H Q =>
  ∃ (a : Addr) (ns : List Int), vs = [V.ref a] ∧ SqT K H a (ns.map V.int) ∧ 0 < ns.length ∧ ∀ m, m ∈ ns → (∀ y ∈ ns, y ≤ m) → Q (.int m) H
def rMinT (K : PySem.W.Frag) : List V → Hp → VK → Prop := fun vs H Q =>
  ∃ (a : Addr) (ns : List Int), vs = [V.ref a] ∧ SqT K H a (ns.map V.int) ∧ 0 < ns.length ∧ ∀ m, m ∈ ns → (∀ y ∈ ns, m ≤ y) → Q (.int m) H
theorem int_of_holds {h : Heap} {v : Value} {x : Int} (H : PySem.W.Holds h v x) : ∃ t, v = Value.int x t := by
  have z := PySem.W.HoldAll.toInts (PySem.W.HoldAll.cons H PySem.W.HoldAll.nil)
  cases z with
  | cons n t z => exact ⟨t, rfl⟩
theorem cr_maxT (hc : X.calm = true) (hu : X.A.units + 64 < cLine) : CallR X (.builtin "max") (rMaxT X.K) := by
  intro pins s σ H vs us Q I r h
  obtain ⟨a, ns, rfl, hs, hne, q⟩ := h
  obtain ⟨its, hi, hl⟩ := tupI I hs
  rw [Vals.ref1 r]
  cases ns with
  | nil => simp at hne
  | cons x xs =>
    refine PySem.W.max_tuple_datum (x := x) (xs := xs) (I.ok.hd hc) hl (PySem.W.HoldAll.of_ints (by simpa using hi)) (by show X.A.units + 1 + 0 < cLine; omega) fun i v h' tk _ hv hk => ?_
    obtain ⟨t, rfl⟩ := int_of_holds hv
    obtain ⟨h1, h2⟩ := maxOf_le x xs
    exact ⟨.int _, H, I.kept hk, ⟨_, rfl⟩, q _ h1 h2⟩
theorem cr_minT (hc : X.calm = true) (hu : X.A.units + 64 < cLine) : CallR X (.builtin "min") (rMinT X.K) := by
  intro pins s σ H vs us Q I r h
  obtain ⟨a, ns, rfl, hs, hne, q⟩ := h
  obtain ⟨its, hi, hl⟩ := tupI I hs
  rw [Vals.ref1 r]
  cases ns with
  | nil => simp at hne
  | cons x xs =>
    refine PySem.W.min_tuple_datum (x := x) (xs := xs) (I.ok.hd hc) hl (PySem.W.HoldAll.of_ints (by simpa using hi)) (by show X.A.units + 1 + 0 < cLine; omega) fun i v h' tk _ hv hk => ?_
    obtain ⟨t, rfl⟩ := int_of_holds hv
    obtain ⟨h1, h2⟩ := minOf_le x xs
    exact ⟨.int _, H, I.kept hk, ⟨_, rfl⟩, q _ h1 h2⟩
end
end HL

namespace HL
open PySem PySem.Spec PyProof.Rows L2
open AutoSeq1 (wpAny_loadPart')
/-! enumerate(t), t a tuple -/
abbrev oIt (t : Addr) : Obj := { cls := .type "tuple_iterator", data := .fields #[.ref t, .int 0 0] }
abbrev oEn (i : Addr) : Obj := { cls := .type "enumerate", data := .fields #[.none, .bool false, .ref i, rawInt 0, .none, .none] }
theorem meets_enumT (t : Addr) (items : Array Value) (o : Obj) (tyE : ∀ h : Heap, h.get? t = some o → h.IsTuple t items) :
    Meets (Builtin.«enumerate.__new__» ⟨[.type "enumerate", .ref t], []⟩)
      (fun _ R s => s.heap.get? t = some o ∧ R (.ok (.ret (.ref (s.heap.push (oIt t)).objs.size))) { s with heap := (s.heap.push (oIt t)).push (oEn s.heap.objs.size) }) :=
  .of_wp fun prog w A R s h => by
    obtain ⟨hp, g, d, tk, os⟩ := s
    obtain ⟨hl, h⟩ := h
    have hsub := sub_enumerate
    have hL : Heap.IsTuple (Shared.heap ⟨hp, g, d, tk, os⟩) t items := tyE _ hl
    wp_walk using wpAny_loadPart' hl
    refine wpAny_stack_any fun stk => wpAny_pure ?_
    split
    · rename_i c _ _ _ _ _
      cases (c == Value.type "enumerate") <;> (wp_walk using wpAny_loadPart' hl, wpAny_pyIter_tuple hL; exact ⟨_, rfl, h⟩)
    · wp_walk using wpAny_loadPart' hl, wpAny_pyIter_tuple hL
      exact ⟨_, rfl, h⟩
theorem call_enumT {prog : Program} {w : World} {A : Around} {E : Value → Shared → Prop} {s : Shared} {t : Addr} {items : Array Value} {Q : Value → Shared → Prop} (hL : s.heap.IsTuple t items)
    (h : ∀ h', IsEnum h' (s.heap.objs.size + 1) s.heap.objs.size 0 .none → h'.IsTupleIter s.heap.objs.size t 0 →
      (∀ b o, s.heap.get? b = some o → h'.get? b = some o) → Q (.ref (s.heap.objs.size + 1)) { s with heap := h' }) :
    wpAny (model prog w) A (call (.type "enumerate") [.ref t]) Q E s := by
  obtain ⟨o, hl, hc, n, hd⟩ := hL
  refine callType_new F.called_enumerate (by decide) (F.typeCall_enumerate_1 _) (F.newCall_enumerate_1 _) (fun obj => F.args_object_init_2 obj _) F.entry_enumerate_new
    (meets_enumT t items o fun h' e => ⟨o, e, hc, n, hd⟩) ⟨hl, ?_⟩
  have hz : (s.heap.push (oIt t)).objs.size = s.heap.objs.size + 1 := Heap.size_push ..
  show _ ∧ _
  rw [hz]
  have hen : IsEnum ((s.heap.push (oIt t)).push (oEn s.heap.objs.size)) (s.heap.objs.size + 1) s.heap.objs.size 0 .none := by
    have q := Heap.get?_push_size (s.heap.push (oIt t)) (o := oEn s.heap.objs.size) rfl
    rw [hz] at q
    exact q
  exact ⟨⟨_, hen, rfl⟩, h _ hen ⟨_, Heap.get?_push_of_some _ (Heap.get?_push_size _ rfl), rfl, rfl⟩ fun b o x => Heap.get?_push_of_some _ (Heap.get?_push_of_some _ x)⟩
theorem enum_endT {prog : Program} {w : World} {A : Around} {E : Value → Shared → Prop} {s : Shared} {e it t : Addr} {i : Nat} {items : Array Value} {old : Value} {Q : Option Value → Shared → Prop}
    (hh : A.handled = none) (hen : IsEnum s.heap e it i old) (hit : s.heap.IsTupleIter it t i) (hl : s.heap.IsTuple t items) (hx : items[i]? = none)
    (wish : ∀ h', Heap.ExtBut it s.heap h' → Q none { s with heap := h' }) : wpAny (model prog w) A (pyNext (.ref e)) Q E s := by
  have tyE : s.TypeIs (.ref e) "enumerate" := ⟨_, hen, rfl⟩
  unfold pyNext
  refine wpAny_bind (wpAny_attempt (wpAny_callSpecial?_slot (name := Str.ofString "__next__") tyE F.slot_enumerate_next (wpAny_call_entry F.slot_enumerate_next tyE F.entry_enumerate_next ?_ (F.args_enumerate_next_1 _))))
  show wpAny _ _ (field (.ref e) 2 >>= _) _ _ _
  refine wpAny_bind (wpAny_field hen rfl (x := .ref it) rfl (wpAny_bind (wpAny_nextOf_tuple_end hh hit hl hx fun h' x hen' hx' => ?_)))
  obtain ⟨o, ho, hc⟩ := hx'
  exact wpAny_bind (wpAny_isInstance (T := "StopIteration") (b := true) ⟨o, ho, hc⟩ isSubtype_stop (wpAny_pure (wish _ hen')))
/-- the tuple at a, each item in a new pair -/
def IteT (K : PySem.W.Frag) (a : Addr) : It where
  go := fun i H => ∃ (xs : List V) (x : V), SqT K H a xs ∧ xs[i]? = some x
  yld := fun i H v H' => ∃ T x, v = .ref T ∧ H T = none ∧ H' = upd H T (.tup [.int (i : Nat), x]) ∧ ∀ xs, SqT K H a xs → xs[i]? = some x
  stop := fun i H => ∃ xs : List V, SqT K H a xs ∧ xs.length ≤ i
theorem turn_enumT {P : Program} {w : World} {K : PySem.W.Frag} {elts : List Expr} {kk : Nat} {tpos : Pos} (a e it : Addr) (hai : a ≠ it) :
    Turn P w K (.Tuple elts kk tpos) (IteT K a) [e, it] e (fun i h => (∃ old, IsEnum h e it ((i : Nat) : Int) old) ∧ h.IsTupleIter it a i ∧ e ≠ it ∧ e ≠ a) where
  mem := by simp
  obj := fun i h sta b hb => by
    obtain ⟨⟨old, hen⟩, ⟨o, ho, hc, hd⟩, _⟩ := sta
    have e' : b = e ∨ b = it := by simpa using hb
    rcases e' with z | z
    · rw [z]
      exact ⟨_, hen, fun v q => nomatch q⟩
    · rw [z]
      exact ⟨o, ho, fun v q => by rw [hd] at q; cases q⟩
  keep := fun i h h' sta k => by
    obtain ⟨⟨old, hen⟩, hi, hne⟩ := sta
    exact ⟨⟨old, k e (by simp) _ hen⟩, hi.at fun o q => k it (by simp) o q, hne⟩
  item := by
    intro X hP hw hK hc i pins s σ H E I fpk sta hg
    subst hP hw hK
    obtain ⟨⟨old, hen⟩, hit, hne, hea⟩ := sta
    obtain ⟨xs, x, hq, hx⟩ := hg
    obtain ⟨its, rv, ⟨ot, hot, hct, nt, hdt⟩, hz⟩ := I.tuple hq
    have tyE : s.heap.IsTuple a its.toArray := ⟨ot, hot, hct, nt, hdt⟩
    obtain ⟨u, hu, ru⟩ := rv.get hx
    have hlt : i < its.toArray.size := by
      have := (List.getElem?_eq_some_iff.mp hu).1
      simpa using this
    have elt : e < s.heap.objs.size := Heap.lt_size hen
    have hil : it < s.heap.objs.size := by
      obtain ⟨_, q, _⟩ := hit
      exact Heap.lt_size q
    refine wpAny_pyNext_enum_itemD (Draws.tuple (A := X.A.in1) (I.ok.hd hc) it a hai its.toArray) hen ⟨hit, tyE⟩ hlt hne (by simp [hne, hea]) fun z h' tk hz' ho hit' hTn hsz kep => ?_
    have ez : z = u := by
      have q : its[i]? = some z := by simpa using hz'
      rw [hu] at q
      exact (Option.some.inj q).symm
    subst ez
    refine ⟨_, rfl, wpAny_letOwnedTupleGo_enum (s := { s with heap := h', toks := tk + 1 }) ho fun h'' hen' smb => ?_⟩
    have hT2 : h''.get? s.heap.objs.size = some { cls := .type "tuple", data := .seq #[.int i tk, z] } := (smb.2 _ (Nat.ne_of_gt elt)).trans hTn
    have new : ObjOk X.prog X.w (upd H s.heap.objs.size (.tup [.int (i : Nat), x])) h'' s.heap.objs.size (.tup [.int (i : Nat), x]) :=
      ⟨by show 2 ≤ sizeLine; decide, [.int i tk, z], .cons ⟨_, rfl⟩ (.cons ru .nil), ⟨_, hT2, rfl, _, rfl⟩⟩
    have I1 : Inv X pins σ (upd H s.heap.objs.size (.tup [.int (i : Nat), x])) { s with heap := h'', toks := tk + 1 } :=
      I.turnedNew (ch := [e, it]) (fun b ob hb q => (smb.2 b (fun z => hb (by simp [z]))).trans (kep b ob (fun z => hb (by simp [z])) (fun z => hb (by simp [z])) q)) fpk (Nat.le_refl _) new
    refine ⟨.ref s.heap.objs.size, _, I1, rfl, ⟨_, x, rfl, I.hok.fresh (Nat.le_refl _), rfl, fun ys hy => ?_⟩, ⟨⟨z, ?_⟩, hit'.1.at fun o q => (smb.2 it (Ne.symm hne)).trans q, hne, hea⟩, fun b hb => ?_⟩
    · rw [I.tuple_inj hy hq]
      exact hx
    · have eqi : ((i + 1 : Nat) : Int) = (i : Int) + 1 := by omega
      rw [eqi]
      exact hen'
    · have hb' : b < s.heap.objs.size := by
        have e' : b = e ∨ b = it := by simpa using hb
        rcases e' with z | z
        · rw [z]
          exact elt
        · rw [z]
          exact hil
      rw [upd_ne (Nat.ne_of_lt hb')]
      exact (fpk b hb).1
  done := by
    intro X hP hw hK hc i pins s σ H E I fpk sta hg
    subst hP hw hK
    obtain ⟨⟨old, hen⟩, hit, hne, hea⟩ := sta
    obtain ⟨xs, hq, hx⟩ := hg
    obtain ⟨its, rv, ⟨ot, hot, hct, nt, hdt⟩, hz⟩ := I.tuple hq
    obtain ⟨p0, p1, p2, p3, p4, p5⟩ := fpk it (by simp)
    have hl := rv.length
    refine enum_endT (I.ok.hd hc) hen hit ⟨ot, hot, hct, nt, hdt⟩ (by simp; omega) fun h' eb => ⟨rfl, I.turned (t' := s.toks) (fun b o hb q => eb b o hb q) p0 p1 p3 p4 p5⟩
  self := fun A i s Q E sta h => let ⟨⟨_, hen⟩, _⟩ := sta; wpAny_pyIter_enum hen h
def iEnumT (K : PySem.W.Frag) (ta : TA) : TI := fun σ H R => ta σ H fun vs H1 => ∃ a xs, vs = [.ref a] ∧ SqT K H1 a xs ∧ R (IteT K a) H1
theorem pi_enumT {X : Cx} {e : Expr} {ta : TA} {p pos tpos : Pos} {elts : List Expr} {kk : Nat} (hg : Gl X "enumerate") (hm : X.mg "enumerate" = none) (ha : PA X [e] ta)
    (hs : starEach [e] X.env = [(false, eval e X.env)] := by rfl) : PI X (.Tuple elts kk tpos) (.Call (.Name "enumerate" p) [e] [] pos) (iEnumT X.K ta) := by
  refine ⟨fun pins s σ H R I h => ?_⟩
  refine Call_ (ld_blt I hg hm boot_enumerate (PyProof.Rows.callWith_type1 (thn (ha.run pos pins s σ H _ I h) fun us sA ⟨vs, H1, I1, r1, q1⟩ => ?_) hs rfl))
  obtain ⟨a, xs, ex, hq, q⟩ := q1
  subst ex
  rw [Vals.ref1 r1]
  obtain ⟨its, rv, ⟨ot, hot, hct, nt, hdt⟩, hz⟩ := I1.tuple hq
  have hla : a < sA.heap.objs.size := Heap.lt_size hot
  refine call_enumT (items := its.toArray) ⟨ot, hot, hct, nt, hdt⟩ fun h' hen hit kep => wpAny_pyIter_enum hen ?_
  have JB : Inv X pins σ H1 { sA with heap := h' } := I1.kept (t' := sA.toks) kep
  refine ⟨sA.heap.objs.size + 1, [sA.heap.objs.size + 1, sA.heap.objs.size], _, _, H1, rfl, JB, turn_enumT a (sA.heap.objs.size + 1) sA.heap.objs.size (Nat.ne_of_lt hla),
    ⟨⟨.none, hen⟩, hit, Nat.succ_ne_self _, Nat.ne_of_gt (Nat.lt_succ_of_lt hla)⟩, fun b hb => ?_, q⟩
  have e' : b = sA.heap.objs.size + 1 ∨ b = sA.heap.objs.size := by simpa using hb
  have hle : sA.heap.objs.size ≤ b := by
    rcases e' with z | z
    · rw [z]
      exact Nat.le_add_right _ _
    · rw [z]
      exact Nat.le_refl _
  exact I1.fpOk hle (I1.hok.fresh hle)
end HL

namespace HL
open PySem PySem.Spec PyProof.Rows L2
open AutoSeq1 (wpAny_loadPart')
/-! t * k, k from 1 on: once is the tuple itself -/
theorem tuple_mul1 (l : Addr) (items : Array Value) (n : Nat) (dd : Option Addr) (sl : Array (Option Value)) (u : Tok) :
    Meets (Builtin.«tuple.__mul__» ⟨[.ref l, .int 1 u], []⟩)
      (fun _ R s => s.heap.get? l = some { cls := .type "tuple", dict := dd, data := .seq items n, slots := sl } ∧ R (.ok (.ret (.ref l))) s) :=
  .of_wp fun prog w A R s h => by
    obtain ⟨hp, g, d, tk, os⟩ := s
    obtain ⟨hl, h⟩ := h
    have f1 := AutoSeq1.idx_int
    have ht : Shared.TypeIs ⟨hp, g, d, tk, os⟩ (.ref l) "tuple" := ⟨_, hl, rfl⟩
    wp_walk using wpAny_loadPart' hl
    repeat (first
      | (refine wpAny_ite_false (by decide) ?_; wp_walk using wpAny_loadPart' hl)
      | (refine wpAny_ite_true (by cases items.isEmpty <;> decide) ?_; wp_walk using wpAny_loadPart' hl)
      | (refine wpAny_typeOf ht ?_; wp_walk using wpAny_loadPart' hl)
      | (refine wpAny_bind (wpAny_typeOf ht ?_); wp_walk using wpAny_loadPart' hl))
    exact ⟨_, rfl, h⟩
def rRepA (K : PySem.W.Frag) : R2 := fun x y H Q => ∃ l k xs, x = .ref l ∧ y = .int k ∧ SqT K H l xs ∧ xs ≠ [] ∧ 1 ≤ k ∧ k ≤ 1000 ∧ xs.length ≤ 1000 ∧
  (k = 1 → Q (.ref l) H) ∧ (k ≠ 1 → ∀ p, H p = none → Q (.ref p) (upd H p (.tup (List.replicate k.toNat xs).flatten)))
theorem op_repA {X : Cx} : OpR X (binaryOp .Mult) (rRepA X.K) := by
  intro pins s σ H x y v u Q I rx ry h
  obtain ⟨l, k, xs, rfl, rfl, hT, hne, h1, h2, hz, q1, q2⟩ := h
  by_cases hk : k = 1
  · subst hk
    have rx' := rx
    cases rx
    obtain ⟨t, rfl⟩ := ry
    obtain ⟨its, r, ⟨⟨cl, dd, dat, sl⟩, ho, hc, n, hd⟩, _⟩ := I.tuple hT
    simp only at hc hd
    subst hc hd
    exact wpAny_binaryOp_repeat_ref (T := "tuple") (U := "int") (by decide) ⟨_, ho, rfl⟩ (fun s' => typeIs_int s' 1 t) noFill_tuple_mul F.fills_int_mul F.slot_int_rmul repeat_tuple F.slot_int_index.lookup
      (call_meets F.slot_int_rmul (typeIs_int s 1 t) F.entry_int_rmul (F.args_int_rmul_2 _ _) (int_rmul_tuple 1 t l its.toArray n dd sl)
        ⟨ho, rfl, ⟨_, ho, rfl⟩, call_meets F.slot_tuple_mul ⟨_, ho, rfl⟩ F.entry_tuple_mul (F.args_tuple_mul_2 _ _) (tuple_mul1 l its.toArray n dd sl t) ⟨ho, ⟨.ref l, H, I, rfl, q1 rfl⟩⟩⟩)
  · exact op_repT pins s σ H _ _ v u Q I rx ry ⟨l, k, xs, rfl, rfl, hT, hne, by omega, h2, hz, q2 hk⟩
end HL

namespace HL
open PySem PySem.Spec PyProof.Rows L2
/-! several except clauses, each with a name -/
/-- behind a suite the name's slot is empty -/
abbrev offE (i : Nat) (D : Ends) : Ends := { nx := fun σ' H' => D.nx (σ'.set i none) H', rt := D.rt, bk := fun σ' H' => D.bk (σ'.set i none) H', ct := fun σ' H' => D.ct (σ'.set i none) H' }
def wManyA (K : PySem.W.Frag) (i : Nat) (Wout : WX) (D : Ends) : List (Value × (Addr → Value → Option Addr → TS)) → WX
  | [] => Wout
  | (c, ts) :: r => fun cls d σ H => ∃ b, PySem.W.exmOne K cls c = some b ∧ (b = true → ∀ a, H a = none → ts a cls d (offE i D) (σ.set i (some (.ref a))) H) ∧ (b = false → wManyA K i Wout D r cls d σ H)
inductive HdsA (X : Cx) (n : Str) : List ExceptHandler → List (Value × (Addr → Value → Option Addr → TS)) → Prop
  | nil : HdsA X n [] []
  | cons {x : Str} {c : Value} {ts : Addr → Value → Option Addr → TS} {b₀ : Stmt} {suite : List Stmt} {np pos' : Pos} {hds : List ExceptHandler} {l : List (Value × (Addr → Value → Option Addr → TS))} (hc : Names X x c)
      (hsu : ∀ (a : Addr) (oe : Obj) (cls : Value) (d : Option Addr) (pn : List (Addr × Obj)), Zc cls d oe → (∃ vs, oe.data = .fields vs) → PSs (X.suite a ((a, oe) :: pn)) (b₀ :: suite) (ts a cls d)) (r : HdsA X n hds l) :
      HdsA X n (.ExceptHandler (some (.Name x np)) (some n) (b₀ :: suite) pos' :: hds) ((c, ts) :: l)
section
variable {X : Cx} {n : Str} {i : Nat} {body : List Stmt} {h₀ : ExceptHandler} {hds : List ExceptHandler} {l : List (Value × (Addr → Value → Option Addr → TS))} {pos : Pos} {tb : WX → TS} {Wout : WX}
theorem ps_try_manyA (hs : X.stack = X.env :: X.outer) (hf : X.env.frame = some X.env.locals) (hN : X.N.Nodup) (hi : X.N[i]? = some n) (hln : X.env.kindOf n = some .local) (tk : Takes X Wout)
    (hb : ∀ (W : WX) (pn : List (Addr × Obj)) (xe : Value → Shared → Prop), Takes (X.tr pn xe) W → PassesOwn (model X.prog X.w) X.A X.env xe → PSs (X.tr pn xe) body (tb W)) (hh : HdsA X n (h₀ :: hds) l) :
    PS X (.Try body (h₀ :: hds) [] [] pos) (fun D σ H => tb (wManyA X.K i Wout D l) D σ H) := by
  refine ⟨fun pins s σ H D I hTB => ?_⟩
  have okI := I.ok
  have frA : X.A.frames = some (X.env :: X.outer) := by rw [okI.frames, hs]
  have locN : Loc X.env.scope n := .inl hln
  refine wpAny_Try_except (wpAny_mono ((hb (wManyA X.K i Wout D l) (X.pn ++ pins) (fun e sa => wpAny (model X.prog X.w) X.A (noteFrame e X.env) (fun _ sb => wpAny (model X.prog X.w) X.A (setFlight e none) (fun _ sc =>
    wpAny (model X.prog X.w) X.A (handleBy e X.env (h₀ :: hds)) (SP X pins D) X.xe sc) X.xe sb) X.xe sa) (fun u s' xx => ?_) PassesOwn.looking).run [] s σ H D (I.toTry _) hTB) (fun f sq hsp => ?_) (fun e sq he => he))
  · obtain ⟨a, B, sI, pins', σ', H', cls, d, rfl, J', nb, up, sky, na, os, ag, wsh⟩ := xx
    have J : Inv X pins σ' H' sI := J'.ofTry okI
    have skyE : Sky B (X.env :: X.outer) a (Zc cls d) X.env.locals s'.heap := by rw [← hs]; exact sky
    show wpAny (model X.prog X.w) X.A (noteFrame (.ref a) X.env) _ _ _
    refine Sky.land Zc.steady frA hf skyE fun hC flC upC => ?_
    have JC : Inv X pins σ' H' { s' with heap := hC } := J.landed nb flC.1 (up.trans upC) os ag
    obtain ⟨oC, vC, heC, hzC, hdC⟩ := flC.there
    have notFr : a ∉ frs (X.env :: X.outer) := fun hm => by
      obtain ⟨_, o', e', hnf⟩ := flC.2.2.1.mem hm
      rw [heC] at e'
      cases e'
      exact hnf _ hdC
    have nL : a ≠ X.env.locals := fun z => notFr (List.mem_filterMap.mpr ⟨X.env, List.mem_cons_self, by rw [hf, z]⟩)
    have nF : a ∉ X.fs := fun hm => by
      obtain ⟨e, he, q⟩ := List.mem_filterMap.mp hm
      exact notFr (List.mem_filterMap.mpr ⟨e, List.mem_cons_of_mem _ he, q⟩)
    have SC := JC.suite heC hdC na nL nF
    have go : ∀ {hd2 : List ExceptHandler} {l2 : List (Value × (Addr → Value → Option Addr → TS))}, HdsA X n hd2 l2 → wManyA X.K i Wout D l2 cls d σ' H' → wpAny (model X.prog X.w) X.A (handleBy (.ref a) X.env hd2) (SP X pins D) X.xe { s' with heap := hC } := by
      intro hd2 l2 hk
      induction hk with
      | nil =>
        intro wn
        refine wpAny_handleBy_nil ?_
        obtain ⟨k1, k2, k3, oe, vs, T, oT, ts', he, hz, hd, h1, hr⟩ := id flC
        unfold PySem.passOn
        refine wpAny_bind (wpAny_field he hd h1 ?_)
        rw [if_neg (show ¬ ((Value.ref T == Value.none) = true) from by simp)]
        have fin : wpAny (model X.prog X.w) X.A (setFlight (.ref a) X.env.frame) (fun _ sd => wpAny (model X.prog X.w) X.A (throw (.ref a) : Sem Flow) (SP X pins D) X.xe sd) X.xe { s' with heap := hC } := by
          rw [hf]
          refine HandSPX.setFlight_upZ flC fun hD hhD upD => wpAny_throw (tk _ _ ?_)
          exact ⟨a, B, sI, pins, σ', H', cls, d, rfl, J, nb, (up.trans upC).trans upD, .inr (.inr (by rw [hs]; exact hhD)), na, os, ag, wn⟩
        first
          | exact wpAny_bind (wpAny_pure (wpAny_bind fin))
          | exact wpAny_bind fin
      | @cons x c ts b₀ suite np pos' hd3 l3 hc hsu r ih =>
        intro wn
        obtain ⟨b, hb1, hyes, hno⟩ := wn
        refine wpAny_handleBy_cons (codeAny_handlers_test ?_) (by intro q; cases q)
        have LT : PySem.W.Looks (model X.prog X.w) hC (typeOf (.ref a)) cls := fun A Q E s k q => wpAny_typeOf_ref (k _ _ heC) (by rw [hzC.1]; exact q)
        have LM := PySem.W.exm_one (M := model X.prog X.w) (JC.kIn) LT hb1
        have look : ∀ {Q : Value → Shared → Prop} {E : Value → Shared → Prop}, Q c { s' with heap := hC } → wpAny (model X.prog X.w) (X.A.mark (some (.ref a))) (eval (.Name x np) X.env) Q E { s' with heap := hC } := fun {Q E} q => by
          obtain ⟨hg, hdbg, hm | ⟨hm, hv, hnn⟩⟩ := hc
          · exact ld_glob (X := X.suite a ((a, oC) :: (X.pn ++ pins))) SC hg hm q hdbg
          · exact ld_blt (X := X.suite a ((a, oC) :: (X.pn ++ pins))) SC hg hm hv q hnn hdbg
        refine look (LM.here ?_)
        cases b with
        | false =>
          show wpAny _ X.A (handleBy (.ref a) X.env hd3) _ _ _
          exact ih (hno rfl)
        | true =>
          refine codeAny_handlers_suite_as (HandSPX.lands_againZ flC fun hD flD upD => ?_)
          have JD : Inv X pins σ' H' { s' with heap := hD } := J.landed nb flD.1 ((up.trans upC).trans upD) os ag
          obtain ⟨oD, vD, heD, hzD, hdD⟩ := flD.there
          have SD := JD.suite heD hdD na nL nF
          refine store_ok (X := X.suite a ((a, oD) :: (X.pn ++ pins))) (v := .ref a) SD hN hi locN rfl (fun sE SE => ?_) (.inr hln)
          refine wpAny_mono ((hsu a oD cls d (X.pn ++ pins) hzD ⟨_, hdD⟩).run [] sE _ H' _ SE (hyes rfl a na)) (fun f sG hsp => ?_) (fun _ _ z => False.elim z)
          have off : ∀ {σG : L2.St} {HG : Hp} {Q : Shared → Prop}, Inv (X.suite a ((a, oD) :: (X.pn ++ pins))) [] σG HG sG → (∀ sH, Inv X pins (σG.set i none) HG sH → Q sH) →
              wpAny (model X.prog X.w) X.A (do bindName X.env n .none; unbindBehindTheSuite X.env n pos') (fun _ sH => Q sH) X.xe sG := fun {σG HG Q} SG hq => gone_ok (SG.unsuite okI) hN hi hln hq
          cases f with
          | ret u =>
            obtain ⟨vG, σG, HG, SG, rG, qG⟩ := hsp
            exact off SG fun sH JH => ⟨_, _, _, JH, rG, qG⟩
          | next =>
            obtain ⟨σG, HG, SG, qG⟩ := hsp
            exact off SG fun sH JH => ⟨_, _, JH, qG⟩
          | brk =>
            obtain ⟨σG, HG, SG, qG⟩ := hsp
            exact off SG fun sH JH => ⟨_, _, JH, qG⟩
          | cont =>
            obtain ⟨σG, HG, SG, qG⟩ := hsp
            exact off SG fun sH JH => ⟨_, _, JH, qG⟩
    exact go hh wsh
  · cases f with
    | ret u =>
      obtain ⟨v, σ', H', J', r, q⟩ := hsp
      exact ⟨v, σ', H', J'.ofTry okI, r, q⟩
    | next =>
      obtain ⟨σ', H', J', q⟩ := hsp
      exact wpAny_execs_nil ⟨σ', H', J'.ofTry okI, q⟩
    | brk =>
      obtain ⟨σ', H', J', q⟩ := hsp
      exact ⟨σ', H', J'.ofTry okI, q⟩
    | cont =>
      obtain ⟨σ', H', J', q⟩ := hsp
      exact ⟨σ', H', J'.ofTry okI, q⟩
end
end HL

namespace HL
open PySem PySem.Spec PyProof.Rows L2
open C8 (pss_cut)
/-! ### the text -/
def topS (i : Nat) : Stmt := PySem.Challenge.pw_hamperlot_k02_bills_judged.main.body.getD i (.Pass ⟨0, 0, 0, 0⟩)
abbrev sIsHold : Stmt := topS 10
abbrev sLook : Stmt := topS 11
abbrev sGoods : Stmt := topS 12
abbrev sFirst : Stmt := topS 13
abbrev sLookBill : Stmt := topS 14
abbrev sLookCounts : Stmt := topS 15
abbrev sPacked : Stmt := topS 16
abbrev sBillOf : Stmt := topS 17
abbrev sFeed : Stmt := topS 19
abbrev sDraw : Stmt := topS 20
abbrev sPick : Stmt := topS 21
abbrev sSame : Stmt := topS 22
abbrev sGreat : Stmt := topS 23
abbrev sHold : Stmt := topS 24
abbrev sLot : Stmt := topS 25
abbrev sAny : Stmt := topS 26
abbrev sPlus : Stmt := topS 27
abbrev sGood : Stmt := topS 28
abbrev sGoodsL : Stmt := topS 29
abbrev sNoughts : Stmt := topS 30
abbrev sFlaw : Stmt := topS 31
abbrev sBent : Stmt := topS 32
abbrev sTold : Stmt := topS 33
abbrev sLaw : Stmt := topS 34
/-! ### heaps -/
/-- all that stood but at f stands -/
def Kp (f : Addr) (H H' : Hp) : Prop := ∀ b o, b ≠ f → H b = some o → H' b = some o
theorem Kp.refl (f : Addr) (H : Hp) : Kp f H H := fun _ _ _ h => h
theorem Kp.trans {f : Addr} {H H1 H2 : Hp} (a : Kp f H H1) (b : Kp f H1 H2) : Kp f H H2 := fun c o n h => b c o n (a c o n h)
theorem Same.kp {f : Addr} {H H' : Hp} (a : Same H H') : Kp f H H' := fun b o _ h => a b o h
theorem Kp.put {f : Addr} {H : Hp} {o : HO} : Kp f H (upd H f o) := fun b _ n h => by
  rw [upd_ne n]
  exact h
theorem same_new {H : Hp} {p : Addr} {o : HO} (h : H p = none) : Same H (upd H p o) := fun b x e => by
  rw [upd_ne (ne_of_none e h)]
  exact e
theorem Kp.new {f : Addr} {H : Hp} {p : Addr} {o : HO} (h : H p = none) : Kp f H (upd H p o) := Same.kp (same_new h)
/-- the feed at f -/
def FeedAt (c : Addr) (H : Hp) (f : Addr) : Prop := ∃ (ns : List Int) (i b m n : Int),
  H f = some (.lst [.ref c, .int i, .int b, .int m, .int n]) ∧ H c = some (.lst (ns.map V.int)) ∧ 0 ≤ i ∧ 0 ≤ b ∧ 0 ≤ m ∧ m < 2147483647
theorem FeedAt.same {c : Addr} {H H' : Hp} {f : Addr} (F : FeedAt c H f) (s : Same H H') : FeedAt c H' f := by
  obtain ⟨ns, i, b, m, n, h1, h2, h3⟩ := F
  exact ⟨ns, i, b, m, n, s _ _ h1, s _ _ h2, h3⟩
theorem FeedAt.new {c : Addr} {H : Hp} {f p : Addr} {o : HO} (F : FeedAt c H f) (h : H p = none) : FeedAt c (upd H p o) f := F.same (same_new h)
theorem FeedAt.ne {c : Addr} {H : Hp} {f p : Addr} (F : FeedAt c H f) (h : H p = none) : p ≠ f := by
  obtain ⟨ns, i, b, m, n, h1, _⟩ := F
  exact fun e => by
    rw [e, h1] at h
    cases h
theorem FeedAt.neC {c : Addr} {H : Hp} {f p : Addr} (F : FeedAt c H f) (h : H p = none) : p ≠ c := by
  obtain ⟨ns, i, b, m, n, _, h1, _⟩ := F
  exact fun e => by
    rw [e, h1] at h
    cases h
theorem FeedAt.tup {c : Addr} {H : Hp} {f p : Addr} {xs : List V} (F : FeedAt c H f) (h : H p = some (.tup xs)) : p ≠ f := by
  obtain ⟨ns, i, b, m, n, h1, _⟩ := F
  exact ne_of h h1 (fun e => by cases e)
/-- another thing than the feed is written -/
theorem FeedAt.put {c : Addr} {H : Hp} {f D : Addr} {o : HO} (F : FeedAt c H f) (n1 : D ≠ f) (n2 : D ≠ c) : FeedAt c (upd H D o) f := by
  obtain ⟨ns, i, b, m, n, h1, h2, h3⟩ := F
  exact ⟨ns, i, b, m, n, by rw [upd_ne (Ne.symm n1)]; exact h1, by rw [upd_ne (Ne.symm n2)]; exact h2, h3⟩
/-- where nothing stood behind, nothing stood ahead -/
theorem Kp.free {f : Addr} {H H' : Hp} {p : Addr} (k : Kp f H H') (n : p ≠ f) (h : H' p = none) : H p = none := by
  cases e : H p with
  | none => rfl
  | some o =>
    rw [k _ _ n e] at h
    cases h
/-- what is new since H may be written -/
theorem Kp.late {f : Addr} {H H' : Hp} {D : Addr} {o : HO} (k : Kp f H H') (nD : H D = none) : Kp f H (upd H' D o) := fun b x n e => by
  rw [upd_ne (ne_of_none e nD)]
  exact k _ _ n e
theorem same_late {H H' : Hp} {D : Addr} {o : HO} (k : Same H H') (nD : H D = none) : Same H (upd H' D o) := fun b x e => by
  rw [upd_ne (ne_of_none e nD)]
  exact k _ _ e
theorem ref_ne {c : Addr} {ns : List Int} {r : List V} : (V.ref c :: r) ≠ ns.map V.int := by
  cases ns with
  | nil => exact fun e => by cases e
  | cons x xs => exact fun e => by simp at e
/-! ### the feed -/
theorem scFeed : FnScope ["_law_script"] ["_law_script"] (defScope sFeed) := ⟨rfl, rfl, rfl, by decide +kernel, rfl, by decide +kernel, by decide +kernel⟩
theorem scDraw : FnScope ["_law_feed_here", "_law_many", "_law_cell", "_law_digit", "_law_mix"] ["_law_feed_here", "_law_many"] (defScope sDraw) := ⟨rfl, rfl, rfl, by decide +kernel, rfl, by decide +kernel, by decide +kernel⟩
theorem scPick : FnScope ["_law_feed_here", "_law_row"] ["_law_feed_here", "_law_row"] (defScope sPick) := ⟨rfl, rfl, rfl, by decide +kernel, rfl, by decide +kernel, by decide +kernel⟩
section
variable {P : Program} {w : World} {K : PySem.W.Frag} {mg : Str → Option Value} {base : Heap}
def spFeed (K : PySem.W.Frag) : Sp := fun vs H Q _ => ∃ (a : Addr) (ns : List Int), vs = [.ref a] ∧ SqL K H a (ns.map V.int) ∧ ns.length ≤ 63 ∧
  ∀ H' f c, Same H H' → H f = none → FeedAt c H' f → Q (.ref f) H'
theorem cut_ints (ns : List Int) (lo hi : Option Int) : ∃ ms : List Int, cutV (ns.map V.int) lo hi = ms.map V.int := by
  refine ⟨(ns.drop (HT.sIx ns.length 0 lo)).take (HT.sIx ns.length ns.length hi - HT.sIx ns.length 0 lo), ?_⟩
  unfold cutV
  rw [List.length_map, List.map_take, List.map_drop]
theorem ok_feed {f : Addr} {fd : FuncData} {k : Nat} (F : Fun K "_law_feed" "_law_feed" sFeed f fd) (ml : mg "list" = none) : FnOk P w K mg base CX0 (k + 1) f fd ["_law_script"] (spFeed K) := by
  refine F.ok scFeed (fun vs H Q E h => ?_) (fun cdv A outer s H vs Q E hr h => ?_)
  · obtain ⟨a, ns, rfl, _⟩ := h
    rfl
  · obtain ⟨a, ns, rfl, hS, hlen, q⟩ := h
    refine ⟨_, pss_one (ps_ret (pe_lst (pa_cons (pe_callTy call_list_of (by rfl) ml (by decide +kernel) (pa_cons (pe_slice sl_list (pv 0) po_none (po_some pe_int)) pa_nil)) (pa_cons pe_int (pa_cons pe_int (pa_cons pe_int (pa_cons pe_int pa_nil))))))), ?_⟩
    obtain ⟨ms, hms⟩ := cut_ints ns none (some 63)
    refine ⟨.ref a, rfl, 63, rfl, a, ns.map V.int, rfl, hS, fun c nc => ?_⟩
    rw [hms]
    refine ⟨c, ms.map V.int, rfl, .inl (SqL.of upd_same), fun l nl => ?_⟩
    refine ⟨(by show 5 ≤ sizeLine; decide), fun g ng => ?_⟩
    refine q _ g l ?_ ?_ ⟨ms, 0, 0, 9132, 0, upd_same, ?_, by decide, by decide, by decide, by decide⟩
    · exact (same_new nc).trans ((same_new nl).trans (same_new ng))
    · exact (same_new nc).free ((same_new nl).free ng)
    · rw [upd_ne (fun e => by rw [← e, upd_same] at ng; cases ng), upd_same]

theorem atI_int {ns : List Int} {i : Int} (h0 : 0 ≤ i) (h1 : i < (ns.length : Nat)) : ∃ z, atI (ns.map V.int) i = some (.int z) := by
  have hl : i.toNat < ns.length := by omega
  refine ⟨ns[i.toNat], ?_⟩
  have e : ((i.toNat : Nat) : Int) = i := by omega
  refine (congrArg (atI (ns.map V.int)) e.symm).trans (atI_nat (j := i.toNat) ?_)
  rw [List.getElem?_map, List.getElem?_eq_getElem hl]
  rfl
def spDraw : Sp := fun vs H Q _ => ∃ (f c : Addr) (n : Int), vs = [.ref f, .int n] ∧ 1 ≤ n ∧ n ≤ 1000000000000000000000000000000 ∧ FeedAt c H f ∧
  ∀ d H', 0 ≤ d → d < n → Kp f H H' → FeedAt c H' f → Q (.int d) H'
theorem ok_draw {f : Addr} {fd : FuncData} {k : Nat} (F : Fun K "_law_draw" "_law_draw" sDraw f fd) (ml : mg "len" = none) : FnOk P w K mg base CX0 (k + 1) f fd ["_law_feed_here", "_law_many"] spDraw := by
  refine F.ok scDraw (fun vs H Q E h => ?_) (fun cdv A outer s H vs Q E hr h => ?_)
  · obtain ⟨a, c, n, rfl, _⟩ := h
    rfl
  · obtain ⟨a, c, n, rfl, n1, n2, ⟨ns, i, b, m, t, h1, h2, i0, b0, m0, m1⟩, q⟩ := h
    refine ⟨_, pss_cut (ps_if (PW.pt (pw_and (pt_cmpR op_lt (pe_ix ix_list (pv 0) pe_int (fun _ _ => rfl)) (pv 1) (nomark _))
          (pw_and1 (pt_cmpR op_lt (pe_ix ix_list (pv 0) pe_int (fun _ _ => rfl)) (pe_callB call_len_seq (by rfl) ml PySem.boot_len (pa_cons (pe_ix ix_list (pv 0) pe_int (fun _ _ => rfl)) pa_nil)) (nomark _)))))
        (pss_cons (ps_set (i := 2) scDraw.nd rfl (.inl rfl) (pe_ix ix_list (pe_ix ix_list (pv 0) pe_int (fun _ _ => rfl)) (pe_ix ix_list (pv 0) pe_int (fun _ _ => rfl)) (fun _ _ => rfl)))
        (pss_cons (ps_asg (pe_op op_add (pe_ix ix_list (pv 0) pe_int (fun _ _ => rfl)) pe_int) (pg_sub (pv 0) pe_int set_list))
        (pss_cons (ps_asg pe_int (pg_sub (pv 0) pe_int set_list))
        (pss_one (ps_if (pt_cmpR op_ge (pv 2) (pe_op op_pow pe_int pe_int) (nomark _))
          (pss_one (ps_asg (pv 2) (pg_sub (pv 0) pe_int set_list)))
          (pss_one (ps_asg (pe_op op_mod (pe_op op_add (pe_op op_add (pe_op op_mul (pe_ix ix_list (pv 0) pe_int (fun _ _ => rfl)) pe_int) (pe_op op_mul (pe_op op_mod (pv 2) pe_int) pe_int)) pe_int) pe_int) (pg_sub (pv 0) pe_int set_list))))))))
        pss_nil)
      (pss_cons (ps_if (pt_cmpR op_ge (pe_ix ix_list (pv 0) pe_int (fun _ _ => rfl)) (pv 1) (nomark _))
        (pss_cons (ps_set (i := 3) scDraw.nd rfl (.inl rfl) (pe_op op_mod (pe_ix ix_list (pv 0) pe_int (fun _ _ => rfl)) (pv 1)))
        (pss_cons (ps_asg (pe_op op_fdivW (pe_ix ix_list (pv 0) pe_int (fun _ _ => rfl)) (pv 1)) (pg_sub (pv 0) pe_int set_list))
        (pss_one (ps_ret (pv 3))))) pss_nil)
      (pss_cons (ps_asg (pe_op op_add (pe_ix ix_list (pv 0) pe_int (fun _ _ => rfl)) pe_int) (pg_sub (pv 0) pe_int set_list))
      (pss_cons (ps_set (i := 4) scDraw.nd rfl (.inl rfl) (pe_ix ix_list (pv 0) pe_int (fun _ _ => rfl)))
      (pss_cons (ps_set (i := 4) scDraw.nd rfl (.inl rfl) (pe_op op_add (pe_op op_add (pe_op op_add (pe_op op_mul (pe_op op_mod (pe_op op_mul (pv 4) (pv 4)) pe_int) pe_int) (pe_op op_mul (pv 4) pe_int)) (pe_op op_mul pe_int (pe_ix ix_list (pv 0) pe_int (fun _ _ => rfl)))) pe_int))
      (pss_cons (ps_asg (pe_op op_mod (pv 4) pe_int) (pg_sub (pv 0) pe_int set_list))
      (pss_one (ps_ret (pe_op op_mod (pe_op op_add (pe_op op_fdiv (pe_ix ix_list (pv 0) pe_int (fun _ _ => rfl)) pe_int) (pe_op op_mul (pe_op op_mod (pe_ix ix_list (pv 0) pe_int (fun _ _ => rfl)) pe_int) pe_int)) (pv 1))))))))), ?_⟩
    have hca : c ≠ a := fun e => by
      rw [e, h1] at h2
      exact ref_ne (HO.lst.inj (Option.some.inj h2))
    refine ⟨fun σ' H' => ∃ (y2 : Option V) (i b m t : Int), σ' = [some (.ref a), some (.int n), y2, none, none] ∧ Kp a H H' ∧ H' a = some (.lst [.ref c, .int i, .int b, .int m, .int t]) ∧ 0 ≤ i ∧ 0 ≤ b ∧ 0 ≤ m ∧ m < 2147483647, ?_, ?_⟩
    · refine ⟨.ref a, rfl, a, _, 2, .int b, rfl, rfl, SqL.of h1, atI_nat (j := 2) rfl, .int n, rfl, b, n, rfl, rfl, _, rfl, ite2 (fun c1 => ?_) (fun c1 => ?_)⟩
      · refine ⟨.ref a, rfl, a, _, 1, .int i, rfl, rfl, SqL.of h1, atI_nat (j := 1) rfl, .ref a, rfl, a, _, 0, .ref c, rfl, rfl, SqL.of h1, atI_nat (j := 0) rfl, c, _, rfl, .inl (SqL.of h2), i, _, rfl, rfl, _, rfl, ite2 (fun c2 => ?_) (fun c2 => ?_)⟩
        · have hi : i < (ns.length : Nat) := by
            have := of_decide_eq_true c2
            rw [List.length_map] at this
            exact this
          obtain ⟨z, hz⟩ := atI_int i0 hi
          refine ⟨.ref a, rfl, a, _, 0, .ref c, rfl, rfl, SqL.of h1, atI_nat (j := 0) rfl, .ref a, rfl, a, _, 1, .int i, rfl, rfl, SqL.of h1, atI_nat (j := 1) rfl, c, _, i, .int z, rfl, rfl, SqL.of h2, hz, ?_⟩
          refine ⟨.ref a, rfl, a, _, 1, .int i, rfl, rfl, SqL.of h1, atI_nat (j := 1) rfl, i, 1, rfl, rfl, .ref a, rfl, a, _, 1, 1, rfl, rfl, h1, rfl, ?_⟩
          refine ⟨.ref a, rfl, a, _, 2, 2, rfl, rfl, upd_same, rfl, ?_⟩
          refine ⟨.int z, rfl, 10, 18, rfl, rfl, ⟨by decide, by decide, by decide⟩, z, _, rfl, rfl, _, rfl, ite2 (fun c3 => ?_) (fun c3 => ?_)⟩
          · have z0 : (10 : Int) ^ (18 : Int).toNat ≤ z := of_decide_eq_true c3
            have z1 : (0 : Int) ≤ z := Int.le_trans (by decide) z0
            refine ⟨.int z, rfl, .ref a, rfl, a, _, 2, 2, rfl, rfl, upd_same, rfl, ?_⟩
            exact ⟨_, i + 1, z, m, t, rfl, Kp.put.trans (Kp.put.trans Kp.put), upd_same, by omega, z1, m0, m1⟩
          · refine ⟨.ref a, rfl, a, _, 3, .int m, rfl, rfl, SqL.of upd_same, atI_nat (j := 3) rfl, m, 48271, rfl, rfl, .inr ⟨by decide, by decide⟩, .int z, rfl, z, 1000000007, rfl, rfl, (by show (0 : Int) < 1000000007; decide), _, 69621, rfl, rfl, .inr ⟨by decide, by decide⟩, _, _, rfl, rfl, _, 11, rfl, rfl, _, 2147483647, rfl, rfl, (by show (0 : Int) < 2147483647; decide), .ref a, rfl, a, _, 3, 3, rfl, rfl, upd_same, rfl, ?_⟩
            exact ⟨_, i + 1, 0, _, t, rfl, Kp.put.trans (Kp.put.trans Kp.put), upd_same, by omega, by decide, Int.emod_nonneg _ (by decide), Int.emod_lt_of_pos _ (by decide)⟩
        · exact ⟨none, i, b, m, t, rfl, Kp.refl _ _, h1, i0, b0, m0, m1⟩
      · exact ⟨none, i, b, m, t, rfl, Kp.refl _ _, h1, i0, b0, m0, m1⟩
    · rintro σ' H' ⟨y2, i, b, m, t, rfl, kp, g1, i0, b0, m0, m1⟩
      have g2 : H' c = some (.lst (ns.map V.int)) := kp _ _ hca h2
      refine ⟨.ref a, rfl, a, _, 2, .int b, rfl, rfl, SqL.of g1, atI_nat (j := 2) rfl, .int n, rfl, b, n, rfl, rfl, _, rfl, ite2 (fun c1 => ?_) (fun c1 => ?_)⟩
      · refine ⟨.ref a, rfl, a, _, 2, .int b, rfl, rfl, SqL.of g1, atI_nat (j := 2) rfl, .int n, rfl, b, n, rfl, rfl, (by show (0 : Int) < n; omega), ?_⟩
        refine ⟨.ref a, rfl, a, _, 2, .int b, rfl, rfl, SqL.of g1, atI_nat (j := 2) rfl, .int n, rfl, b, n, rfl, rfl, wide_div (b := 100) (by omega) (by omega) (by decide) (by decide), .ref a, rfl, a, _, 2, 2, rfl, rfl, g1, rfl, ?_⟩
        refine ⟨_, rfl, q _ _ (Int.emod_nonneg _ (by omega)) (Int.emod_lt_of_pos _ (by omega)) (kp.trans Kp.put) ⟨ns, i, _, m, t, upd_same, ?_, i0, Int.ediv_nonneg b0 (by omega), m0, m1⟩⟩
        rw [upd_ne hca]
        exact g2
      · refine ⟨.ref a, rfl, a, _, 4, .int t, rfl, rfl, SqL.of g1, atI_nat (j := 4) rfl, t, 1, rfl, rfl, .ref a, rfl, a, _, 4, 4, rfl, rfl, g1, rfl, ?_⟩
        refine ⟨.ref a, rfl, a, _, 3, .int m, rfl, rfl, SqL.of upd_same, atI_nat (j := 3) rfl, ?_⟩
        refine ⟨.int m, rfl, .int m, rfl, m, m, rfl, rfl, .inl ⟨by omega, by omega⟩, _, 2147483587, rfl, rfl, (by show (0 : Int) < 2147483587; decide), _, 16807, rfl, rfl, .inr ⟨by decide, by decide⟩, .int m, rfl, m, 48271, rfl, rfl, .inr ⟨by decide, by decide⟩, _, _, rfl, rfl, .ref a, rfl, a, _, 4, .int (t + 1), rfl, rfl, SqL.of upd_same, atI_nat (j := 4) rfl, 97, t + 1, rfl, rfl, .inl ⟨by decide, by decide⟩, _, _, rfl, rfl, _, 12345, rfl, rfl, ?_⟩
        refine ⟨_, rfl, _, 2147483647, rfl, rfl, (by show (0 : Int) < 2147483647; decide), .ref a, rfl, a, _, 3, 3, rfl, rfl, upd_same, rfl, ?_⟩
        refine ⟨.ref a, rfl, a, _, 3, _, rfl, rfl, SqL.of upd_same, atI_nat (j := 3) rfl, _, 64, rfl, rfl, ⟨by decide, by decide⟩, .ref a, rfl, a, _, 3, _, rfl, rfl, SqL.of upd_same, atI_nat (j := 3) rfl, _, 4093, rfl, rfl, (by show (0 : Int) < 4093; decide), _, 31, rfl, rfl, .inr ⟨by decide, by decide⟩, _, _, rfl, rfl, .int n, rfl, _, n, rfl, rfl, (by show (0 : Int) < n; omega), ?_⟩
        refine q _ _ (Int.emod_nonneg _ (by omega)) (Int.emod_lt_of_pos _ (by omega)) (kp.trans (Kp.put.trans Kp.put)) ⟨ns, i, b, _, t + 1, upd_same, ?_, i0, b0, Int.emod_nonneg _ (by decide), Int.emod_lt_of_pos _ (by decide)⟩
        rw [upd_ne hca, upd_ne hca]
        exact g2
end
end HL

namespace HL
open PySem PySem.Spec PyProof.Rows L2
open C8 (pss_cut)
/-- a def of the module as its callers take it -/
structure Cal (P : Program) (w : World) (K : PySem.W.Frag) (mg : Str → Option Value) (base : Heap) (CX : CXT) (j : Nat) (x : Str) (ps : List Str) (sp : Sp) : Prop where
  ex : ∃ f fd, FnOk P w K mg base CX j f fd ps sp ∧ mg x = some (.ref f) ∧ PySem.W.keepIn K (.ref f) = true ∧ Binds K fd ps []
section
variable {P : Program} {w : World} {K : PySem.W.Frag} {mg : Str → Option Value} {base : Heap}
/-! ### pick -/
def spPick : Sp := fun vs H Q _ => ∃ (f c r : Addr) (xs : List V), vs = [.ref f, .ref r] ∧ H r = some (.lst xs) ∧ r ≠ f ∧ 1 ≤ xs.length ∧ xs.length ≤ 1000 ∧ FeedAt c H f ∧
  ∀ v H', v ∈ xs → Kp f H H' → FeedAt c H' f → Q v H'
theorem atI_mem {xs : List V} {i : Int} (h0 : 0 ≤ i) (h1 : i < (xs.length : Nat)) : ∃ z, atI xs i = some z ∧ z ∈ xs ∧ xs[i.toNat]? = some z := by
  have hl : i.toNat < xs.length := by omega
  have e : ((i.toNat : Nat) : Int) = i := by omega
  exact ⟨xs[i.toNat], (congrArg (atI xs) e.symm).trans (atI_nat (j := i.toNat) (List.getElem?_eq_getElem hl)), List.getElem_mem hl, List.getElem?_eq_getElem hl⟩
theorem ok_pick {f : Addr} {fd : FuncData} (F : Fun K "_law_pick" "_law_pick" sPick f fd) (ml : mg "len" = none) (CD : Cal P w K mg base CX0 1 "_law_draw" ["_law_feed_here", "_law_many"] spDraw) :
    FnOk P w K mg base CX0 2 f fd ["_law_feed_here", "_law_row"] spPick := by
  obtain ⟨fD, fdD, GD, gD, kD, bD⟩ := CD.ex
  refine F.ok scPick (fun vs H Q E h => ?_) (fun cdv A outer s H vs Q E hr h => ?_)
  · obtain ⟨a, c, r, xs, rfl, _⟩ := h
    rfl
  · obtain ⟨a, c, r, xs, rfl, hx, hne, l1, l2, Fd, q⟩ := h
    refine ⟨_, pss_one (ps_ret (pe_ix ix_list (pv 1) (pe_call GD hr (by rfl) gD kD bD .nil pass0 (pa_cons (pv 0) (pa_cons (pe_callB call_len_seq (by rfl) ml PySem.boot_len (pa_cons (pv 1) pa_nil)) pa_nil))) (fun _ _ => rfl))), ?_⟩
    refine ⟨.ref r, rfl, .ref a, rfl, .ref r, rfl, r, xs, rfl, .inl (SqL.of hx), a, c, (xs.length : Nat), rfl, by omega, by omega, Fd, fun d H' d0 d1 kp F' => ?_⟩
    obtain ⟨z, hz, hm, _⟩ := atI_mem d0 d1
    exact ⟨r, xs, d, z, rfl, rfl, SqL.of (kp _ _ hne hx), hz, q z H' hm kp F'⟩
/-! ### same -/
def leafV : V → Bool
  | .non => true
  | .bl _ => true
  | .int _ => true
  | .str _ => true
  | _ => false
/-- alike at depth d: leaves, or lists or tuples of such -/
def Eqd (H : Hp) : Nat → V → V → Prop
  | 0, x, y => x = y ∧ leafV x = true
  | d + 1, x, y => (x = y ∧ leafV x = true) ∨ ∃ (a b : Addr) (xs ys : List V), x = .ref a ∧ y = .ref b ∧ ((H a = some (.lst xs) ∧ H b = some (.lst ys)) ∨ (H a = some (.tup xs) ∧ H b = some (.tup ys))) ∧
      xs.length = ys.length ∧ xs.length ≤ 1000 ∧ ∀ (i : Nat) (x y : V), xs[i]? = some x → ys[i]? = some y → Eqd H d x y
theorem Eqd.same {H H' : Hp} (s : Same H H') : ∀ {d : Nat} {x y : V}, Eqd H d x y → Eqd H' d x y
  | 0, _, _, h => h
  | d + 1, _, _, .inl h => .inl h
  | d + 1, _, _, .inr ⟨a, b, xs, ys, ex, ey, hs, hl, hz, ih⟩ => .inr ⟨a, b, xs, ys, ex, ey, hs.imp (fun q => ⟨s _ _ q.1, s _ _ q.2⟩) (fun q => ⟨s _ _ q.1, s _ _ q.2⟩), hl, hz, fun i x y h1 h2 => Eqd.same s (ih i x y h1 h2)⟩
def spSame (d : Nat) : Sp := fun vs H Q _ => ∃ x y, vs = [x, y] ∧ Eqd H d x y ∧ ∀ H', Same H H' → Q (.bl true) H'
theorem scSame : FnScope ["_law_found", "_law_due", "_law_at"] ["_law_found", "_law_due"] (defScope sSame) := ⟨rfl, rfl, rfl, by decide +kernel, rfl, by decide +kernel, by decide +kernel⟩
structure Bl (mg : Str → Option Value) : Prop where
  len : mg "len" = none
  list : mg "list" = none
  tuple : mg "tuple" = none
  dict : mg "dict" = none
  str : mg "str" = none
  int : mg "int" = none
  bool : mg "bool" = none
  isinstance : mg "isinstance" = none
  all : mg "all" = none
  range : mg "range" = none
  sum : mg "sum" = none
  min : mg "min" = none
  max : mg "max" = none
  enumerate : mg "enumerate" = none
theorem ok_same_leaf {f : Addr} {fd : FuncData} {k : Nat} (F : Fun K "_law_same" "_law_same" sSame f fd) (B : Bl mg) : FnOk P w K mg base CX0 (k + 1) f fd ["_law_found", "_law_due"] (spSame 0) := by
  refine F.ok scSame (fun vs H Q E h => ?_) (fun cdv A outer s H vs Q E hr h => ?_)
  · obtain ⟨x, y, rfl, _⟩ := h
    rfl
  · obtain ⟨x, y, rfl, ⟨rfl, hlf⟩, q⟩ := h
    refine ⟨_, pss_cons (ps_if (pt_cmpR op_isN (pv 1) pe_non (nomark _)) (pss_one (ps_ret (pe_cmp (pc_isN (pv 0)) rfl))) pss_nil)
      (pss_cons (ps_if (pt_val (pe_callB call_isi (by rfl) B.isinstance (by decide +kernel) (pa_cons (pv 1) (pa_cons (pe_bltn (v := .ty "bool") (by rfl) B.bool (by decide +kernel) rfl) pa_nil))))
          (pss_one (ps_ret (pe_and (pe_callB call_isi (by rfl) B.isinstance (by decide +kernel) (pa_cons (pv 0) (pa_cons (pe_bltn (v := .ty "bool") (by rfl) B.bool (by decide +kernel) rfl) pa_nil))) (pe_one (pe_cmpR op_eq (pv 0) (pv 1) (nomark _)))))) pss_nil)
      (pss_cons (ps_if (pt_val (pe_callB call_isi (by rfl) B.isinstance (by decide +kernel) (pa_cons (pv 1) (pa_cons (pe_bltn (v := .ty "int") (by rfl) B.int (by decide +kernel) rfl) pa_nil))))
          (pss_one (ps_ret (pe_and (pe_callB call_isi (by rfl) B.isinstance (by decide +kernel) (pa_cons (pv 0) (pa_cons (pe_bltn (v := .ty "int") (by rfl) B.int (by decide +kernel) rfl) pa_nil)))
            (pe_and (pe_not (pe_callB call_isi (by rfl) B.isinstance (by decide +kernel) (pa_cons (pv 0) (pa_cons (pe_bltn (v := .ty "bool") (by rfl) B.bool (by decide +kernel) rfl) pa_nil)))) (pe_one (pe_cmpR op_eq (pv 0) (pv 1) (nomark _))))))) pss_nil)
      (pss_cons (ps_if (pt_val (pe_callB call_isi (by rfl) B.isinstance (by decide +kernel) (pa_cons (pv 1) (pa_cons (pe_bltn (v := .ty "str") (by rfl) B.str (by decide +kernel) rfl) pa_nil))))
          (pss_one (ps_ret (pe_and (pe_callB call_isi (by rfl) B.isinstance (by decide +kernel) (pa_cons (pv 0) (pa_cons (pe_bltn (v := .ty "str") (by rfl) B.str (by decide +kernel) rfl) pa_nil))) (pe_one (pe_cmpR op_eq (pv 0) (pv 1) (nomark _)))))) pss_nil)
      pss_never))), ?_⟩
    cases x with
    | non => exact ⟨_, rfl, rfl, _, rfl, iteT ⟨_, rfl, q _ (Same.refl _)⟩⟩
    | bl b =>
      refine ⟨_, rfl, rfl, _, rfl, iteF ?_⟩
      refine ⟨_, rfl, _, _, _, _, true, rfl, .ty "bool", .base (.bl b), kit_ty (by decide +kernel), _, rfl, iteT ?_⟩
      refine ⟨_, rfl, _, _, _, _, true, rfl, .ty "bool", .base (.bl b), kit_ty (by decide +kernel), _, rfl, iteT ?_⟩
      refine ⟨_, rfl, _, rfl, rfl, ?_⟩
      rw [decide_eq_true rfl]
      exact q _ (Same.refl _)
    | int i =>
      refine ⟨_, rfl, rfl, _, rfl, iteF ?_⟩
      refine ⟨_, rfl, _, _, _, _, false, rfl, .ty "bool", .base (.int i), kit_ty (by decide +kernel), _, rfl, iteF ?_⟩
      refine ⟨_, rfl, _, _, _, _, true, rfl, .ty "int", .base (.int i), kit_ty (by decide +kernel), _, rfl, iteT ?_⟩
      refine ⟨_, rfl, _, _, _, _, true, rfl, .ty "int", .base (.int i), kit_ty (by decide +kernel), _, rfl, iteT ?_⟩
      refine ⟨_, rfl, _, _, _, _, false, rfl, .ty "bool", .base (.int i), kit_ty (by decide +kernel), _, rfl, _, rfl, iteT ?_⟩
      refine ⟨_, rfl, _, rfl, rfl, ?_⟩
      rw [decide_eq_true rfl]
      exact q _ (Same.refl _)
    | str z =>
      refine ⟨_, rfl, rfl, _, rfl, iteF ?_⟩
      refine ⟨_, rfl, _, _, _, _, false, rfl, .ty "bool", .base (.str z), kit_ty (by decide +kernel), _, rfl, iteF ?_⟩
      refine ⟨_, rfl, _, _, _, _, false, rfl, .ty "int", .base (.str z), kit_ty (by decide +kernel), _, rfl, iteF ?_⟩
      refine ⟨_, rfl, _, _, _, _, true, rfl, .ty "str", .base (.str z), kit_ty (by decide +kernel), _, rfl, iteT ?_⟩
      refine ⟨_, rfl, _, _, _, _, true, rfl, .ty "str", .base (.str z), kit_ty (by decide +kernel), _, rfl, iteT ?_⟩
      refine ⟨_, rfl, _, rfl, rfl, ?_⟩
      rw [decide_eq_true rfl]
      exact q _ (Same.refl _)
    | byt b => cases hlf
    | flt b => cases hlf
    | ref a => cases hlf
    | ty n => cases hlf

theorem leaf_or {H : Hp} {d : Nat} {x y : V} (h : Eqd H d x y) (hx : leafV x = true) : x = y := by
  cases d with
  | zero => exact h.1
  | succ d =>
    rcases h with h | ⟨a, b, xs, ys, rfl, _⟩
    · exact h.1
    · cases hx
/-- what isinstance tells of a list or tuple that is tracked -/
theorem seq_ty {K : PySem.W.Frag} {H : Hp} {a b : Addr} {xs ys : List V} (h : (H a = some (.lst xs) ∧ H b = some (.lst ys)) ∨ (H a = some (.tup xs) ∧ H b = some (.tup ys))) :
    ∃ (T : String) (bt bl : Bool), TyX K H (.ref a) (.type T) ∧ TyX K H (.ref b) (.type T) ∧ kitB T "bool" = some false ∧ kitB T "int" = some false ∧ kitB T "str" = some false ∧ kitB T "dict" = some false ∧ kitB T "tuple" = some bt ∧ kitB T "list" = some bl := by
  rcases h with ⟨h1, h2⟩ | ⟨h1, h2⟩
  · exact ⟨"list", false, true, .base (.lst h1), .base (.lst h2), by decide +kernel, by decide +kernel, by decide +kernel, by decide +kernel, by decide +kernel, by decide +kernel⟩
  · exact ⟨"tuple", true, false, .base (.tup h1), .base (.tup h2), by decide +kernel, by decide +kernel, by decide +kernel, by decide +kernel, by decide +kernel, by decide +kernel⟩
theorem fnEither {CX : CXT} {k : Nat} {f : Addr} {fd : FuncData} {ps : List Str} {sp sp1 sp2 : Sp} (F1 : FnOk P w K mg base CX k f fd ps sp1) (F2 : FnOk P w K mg base CX k f fd ps sp2) (h : ∀ vs H Q E, sp vs H Q E → sp1 vs H Q E ∨ sp2 vs H Q E) : FnOk P w K mg base CX k f fd ps sp where
  len := fun vs H Q E q => (h vs H Q E q).elim (F1.len vs H Q E) (F2.len vs H Q E)
  run := fun A outer s H args us vs Q E hr e0 hb r q => (h vs H Q E q).elim (F1.run A outer s H args us vs Q E hr e0 hb r) (F2.run A outer s H args us vs Q E hr e0 hb r)
theorem yes {σ : L2.St} {H : Hp} {Q : Bool → Hp → Prop} (h : Q true H) : tYes σ H Q := h
theorem bl_self (b : Bool) : (!decide (V.bl b = V.bl b)) = false := by rw [decide_eq_true rfl]; rfl
theorem ok_same_step {f : Addr} {fd : FuncData} {d : Nat} (F : Fun K "_law_same" "_law_same" sSame f fd) (B : Bl mg) (gS : mg "_law_same" = some (.ref f)) (kS : PySem.W.keepIn K (.ref f) = true) (bS : Binds K fd ["_law_found", "_law_due"] [])
    (G : FnOk P w K mg base CX0 (d + 1) f fd ["_law_found", "_law_due"] (spSame d)) : FnOk P w K mg base CX0 (d + 2) f fd ["_law_found", "_law_due"] (spSame (d + 1)) := by
  have key : FnOk P w K mg base CX0 (d + 2) f fd ["_law_found", "_law_due"] (fun vs H Q _ => ∃ (a b : Addr) (xs ys : List V), vs = [.ref a, .ref b] ∧ ((H a = some (.lst xs) ∧ H b = some (.lst ys)) ∨ (H a = some (.tup xs) ∧ H b = some (.tup ys))) ∧
      xs.length = ys.length ∧ xs.length ≤ 1000 ∧ (∀ (i : Nat) (x y : V), xs[i]? = some x → ys[i]? = some y → Eqd H d x y) ∧ ∀ H', Same H H' → Q (.bl true) H') := by
    refine F.ok scSame (fun vs H Q E h => ?_) (fun cdv A outer s H vs Q E hr h => ?_)
    · obtain ⟨a, b, xs, ys, rfl, _⟩ := h
      rfl
    · obtain ⟨a, b, xs, ys, rfl, hs, hl, hz, hE, q⟩ := h
      refine ⟨_, pss_cons (ps_if (pt_cmpR op_isN (pv 1) pe_non (nomark _)) pss_never pss_nil)
        (pss_cons (ps_if (pt_val (pe_callB call_isi (by rfl) B.isinstance (by decide +kernel) (pa_cons (pv 1) (pa_cons (pe_bltn (v := .ty "bool") (by rfl) B.bool (by decide +kernel) rfl) pa_nil)))) pss_never pss_nil)
        (pss_cons (ps_if (pt_val (pe_callB call_isi (by rfl) B.isinstance (by decide +kernel) (pa_cons (pv 1) (pa_cons (pe_bltn (v := .ty "int") (by rfl) B.int (by decide +kernel) rfl) pa_nil)))) pss_never pss_nil)
        (pss_cons (ps_if (pt_val (pe_callB call_isi (by rfl) B.isinstance (by decide +kernel) (pa_cons (pv 1) (pa_cons (pe_bltn (v := .ty "str") (by rfl) B.str (by decide +kernel) rfl) pa_nil)))) pss_never pss_nil)
        (pss_cons (ps_if (pt_val (pe_callB call_isi (by rfl) B.isinstance (by decide +kernel) (pa_cons (pv 1) (pa_cons (pe_bltn (v := .ty "dict") (by rfl) B.dict (by decide +kernel) rfl) pa_nil)))) pss_never pss_nil)
        (pss_cons (ps_if (PW.pt (pw_or (pt_cmpR op_ne (pe_callB call_isi (by rfl) B.isinstance (by decide +kernel) (pa_cons (pv 1) (pa_cons (pe_bltn (v := .ty "tuple") (by rfl) B.tuple (by decide +kernel) rfl) pa_nil)))
              (pe_callB call_isi (by rfl) B.isinstance (by decide +kernel) (pa_cons (pv 0) (pa_cons (pe_bltn (v := .ty "tuple") (by rfl) B.tuple (by decide +kernel) rfl) pa_nil))) (nomark _))
            (pw_or1 (pt_cmpR op_ne (pe_callB call_isi (by rfl) B.isinstance (by decide +kernel) (pa_cons (pv 1) (pa_cons (pe_bltn (v := .ty "list") (by rfl) B.list (by decide +kernel) rfl) pa_nil)))
              (pe_callB call_isi (by rfl) B.isinstance (by decide +kernel) (pa_cons (pv 0) (pa_cons (pe_bltn (v := .ty "list") (by rfl) B.list (by decide +kernel) rfl) pa_nil))) (nomark _))))) pss_never pss_nil)
        (pss_cons (ps_if (pt_cmpR op_ne (pe_callB call_len_seq (by rfl) B.len PySem.boot_len (pa_cons (pv 0) pa_nil)) (pe_callB call_len_seq (by rfl) B.len PySem.boot_len (pa_cons (pv 1) pa_nil)) (nomark _)) pss_never pss_nil)
        (pss_one (ps_ret (pe_callB (cr_all rfl) (by rfl) B.all (by decide +kernel) (pa_cons
          (pe_lc (own := [("_law_at", 2)]) (g := gName 2) (tt := tYes) rfl scSame.nd (pi_range1 (by rfl) B.range (pa_cons (pe_callB call_len_seq (by rfl) B.len PySem.boot_len (pa_cons (pv 1) pa_nil)) pa_nil))
            (blkOk_by (own := [("_law_at", 2)]) (N := ["_law_found", "_law_due", "_law_at"]) (sc := defScope sSame) (by decide +kernel)) (fun _ _ _ _ _ => pg_name (i := 2) scSame.nd rfl (Or.inl rfl)) (fun _ _ _ _ _ => pts_nil)
            (fun _ _ _ _ _ => pe_call G hr (by rfl) gS kS bS .nil pass0 (pa_cons (pe_ix (r := rIx K) ix_seq (pv 0) (pv 2) (fun _ _ => rfl)) (pa_cons (pe_ix (r := rIx K) ix_seq (pv 1) (pv 2) (fun _ _ => rfl)) pa_nil)))) pa_nil)))))))))), ?_⟩
      obtain ⟨T, bt, bl, ta, tb, k1, k2, k3, k4, k5, k6⟩ := seq_ty (K := K) hs
      refine ⟨.ref b, rfl, rfl, _, rfl, iteF ?_⟩
      refine ⟨.ref b, rfl, _, _, _, _, false, rfl, .ty "bool", tb, kit_ty k1, _, rfl, iteF ?_⟩
      refine ⟨.ref b, rfl, _, _, _, _, false, rfl, .ty "int", tb, kit_ty k2, _, rfl, iteF ?_⟩
      refine ⟨.ref b, rfl, _, _, _, _, false, rfl, .ty "str", tb, kit_ty k3, _, rfl, iteF ?_⟩
      refine ⟨.ref b, rfl, _, _, _, _, false, rfl, .ty "dict", tb, kit_ty k4, _, rfl, iteF ?_⟩
      refine ⟨.ref b, rfl, _, _, _, _, bt, rfl, .ty "tuple", tb, kit_ty k5, .ref a, rfl, _, _, _, _, bt, rfl, .ty "tuple", ta, kit_ty k5, rfl, _, rfl, ?_⟩
      rw [bl_self]
      refine iteF ?_
      refine ⟨.ref b, rfl, _, _, _, _, bl, rfl, .ty "list", tb, kit_ty k6, .ref a, rfl, _, _, _, _, bl, rfl, .ty "list", ta, kit_ty k6, rfl, _, rfl, ?_⟩
      rw [bl_self]
      refine iteF ?_
      have sA : SqL K H a xs ∨ SqT K H a xs := hs.imp (fun q => SqL.of q.1) (fun q => SqT.of q.1)
      have sB : SqL K H b ys ∨ SqT K H b ys := hs.imp (fun q => SqL.of q.2) (fun q => SqT.of q.2)
      refine ⟨.ref a, rfl, a, xs, rfl, sA, .ref b, rfl, b, ys, rfl, sB, rfl, _, rfl, ?_⟩
      rw [hl, decide_eq_true rfl]
      refine iteF ?_
      refine ⟨.ref b, rfl, b, ys, rfl, sB, (ys.length : Nat), rfl, by omega, by omega, fun D nD => ?_⟩
      refine lc_range (lo := 0) (n := ((ys.length : Nat) : Int).toNat) (fun i H' => Same H H' ∧ H' D = some (.lst ((List.replicate i true).map V.bl))) ⟨same_new nD, upd_same⟩ (fun i H' hi ⟨sm, hD⟩ => ?_) (fun H' ⟨sm, hD⟩ => ?_)
      · have hi' : i < ys.length := by omega
        have hx : xs[i]? = some (xs[i]'(by omega)) := List.getElem?_eq_getElem (by omega)
        have hy : ys[i]? = some ys[i] := List.getElem?_eq_getElem hi'
        have ez : (0 : Int) + (i : Nat) = ((i : Nat) : Int) := by omega
        rw [ez]
        have sA' : rIx K (.ref a) (.int ((i : Nat) : Int)) H' = rIx K (.ref a) (.int ((i : Nat) : Int)) H' := rfl
        have rdA : ∀ Q : VK, Q (xs[i]'(by omega)) H' → rIx K (.ref a) (.int ((i : Nat) : Int)) H' Q := fun Q hQ => by
          rcases hs with ⟨h1, _⟩ | ⟨h1, _⟩
          · exact .inl ⟨a, xs, _, _, rfl, rfl, SqL.of (sm _ _ h1), atI_nat hx, hQ⟩
          · exact .inr (.inl ⟨a, xs, _, _, rfl, rfl, SqT.of (sm _ _ h1), atI_nat hx, hQ⟩)
        have rdB : ∀ Q : VK, Q ys[i] H' → rIx K (.ref b) (.int ((i : Nat) : Int)) H' Q := fun Q hQ => by
          rcases hs with ⟨_, h1⟩ | ⟨_, h1⟩
          · exact .inl ⟨b, ys, _, _, rfl, rfl, SqL.of (sm _ _ h1), atI_nat hy, hQ⟩
          · exact .inr (.inl ⟨b, ys, _, _, rfl, rfl, SqT.of (sm _ _ h1), atI_nat hy, hQ⟩)
        refine ⟨rfl, yes (iteT ?_)⟩
        refine ⟨.ref a, rfl, .int ((i : Nat) : Int), rfl, rdA _ ⟨.ref b, rfl, .int ((i : Nat) : Int), rfl, rdB _ ?_⟩⟩
        refine ⟨_, _, rfl, (hE i _ _ hx hy).same sm, fun H2 s2 => ⟨_, s2 _ _ hD, ?_, ?_, ?_⟩⟩
        · rw [List.length_map, List.length_replicate]
          exact small1000 (by omega)
        · exact fun c o e => by
            have nc : c ≠ D := fun z => by rw [z, nD] at e; cases e
            rw [upd_ne nc]
            exact s2 _ _ (sm _ _ e)
        · rw [upd_same, List.replicate_succ', List.map_append]
          rfl
      · refine ⟨D, _, rfl, SqL.of hD, ?_⟩
        have e : (List.replicate ((ys.length : Nat) : Int).toNat true).all id = true := by
          rw [List.all_eq_true]
          intro x hx
          exact (List.eq_of_mem_replicate hx)
        rw [e]
        exact q _ sm
  have leaf : FnOk P w K mg base CX0 (d + 2) f fd ["_law_found", "_law_due"] (spSame 0) := ok_same_leaf F B
  exact fnEither key leaf fun vs H Q E ⟨x, y, ev, h, q⟩ => by
    rcases h with h | ⟨a, b, xs, ys, rfl, rfl, hs, hl, hz, hE⟩
    · exact .inr ⟨x, y, ev, h, q⟩
    · exact .inl ⟨a, b, xs, ys, ev, hs, hl, hz, hE, q⟩
theorem ok_same {f : Addr} {fd : FuncData} (F : Fun K "_law_same" "_law_same" sSame f fd) (B : Bl mg) (gS : mg "_law_same" = some (.ref f)) (bS : Binds K fd ["_law_found", "_law_due"] []) :
    ∀ d : Nat, FnOk P w K mg base CX0 (d + 1) f fd ["_law_found", "_law_due"] (spSame d)
  | 0 => ok_same_leaf F B
  | d + 1 => ok_same_step F B gS F.kp bS (ok_same F B gS bS d)
end
end HL

namespace HL
open PySem PySem.Spec PyProof.Rows L2
open C8 (pss_cut)
/-! ### rows and lots in the heap -/
def Rows (H : Hp) : List Addr → List (List Int) → Prop
  | [], [] => True
  | a :: as, r :: rs => H a = some (.tup (r.map V.int)) ∧ Rows H as rs
  | _, _ => False
theorem Rows.len {H : Hp} : ∀ {as : List Addr} {ll : List (List Int)}, Rows H as ll → as.length = ll.length
  | [], [], _ => rfl
  | a :: as, r :: rs, h => by rw [List.length_cons, List.length_cons, Rows.len h.2]
  | [], _ :: _, h => h.elim
  | _ :: _, [], h => h.elim
theorem Rows.mono {H H' : Hp} : ∀ {as : List Addr} {ll : List (List Int)}, Rows H as ll → (∀ a xs, H a = some (.tup xs) → H' a = some (.tup xs)) → Rows H' as ll
  | [], [], _, _ => True.intro
  | a :: as, r :: rs, h, k => ⟨k _ _ h.1, Rows.mono h.2 k⟩
  | [], _ :: _, h, _ => h.elim
  | _ :: _, [], h, _ => h.elim
theorem Rows.same {H H' : Hp} {as : List Addr} {ll : List (List Int)} (h : Rows H as ll) (s : Same H H') : Rows H' as ll := h.mono fun a xs e => s _ _ e
theorem Rows.kp {H H' : Hp} {f c : Addr} {as : List Addr} {ll : List (List Int)} (h : Rows H as ll) (F : FeedAt c H f) (k : Kp f H H') : Rows H' as ll := h.mono fun a xs e => k _ _ (F.tup e) e
theorem Rows.app {H : Hp} : ∀ {as bs : List Addr} {ll mm : List (List Int)}, Rows H as ll → Rows H bs mm → Rows H (as ++ bs) (ll ++ mm)
  | [], _, [], _, _, h => h
  | a :: as, bs, r :: rs, mm, h, k => ⟨h.1, Rows.app h.2 k⟩
  | [], _, _ :: _, _, h, _ => h.elim
  | _ :: _, _, [], _, h, _ => h.elim
theorem Rows.take {H : Hp} : ∀ {as : List Addr} {ll : List (List Int)} (n : Nat), Rows H as ll → Rows H (as.take n) (ll.take n)
  | [], [], n, _ => by rw [List.take_nil, List.take_nil]; exact True.intro
  | _ :: _, _ :: _, 0, _ => True.intro
  | a :: as, r :: rs, n + 1, h => ⟨h.1, Rows.take n h.2⟩
  | [], _ :: _, _, h => h.elim
  | _ :: _, [], _, h => h.elim
theorem Rows.drop {H : Hp} : ∀ {as : List Addr} {ll : List (List Int)} (n : Nat), Rows H as ll → Rows H (as.drop n) (ll.drop n)
  | [], [], n, _ => by rw [List.drop_nil, List.drop_nil]; exact True.intro
  | _ :: _, _ :: _, 0, h => h
  | a :: as, r :: rs, n + 1, h => Rows.drop n h.2
  | [], _ :: _, _, h => h.elim
  | _ :: _, [], _, h => h.elim
theorem Rows.at {H : Hp} : ∀ {as : List Addr} {ll : List (List Int)} {i : Nat} {a : Addr}, Rows H as ll → as[i]? = some a → ∃ r, ll[i]? = some r ∧ H a = some (.tup (r.map V.int))
  | [], [], _, _, _, e => by simp at e
  | b :: as, r :: rs, 0, a, h, e => by
    have e' : b = a := Option.some.inj e
    subst e'
    exact ⟨r, rfl, h.1⟩
  | b :: as, r :: rs, i + 1, a, h, e => Rows.at (i := i) h.2 e
  | [], _ :: _, _, _, h, _ => h.elim
  | _ :: _, [], _, _, h, _ => h.elim
/-- a lot in the heap -/
def LotAt (H : Hp) (p : Addr) (ll : List (List Int)) : Prop := ∃ as : List Addr, H p = some (.tup (as.map V.ref)) ∧ Rows H as ll
theorem LotAt.same {H H' : Hp} {p : Addr} {ll : List (List Int)} (h : LotAt H p ll) (s : Same H H') : LotAt H' p ll := by
  obtain ⟨as, h1, h2⟩ := h
  exact ⟨as, s _ _ h1, h2.same s⟩
theorem LotAt.kp {H H' : Hp} {f c p : Addr} {ll : List (List Int)} (h : LotAt H p ll) (F : FeedAt c H f) (k : Kp f H H') : LotAt H' p ll := by
  obtain ⟨as, h1, h2⟩ := h
  exact ⟨as, k _ _ (F.tup h1) h1, h2.kp F k⟩
/-- a kind as it should be, of g amounts to m -/
def GoodRow (g m : Int) (r : List Int) : Prop := r.length = g.toNat ∧ (∀ n ∈ r, 0 ≤ n ∧ n ≤ m) ∧ ∃ n ∈ r, 0 < n
theorem pos_of_sum : ∀ {r : List Int}, (∀ n ∈ r, 0 ≤ n) → r.sum ≠ 0 → ∃ n ∈ r, 0 < n
  | [], _, h => absurd rfl h
  | x :: r, h0, h => by
    by_cases hx : 0 < x
    · exact ⟨x, List.mem_cons_self, hx⟩
    · have e : x = 0 := by
        have := h0 x List.mem_cons_self
        omega
      rw [List.sum_cons, e, Int.zero_add] at h
      obtain ⟨n, hn, hp⟩ := pos_of_sum (fun n hn => h0 n (List.mem_cons_of_mem _ hn)) h
      exact ⟨n, List.mem_cons_of_mem _ hn, hp⟩
/-! ### hold -/
theorem scHold : FnScope ["_law_feed_here", "_law_goods_here", "_law_most", "_law_hold_here", "_law_good_here"] ["_law_feed_here", "_law_goods_here", "_law_most"] (defScope sHold) := ⟨rfl, rfl, rfl, by decide +kernel, rfl, by decide +kernel, by decide +kernel⟩
theorem scLot : FnScope ["_law_feed_here", "_law_goods_here", "_law_kinds", "_law_most", "_law_kind"] ["_law_feed_here", "_law_goods_here", "_law_kinds", "_law_most"] (defScope sLot) := ⟨rfl, rfl, rfl, by decide +kernel, rfl, by decide +kernel, by decide +kernel⟩
theorem scAny : FnScope ["_law_feed_here"] ["_law_feed_here"] (defScope sAny) := ⟨rfl, rfl, rfl, by decide +kernel, rfl, by decide +kernel, by decide +kernel⟩
theorem scNoughts : FnScope ["_law_many"] ["_law_many"] (defScope sNoughts) := ⟨rfl, rfl, rfl, by decide +kernel, rfl, by decide +kernel, by decide +kernel⟩
section
variable {P : Program} {w : World} {K : PySem.W.Frag} {mg : Str → Option Value} {base : Heap}
def spHold : Sp := fun vs H Q _ => ∃ (f c : Addr) (g m : Int), vs = [.ref f, .int g, .int m] ∧ FeedAt c H f ∧ 1 ≤ g ∧ g ≤ 100 ∧ 1 ≤ m ∧ m ≤ 100 ∧
  ∀ H' p ns, Kp f H H' → FeedAt c H' f → H p = none → H' p = some (.tup (ns.map V.int)) → GoodRow g m ns → Q (.ref p) H'
theorem ok_hold {f : Addr} {fd : FuncData} (F : Fun K "_law_hold" "_law_hold" sHold f fd) (B : Bl mg) (CD : Cal P w K mg base CX0 1 "_law_draw" ["_law_feed_here", "_law_many"] spDraw) :
    FnOk P w K mg base CX0 2 f fd ["_law_feed_here", "_law_goods_here", "_law_most"] spHold := by
  obtain ⟨fD, fdD, GD, gD, kD, bD⟩ := CD.ex
  refine F.ok scHold (fun vs H Q E h => ?_) (fun cdv A outer s H vs Q E hr h => ?_)
  · obtain ⟨a, c, g, m, rfl, _⟩ := h
    rfl
  · obtain ⟨a, c, g, m, rfl, Fd, g1, g2, m1, m2, q⟩ := h
    refine ⟨_, pss_cons (ps_setLc (i := 3) (own := [("_law_good_here", 4)]) (g := gName 4) (tt := tYes) rfl scHold.nd rfl rfl (sw_true rfl rfl rfl (by decide +kernel)) (pi_range1 (by rfl) B.range (pa_cons (pv 1) pa_nil))
          (blkOk_by (own := [("_law_good_here", 4)]) (N := ["_law_feed_here", "_law_goods_here", "_law_most", "_law_hold_here", "_law_good_here"]) (sc := defScope sHold) (by decide +kernel)) (fun _ _ _ _ _ => pg_name (i := 4) scHold.nd rfl (Or.inl rfl)) (fun _ _ _ _ _ => pts_nil)
          (fun _ _ _ _ _ => pe_ifExp (pt_cmpR op_gt (pe_call GD hr (by rfl) gD kD bD .nil pass0 (pa_cons (pv 0) (pa_cons pe_int pa_nil))) pe_int (nomark _)) (pe_call GD hr (by rfl) gD kD bD .nil pass0 (pa_cons (pv 0) (pa_cons (pe_op op_add (pv 2) pe_int) pa_nil))) pe_int))
      (pss_cut (ps_if (pt_cmpR op_eq (pe_callB (cr_sum rfl) (by rfl) B.sum (by decide +kernel) (pa_cons (pv 3) pa_nil)) pe_int (nomark _))
          (pss_one (ps_asg (pe_op op_add pe_int (pe_call GD hr (by rfl) gD kD bD .nil pass0 (pa_cons (pv 0) (pa_cons (pv 2) pa_nil)))) (pg_sub (pv 3) (pe_call GD hr (by rfl) gD kD bD .nil pass0 (pa_cons (pv 0) (pa_cons (pv 1) pa_nil))) set_list))) pss_nil)
        (pss_one (ps_ret (pe_callTy call_tuple_of (by rfl) B.tuple (by decide +kernel) (pa_cons (pv 3) pa_nil))))), ?_⟩
    refine ⟨.int g, rfl, g, rfl, by omega, by omega, fun D nD => ?_⟩
    have nDf : D ≠ a := Fd.ne nD
    have nDc : D ≠ c := Fd.neC nD
    refine lc_range (lo := 0) (n := g.toNat) (fun i H' => Kp a H H' ∧ FeedAt c H' a ∧ ∃ ns : List Int, H' D = some (.lst (ns.map V.int)) ∧ ns.length = i ∧ ∀ n ∈ ns, 0 ≤ n ∧ n ≤ m)
      ⟨Kp.new nD, Fd.new nD, [], upd_same, rfl, fun n hn => by cases hn⟩ (fun i H' hi ⟨kp, F', ns, hD, hl, hb⟩ => ?_) (fun H' ⟨kp, F', ns, hD, hl, hb⟩ => ?_)
    · refine ⟨rfl, yes (iteT ?_)⟩
      have more : ∀ (H2 : Hp) (d : Int), Kp a H' H2 → FeedAt c H2 a → 0 ≤ d → d ≤ m → ∃ acc, H2 D = some (.lst acc) ∧ acc.length < sizeLine ∧ Kp a H (upd H2 D (.lst (acc ++ [.int d]))) ∧ FeedAt c (upd H2 D (.lst (acc ++ [.int d]))) a ∧
          ∃ ns : List Int, upd H2 D (.lst (acc ++ [.int d])) D = some (.lst (ns.map V.int)) ∧ ns.length = i + 1 ∧ ∀ n ∈ ns, 0 ≤ n ∧ n ≤ m := fun H2 d k2 F2 d0 d1 => by
        have hD2 := k2 _ _ nDf hD
        refine ⟨_, hD2, ?_, ?_, ?_, ns ++ [d], ?_, ?_, ?_⟩
        · rw [List.length_map]
          exact small1000 (by omega)
        · exact (kp.trans k2).late nD
        · exact F2.put nDf nDc
        · rw [upd_same, List.map_append]
          rfl
        · rw [List.length_append, hl]
          rfl
        · intro n hn
          rcases List.mem_append.mp hn with h | h
          · exact hb n h
          · rw [List.mem_singleton.mp h]
            exact ⟨d0, d1⟩
      refine ⟨.ref a, rfl, a, c, 3, rfl, by decide, by decide, F', fun d1 H1 _ _ k1 F1 => ?_⟩
      refine ⟨d1, 0, rfl, rfl, _, rfl, ite2 (fun _ => ?_) (fun _ => ?_)⟩
      · refine ⟨.ref a, rfl, .int m, rfl, m, 1, rfl, rfl, a, c, m + 1, rfl, by omega, by omega, F1, fun d2 H2 e0 e1 k2 F2 => ?_⟩
        exact more H2 d2 (k1.trans k2) F2 e0 (by omega)
      · exact more H1 0 k1 F1 (by decide) (by omega)
    · -- behind the comprehension
      refine ⟨fun σ' H2 => ∃ ns : List Int, σ' = [some (.ref a), some (.int g), some (.int m), some (.ref D), none] ∧ Kp a H H2 ∧ FeedAt c H2 a ∧ H2 D = some (.lst (ns.map V.int)) ∧ GoodRow g m ns, ?_, ?_⟩
      · refine ⟨.ref D, rfl, D, ns, rfl, SqL.of hD, rfl, _, rfl, ite2 (fun cs => ?_) (fun cs => ?_)⟩
        · refine ⟨.ref a, rfl, .int m, rfl, a, c, m, rfl, by omega, by omega, F', fun d1 H1 e0 e1 k1 F1 => ?_⟩
          refine ⟨1, d1, rfl, rfl, .ref D, rfl, .ref a, rfl, .int g, rfl, a, c, g, rfl, by omega, by omega, F1, fun d2 H2 c0 c1 k2 F2 => ?_⟩
          have hD2 : H2 D = some (.lst (ns.map V.int)) := k2 _ _ nDf (k1 _ _ nDf hD)
          have hj : ixN (ns.map V.int).length d2 = some d2.toNat := by
            unfold ixN
            rw [if_pos c0, if_pos (by rw [List.length_map]; omega)]
          refine ⟨D, _, d2, d2.toNat, rfl, rfl, hD2, hj, ns.set d2.toNat (1 + d1), rfl, ?_, ?_, ?_, ?_, ?_, ?_⟩
          · exact (kp.trans (k1.trans k2)).late nD
          · exact F2.put nDf nDc
          · rw [upd_same, List.map_set]
          · rw [List.length_set]
            exact hl
          · intro n hn
            rcases List.mem_or_eq_of_mem_set hn with h | h
            · exact hb n h
            · rw [h]
              omega
          · exact ⟨1 + d1, List.mem_iff_getElem.mpr ⟨d2.toNat, by rw [List.length_set]; omega, by simp⟩, by omega⟩
        · have hs : ns.sum ≠ 0 := fun z => cs (decide_eq_true (by rw [z]))
          exact ⟨ns, rfl, kp, F', hD, hl, hb, pos_of_sum (fun n hn => (hb n hn).1) hs⟩
      · rintro σ' H2 ⟨ms, rfl, k2, F2, hD2, G2⟩
        refine ⟨.ref D, rfl, D, _, rfl, .inl ⟨SqL.of hD2, fun p np => ?_⟩⟩
        exact q _ p ms (k2.trans (Kp.new np)) (F2.new np) (k2.free (F2.ne np) np) upd_same G2
end
end HL

namespace HL
open PySem PySem.Spec PyProof.Rows L2
open C8 (pss_cut)
section
variable {P : Program} {w : World} {K : PySem.W.Frag} {mg : Str → Option Value} {base : Heap}
/-! ### lots -/
/-- a lot as it should be -/
def GoodLot (g m : Int) (n : Nat) (ll : List (List Int)) : Prop := 1 ≤ ll.length ∧ ll.length ≤ n ∧ ∀ r ∈ ll, GoodRow g m r
def spLot : Sp := fun vs H Q _ => ∃ (f c : Addr) (g kk m : Int), vs = [.ref f, .int g, .int kk, .int m] ∧ FeedAt c H f ∧ 1 ≤ g ∧ g ≤ 100 ∧ 1 ≤ kk ∧ kk ≤ 100 ∧ 1 ≤ m ∧ m ≤ 100 ∧
  ∀ H' p ll, Kp f H H' → FeedAt c H' f → H p = none → LotAt H' p ll → GoodLot g m kk.toNat ll → Q (.ref p) H'
theorem ok_lot {f : Addr} {fd : FuncData} (F : Fun K "_law_lot" "_law_lot" sLot f fd) (B : Bl mg) (CD : Cal P w K mg base CX0 1 "_law_draw" ["_law_feed_here", "_law_many"] spDraw)
    (CH : Cal P w K mg base CX0 2 "_law_hold" ["_law_feed_here", "_law_goods_here", "_law_most"] spHold) : FnOk P w K mg base CX0 3 f fd ["_law_feed_here", "_law_goods_here", "_law_kinds", "_law_most"] spLot := by
  obtain ⟨fD, fdD, GD, gD, kD, bD⟩ := CD.ex
  obtain ⟨fH, fdH, GH, gH, kH, bH⟩ := CH.ex
  refine F.ok scLot (fun vs H Q E h => ?_) (fun cdv A outer s H vs Q E hr h => ?_)
  · obtain ⟨a, c, g, kk, m, rfl, _⟩ := h
    rfl
  · obtain ⟨a, c, g, kk, m, rfl, Fd, g1, g2, n1, n2, m1, m2, q⟩ := h
    refine ⟨_, pss_one (ps_ret (pe_callTy call_tuple_of (by rfl) B.tuple (by decide +kernel) (pa_cons
      (pe_lc (own := [("_law_kind", 4)]) (g := gName 4) (tt := tYes) rfl scLot.nd (pi_range1 (by rfl) B.range (pa_cons (pe_op op_add pe_int (pe_call GD (hr.mono (by decide)) (by rfl) gD kD bD .nil pass0 (pa_cons (pv 0) (pa_cons (pv 2) pa_nil)))) pa_nil))
        (blkOk_by (own := [("_law_kind", 4)]) (N := ["_law_feed_here", "_law_goods_here", "_law_kinds", "_law_most", "_law_kind"]) (sc := defScope sLot) (by decide +kernel)) (fun _ _ _ _ _ => pg_name (i := 4) scLot.nd rfl (Or.inl rfl)) (fun _ _ _ _ _ => pts_nil)
        (fun _ _ _ _ _ => pe_call GH hr (by rfl) gH kH bH .nil pass0 (pa_cons (pv 0) (pa_cons (pv 1) (pa_cons (pv 3) pa_nil))))) pa_nil))), ?_⟩
    refine ⟨.ref a, rfl, .int kk, rfl, a, c, kk, rfl, by omega, by omega, Fd, fun d H1 d0 d1 k1 F1 => ?_⟩
    refine ⟨1, d, rfl, rfl, 1 + d, rfl, by omega, by omega, fun D nD => ?_⟩
    have nDf : D ≠ a := F1.ne nD
    have nDc : D ≠ c := F1.neC nD
    have nD0 : H D = none := k1.free nDf nD
    refine lc_range (lo := 0) (n := (1 + d).toNat) (fun i H' => Kp a H H' ∧ FeedAt c H' a ∧ ∃ (as : List Addr) (ll : List (List Int)), H' D = some (.lst (as.map V.ref)) ∧ Rows H' as ll ∧ ll.length = i ∧ ∀ r ∈ ll, GoodRow g m r)
      ⟨k1.late nD0, F1.new nD, [], [], upd_same, True.intro, rfl, fun n hn => by cases hn⟩ (fun i H' hi ⟨kp, F', as, ll, hD, hR, hl, hb⟩ => ?_) (fun H' ⟨kp, F', as, ll, hD, hR, hl, hb⟩ => ?_)
    · refine ⟨rfl, yes (iteT ?_)⟩
      refine ⟨.ref a, rfl, .int g, rfl, .int m, rfl, a, c, g, m, rfl, F', g1, g2, m1, m2, fun H2 p ns k2 F2 np hp gr => ?_⟩
      have hD2 := k2 _ _ nDf hD
      have nt : ∀ b xs, H2 b = some (.tup xs) → upd H2 D (.lst (as.map V.ref ++ [.ref p])) b = some (.tup xs) := fun b xs e => by
        rw [upd_ne (ne_of e hD2 (fun z => by cases z))]
        exact e
      refine ⟨_, hD2, ?_, (kp.trans k2).late nD0, F2.put nDf nDc, as ++ [p], ll ++ [ns], ?_, ?_, ?_, ?_⟩
      · rw [List.length_map, hR.len]
        exact small1000 (by omega)
      · rw [upd_same, List.map_append]
        rfl
      · exact ((hR.kp F' k2).mono nt).app ⟨nt _ _ hp, True.intro⟩
      · rw [List.length_append, hl]
        rfl
      · intro r hr
        rcases List.mem_append.mp hr with h | h
        · exact hb r h
        · rw [List.mem_singleton.mp h]
          exact gr
    · refine ⟨D, _, rfl, .inl ⟨SqL.of hD, fun p np => ?_⟩⟩
      exact q _ p ll (kp.trans (Kp.new np)) (F'.new np) (kp.free (F'.ne np) np) ⟨as, upd_same, hR.same (same_new np)⟩ ⟨by omega, by omega, hb⟩
def spAny : Sp := fun vs H Q _ => ∃ (f c : Addr), vs = [.ref f] ∧ FeedAt c H f ∧
  ∀ H' p ll g m, Kp f H H' → FeedAt c H' f → H p = none → LotAt H' p ll → 1 ≤ g → g ≤ 3 → 1 ≤ m → m ≤ 6 → GoodLot g m 5 ll → Q (.ref p) H'
theorem ok_any {f : Addr} {fd : FuncData} (F : Fun K "_law_any_lot" "_law_any_lot" sAny f fd) (CD : Cal P w K mg base CX0 1 "_law_draw" ["_law_feed_here", "_law_many"] spDraw)
    (CP : Cal P w K mg base CX0 2 "_law_pick" ["_law_feed_here", "_law_row"] spPick) (CL : Cal P w K mg base CX0 3 "_law_lot" ["_law_feed_here", "_law_goods_here", "_law_kinds", "_law_most"] spLot) : FnOk P w K mg base CX0 4 f fd ["_law_feed_here"] spAny := by
  obtain ⟨fD, fdD, GD, gD, kD, bD⟩ := CD.ex
  obtain ⟨fP, fdP, GP, gP, kP, bP⟩ := CP.ex
  obtain ⟨fL, fdL, GL, gL, kL, bL⟩ := CL.ex
  refine F.ok scAny (fun vs H Q E h => ?_) (fun cdv A outer s H vs Q E hr h => ?_)
  · obtain ⟨a, c, rfl, _⟩ := h
    rfl
  · obtain ⟨a, c, rfl, Fd, q⟩ := h
    refine ⟨_, pss_one (ps_ret (pe_call GL hr (by rfl) gL kL bL .nil pass0 (pa_cons (pv 0) (pa_cons (pe_op op_add pe_int (pe_call GD (hr.mono (by decide)) (by rfl) gD kD bD .nil pass0 (pa_cons (pv 0) (pa_cons pe_int pa_nil)))) (pa_cons pe_int
      (pa_cons (pe_call GP (hr.mono (by decide)) (by rfl) gP kP bP .nil pass0 (pa_cons (pv 0) (pa_cons (pe_lst (pa_cons pe_int (pa_cons pe_int (pa_cons pe_int (pa_cons pe_int pa_nil))))) pa_nil))) pa_nil)))))), ?_⟩
    refine ⟨.ref a, rfl, .ref a, rfl, a, c, 3, rfl, by decide, by decide, Fd, fun d H1 d0 d1 k1 F1 => ?_⟩
    refine ⟨1, d, rfl, rfl, .ref a, rfl, (by show 4 ≤ sizeLine; decide), fun r nr => ?_⟩
    refine ⟨a, c, r, _, rfl, upd_same, F1.ne nr, by decide, by decide, F1.new nr, fun v H2 hv k2 F2 => ?_⟩
    obtain ⟨m, rfl, m1, m2⟩ : ∃ m : Int, v = .int m ∧ 1 ≤ m ∧ m ≤ 6 := by
      simp only [List.mem_cons, List.mem_nil_iff, or_false] at hv
      rcases hv with h | h | h | h <;> exact ⟨_, h, by decide, by decide⟩
    refine ⟨a, c, 1 + d, 5, m, rfl, F2, by omega, by omega, by decide, by decide, m1, by omega, fun H3 p ll k3 F3 np hL gl => ?_⟩
    have k12 : Kp a H H2 := k1.trans ((Kp.new nr).trans k2)
    exact q H3 p ll (1 + d) m (k12.trans k3) F3 (k12.free (F2.ne np) np) hL (by omega) (by omega) m1 m2 gl
def spNoughts : Sp := fun vs H Q _ => ∃ n : Int, vs = [.int n] ∧ 1 ≤ n ∧ n ≤ 1000 ∧ ∀ H' p, Same H H' → H p = none → H' p = some (.tup ((List.replicate n.toNat (0 : Int)).map V.int)) → Q (.ref p) H'
theorem rep_one (v : V) : ∀ n : Nat, (List.replicate n [v]).flatten = List.replicate n v
  | 0 => rfl
  | n + 1 => by
    rw [List.replicate_succ, List.flatten_cons, rep_one v n, List.replicate_succ]
    rfl
theorem ok_noughts {f : Addr} {fd : FuncData} {k : Nat} (F : Fun K "_law_noughts" "_law_noughts" sNoughts f fd) : FnOk P w K mg base CX0 (k + 1) f fd ["_law_many"] spNoughts := by
  refine F.ok scNoughts (fun vs H Q E h => ?_) (fun cdv A outer s H vs Q E hr h => ?_)
  · obtain ⟨n, rfl, _⟩ := h
    rfl
  · obtain ⟨n, rfl, n1, n2, q⟩ := h
    refine ⟨_, pss_one (ps_ret (pe_op op_repA (pe_tup (pa_cons pe_int pa_nil)) (pv 0))), ?_⟩
    refine ⟨(by show 1 ≤ sizeLine; decide), fun t nt => ?_⟩
    refine ⟨.int n, rfl, t, n, [.int 0], rfl, rfl, SqT.of upd_same, by decide, n1, n2, by decide, fun e => ?_, fun e p np => ?_⟩
    · subst e
      exact q _ t (same_new nt) nt upd_same
    · refine q _ p ((same_new nt).trans (same_new np)) ((same_new nt).free np) ?_
      rw [upd_same, rep_one, List.map_replicate]
end
end HL

namespace HL
open PySem PySem.Spec PyProof.Rows L2
open C8 (pss_cut)
/-! ### what a lot must be -/
def okRow (g : Nat) (r : List Int) : Bool := decide (r.length = g) && (r.all (fun n => decide (0 ≤ n ∧ n ≤ 6)) && r.any (fun n => decide (0 < n)))
def flawIn (g : Nat) (ll : List (List Int)) : Option Int := (ll.findIdx? fun r => !okRow g r).map fun i => (i : Int)
def width (ll : List (List Int)) : Nat := (ll.headD []).length
def flaw (ll : List (List Int)) : Option Int := if 1 ≤ ll.length ∧ ll.length ≤ 5 ∧ 1 ≤ width ll ∧ width ll ≤ 3 then flawIn (width ll) ll else some (-1)
def flawV (ll : List (List Int)) : V := match flaw ll with
  | none => .non
  | some k => .int k
theorem flawIn_at {g : Nat} {ll : List (List Int)} {i : Nat} {r : List Int} (h : ll[i]? = some r) (hb : okRow g r = false) (ha : ∀ (j : Nat) (r' : List Int), j < i → ll[j]? = some r' → okRow g r' = true) : flawIn g ll = some (i : Int) := by
  unfold flawIn
  obtain ⟨hi, he⟩ := List.getElem?_eq_some_iff.mp h
  have e : ll.findIdx? (fun r => !okRow g r) = some i := by
    refine List.findIdx?_eq_some_iff_getElem.mpr ⟨hi, by rw [he, hb]; rfl, fun j hj => ?_⟩
    rw [ha j ll[j] hj (List.getElem?_eq_getElem (by omega))]
    decide
  rw [e]
  rfl
theorem flawIn_none {g : Nat} {ll : List (List Int)} (ha : ∀ (j : Nat) (r' : List Int), j < ll.length → ll[j]? = some r' → okRow g r' = true) : flawIn g ll = none := by
  unfold flawIn
  have e : ll.findIdx? (fun r => !okRow g r) = none := by
    refine List.findIdx?_eq_none_iff.mpr fun r hr => ?_
    obtain ⟨j, hj, hjr⟩ := List.mem_iff_getElem.mp hr
    rw [ha j r hj (by rw [List.getElem?_eq_getElem hj, hjr])]
    rfl
  rw [e]
  rfl
theorem all_in {r : List Int} : (r.all (fun n => decide (0 ≤ n ∧ n ≤ 6))) = true ↔ ∀ n ∈ r, 0 ≤ n ∧ n ≤ 6 := by
  rw [List.all_eq_true]
  exact ⟨fun h n hn => of_decide_eq_true (h n hn), fun h n hn => decide_eq_true (h n hn)⟩
theorem any_pos {r : List Int} : (r.any (fun n => decide (0 < n))) = true ↔ ∃ n ∈ r, 0 < n := by
  rw [List.any_eq_true]
  exact ⟨fun ⟨n, hn, h⟩ => ⟨n, hn, of_decide_eq_true h⟩, fun ⟨n, hn, h⟩ => ⟨n, hn, decide_eq_true h⟩⟩
theorem okRow_iff {g : Nat} {r : List Int} : okRow g r = true ↔ r.length = g ∧ (∀ n ∈ r, 0 ≤ n ∧ n ≤ 6) ∧ ∃ n ∈ r, 0 < n := by
  unfold okRow
  rw [Bool.and_eq_true, Bool.and_eq_true, decide_eq_true_iff, all_in, any_pos]
theorem sum_pos {r : List Int} (h0 : ∀ n ∈ r, 0 ≤ n) (h : ∃ n ∈ r, 0 < n) : 0 < r.sum := by
  induction r with
  | nil => obtain ⟨n, hn, _⟩ := h; cases hn
  | cons x r ih =>
    rw [List.sum_cons]
    have x0 := h0 x List.mem_cons_self
    have rest : 0 ≤ r.sum := by
      clear ih h
      induction r with
      | nil => exact Int.le_refl _
      | cons y r ih2 =>
        rw [List.sum_cons]
        have := h0 y (List.mem_cons_of_mem _ List.mem_cons_self)
        have := ih2 fun n hn => h0 n (by
          rcases List.mem_cons.mp hn with h | h
          · rw [h]; exact List.mem_cons_self
          · exact List.mem_cons_of_mem _ (List.mem_cons_of_mem _ h))
        omega
    obtain ⟨n, hn, hp⟩ := h
    rcases List.mem_cons.mp hn with h | h
    · omega
    · have := ih (fun n hn => h0 n (List.mem_cons_of_mem _ hn)) ⟨n, h, hp⟩
      omega
/-- 1 <= x <= 5 as a test -/
theorem chainI {i j L : Int} {H : Hp} {Q : Bool → Hp → Prop} (h : Q (decide (i ≤ L ∧ L ≤ j)) H) :
    if decide (i ≤ L) = true then (∃ a b : Int, V.int L = V.int a ∧ V.int j = V.int b ∧ ∃ k, V.bl (decide (a ≤ b)) = V.bl k ∧ Q k H) else ∃ k, V.bl false = V.bl k ∧ Q k H := by
  by_cases c : i ≤ L
  · rw [if_pos (decide_eq_true c)]
    refine ⟨L, j, rfl, rfl, _, rfl, ?_⟩
    rw [show decide (L ≤ j) = decide (i ≤ L ∧ L ≤ j) by simp [c]]
    exact h
  · rw [if_neg (fun z => c (of_decide_eq_true z))]
    refine ⟨false, rfl, ?_⟩
    rw [show false = decide (i ≤ L ∧ L ≤ j) by simp [c]]
    exact h
theorem Rows.head {H : Hp} {as : List Addr} {ll : List (List Int)} (h : Rows H as ll) (hl : 1 ≤ ll.length) : ∃ a, as[0]? = some a ∧ H a = some (.tup ((ll.headD []).map V.int)) ∧ (ll.headD []).length = width ll := by
  cases as with
  | nil =>
    cases ll with
    | nil => simp at hl
    | cons r rs => exact h.elim
  | cons a as =>
    cases ll with
    | nil => simp at hl
    | cons r rs => exact ⟨a, rfl, h.1, rfl⟩
end HL

namespace HL
open PySem PySem.Spec PyProof.Rows L2
open C8 (pss_cut)
/-! ### the refusal -/
abbrev sBadInit : Stmt := inClass (topS 2) 0
theorem scBI : FnScope ["self", "kind"] ["self", "kind"] (defScope sBadInit) := ⟨rfl, rfl, rfl, by decide +kernel, rfl, by decide +kernel, by decide +kernel⟩
/-- what is known of a refusal's class whose __init__ stores a word and a field -/
structure Cls2 (K : PySem.W.Frag) (C : Addr) (f : Str) : Prop where
  ox : OexC K C
  noW : PySem.W.findIn K (.ref C) "word" = some none
  noF : PySem.W.findIn K (.ref C) f = some none
abbrev exF (f wd : Str) (v : V) : List (Str × V) := [(f, v), ("word", .str wd)]
def spInit2 (C : Addr) (f wd : Str) : Sp := fun vs H Q _ => ∃ (a : Addr) (v : V), vs = [.ref a, v] ∧ H a = some (exo a C none) ∧
  ∀ dx, H dx = none → dx ≠ a → Q .non (upd (upd (upd H dx (exd dx [("word", .str wd)])) a (exo a C (some dx))) dx (exd dx (exF f wd v)))
section
variable {P : Program} {w : World} {K : PySem.W.Frag} {mg : Str → Option Value} {base : Heap}
theorem ok_badInit {f : Addr} {fd : FuncData} {k : Nat} {C : Addr} (F : Fun K "__init__" "BadLot.__init__" sBadInit f fd) (T : Cls2 K C "kind") : FnOk P w K mg base CX0 (k + 1) f fd ["self", "kind"] (spInit2 C "kind" "bad lot") := by
  refine F.ok scBI (fun vs H Q E h => ?_) (fun cdv A outer s H vs Q E hr h => ?_)
  · obtain ⟨a, v, rfl, _⟩ := h
    rfl
  · obtain ⟨a, v, rfl, ha, q⟩ := h
    refine ⟨_, pss_cons (ps_ost (pv 0) pe_str) (pss_one (ps_ost (pv 0) (pv 1))), ?_⟩
    refine ⟨.ref a, rfl, a, C, rfl, T.ox, T.noW, .inl ⟨ha, fun dx nd ne => ?_⟩⟩
    refine ⟨v, rfl, .ref a, rfl, a, C, rfl, T.ox, T.noF, .inr ⟨dx, _, upd_same, ?_, (by show 1 ≤ 900; decide), q dx nd ne⟩⟩
    rw [upd_ne ne, upd_same]
/-- the heap behind a refusal that was made -/
theorem xd_same {H : Hp} {a dx : Addr} {o1 o2 o3 o4 o5 : HO} (na : H a = none) (nd : H dx = none) : Same H (upd (del (upd (upd (upd (upd H a o1) dx o2) a o3) dx o4) a) dx o5) := fun b o e => by
  have n1 := ne_of_none e na
  have n2 := ne_of_none e nd
  rw [upd_ne n2, del_ne n1, upd_ne n2, upd_ne n1, upd_ne n2, upd_ne n1]
  exact e
/-- refused with the class at C, field f holding v -/
def Refd (C : Addr) (f wd : Str) (v : V) (H : Hp) (E : XK) : Prop := ∀ H' d, Same H H' → H d = none → H' d = some (.xd (exF f wd v)) → E (.ref C) (some d) H'
theorem Refd.same {C : Addr} {f wd : Str} {v : V} {H H1 : Hp} {E : XK} (h : Refd C f wd v H E) (s : Same H H1) : Refd C f wd v H1 E := fun H' d s' n e => h H' d (s.trans s') (s.free n) e
/-- raise C(v): its reading from what is wanted -/
theorem mk_refd {C : Addr} {f wd : Str} {v : V} {H : Hp} {E : XK} (h : Refd C f wd v H E) : [v].length ≤ 1000 ∧ ∀ a, H a = none → spInit2 C f wd (.ref a :: ([v] ++ [])) (upd H a (exo a C none))
    (fun u H2 => u = .non ∧ ∃ (d : Addr) (fs : List (Str × V)), H2 a = some (exo a C (some d)) ∧ H2 d = some (exd d fs) ∧ H d = none ∧ E (.ref C) (some d) (upd (del H2 a) d (.xd fs))) (fun _ _ _ => False) := by
  refine ⟨(by show 1 ≤ 1000; decide), fun a na => ⟨a, v, rfl, upd_same, fun dx nd ne => ⟨rfl, dx, exF f wd v, ?_, upd_same, ?_, ?_⟩⟩⟩
  · rw [upd_ne (Ne.symm ne), upd_same]
  · rw [upd_ne ne] at nd
    exact nd
  · rw [upd_ne ne] at nd
    exact h _ dx (xd_same na nd) nd upd_same
/-! ### is_hold -/
theorem scIH : FnScope ["hold", "goods", "amount"] ["hold", "goods"] (defScope sIsHold) := ⟨rfl, rfl, rfl, by decide +kernel, rfl, by decide +kernel, by decide +kernel⟩
theorem scLk : FnScope ["lot", "kind", "hold"] ["lot"] (defScope sLook) := ⟨rfl, rfl, rfl, by decide +kernel, rfl, by decide +kernel, by decide +kernel⟩
theorem scGo : FnScope ["lot"] ["lot"] (defScope sGoods) := ⟨rfl, rfl, rfl, by decide +kernel, rfl, by decide +kernel, by decide +kernel⟩
/-- 0 <= x <= 6 as a value -/
theorem chainV {i j L : Int} {H : Hp} {σ : L2.St} {Q : VK} (h : Q (.bl (decide (i ≤ L ∧ L ≤ j))) H) :
    if decide (i ≤ L) = true then tC (.int j) σ H (fun v H4 => rI0 (fun i j => V.bl (decide (i ≤ j))) (.int L) v H4 Q) else Q (.bl false) H := by
  by_cases c : i ≤ L
  · rw [if_pos (decide_eq_true c)]
    refine ⟨L, j, rfl, rfl, ?_⟩
    show Q (.bl (decide (L ≤ j))) H
    rw [show decide (L ≤ j) = decide (i ≤ L ∧ L ≤ j) by simp [c]]
    exact h
  · rw [if_neg (fun z => c (of_decide_eq_true z))]
    rw [show false = decide (i ≤ L ∧ L ≤ j) by simp [c]]
    exact h
def spIsHold : Sp := fun vs H Q _ => ∃ (a : Addr) (g : Nat) (r : List Int), vs = [.ref a, .int (g : Int)] ∧ H a = some (.tup (r.map V.int)) ∧ r.length ≤ 1000 ∧ 1 ≤ g ∧ ∀ H', Same H H' → Q (.bl (okRow g r)) H'
structure Consts (mg : Str → Option Value) : Prop where
  hold : ∃ t, mg "MOST_HOLD" = some (.int 6 t)
  kinds : ∃ t, mg "MOST_KINDS" = some (.int 5 t)
  goods : ∃ t, mg "MOST_GOODS" = some (.int 3 t)
theorem ok_isHold {f : Addr} {fd : FuncData} {k : Nat} (F : Fun K "is_hold" "is_hold" sIsHold f fd) (B : Bl mg) (M : Consts mg) : FnOk P w K mg base CX0 (k + 1) f fd ["hold", "goods"] spIsHold := by
  obtain ⟨t6, m6⟩ := M.hold
  refine F.ok scIH (fun vs H Q E h => ?_) (fun cdv A outer s H vs Q E hr h => ?_)
  · obtain ⟨a, g, r, rfl, _⟩ := h
    rfl
  · obtain ⟨a, g, r, rfl, ha, hz, g1, q⟩ := h
    refine ⟨_, pss_one (ps_ret (pe_and (pe_cmpR op_eq (pe_callB call_len_seq (by rfl) B.len PySem.boot_len (pa_cons (pv 0) pa_nil)) (pv 1) (nomark _))
      (pe_and (pe_callB (cr_all rfl) (by rfl) B.all (by decide +kernel) (pa_cons (pe_lc (own := [("amount", 2)]) (g := gName 2) (tt := tYes) rfl scIH.nd (pi_tup (pv 0))
          (blkOk_by (own := [("amount", 2)]) (N := ["hold", "goods", "amount"]) (sc := defScope sIsHold) (by decide +kernel)) (fun _ _ _ _ _ => pg_name (i := 2) scIH.nd rfl (Or.inl rfl)) (fun _ _ _ _ _ => pts_nil)
          (fun _ _ _ _ _ => pe_chain op_le op_le pe_int (pv 2) (pe_glob (v := .int 6) rfl m6 ⟨_, rfl⟩))) pa_nil))
        (pe_one (pe_cmpR op_gt (pe_callB (cr_maxT rfl hr.units) (by rfl) B.max (by decide +kernel) (pa_cons (pv 0) pa_nil)) pe_int (nomark _)))))), ?_⟩
    have sA : SqT K H a (r.map V.int) := SqT.of ha
    refine ⟨.ref a, rfl, a, _, rfl, .inr sA, .int (g : Int), rfl, rfl, _, rfl, ?_⟩
    rw [List.length_map]
    refine ite2 (fun c1 => ?_) (fun c1 => ?_)
    · have hl : r.length = g := by
        have := V.int.inj (of_decide_eq_true c1)
        omega
      refine ⟨.ref a, rfl, a, rfl, ⟨_, sA⟩, fun D nD => ?_⟩
      refine lc_tup (K := K) (a := a) (xs := r.map V.int) (fun i H' => Same H H' ∧ H' D = some (.lst (((r.take i).map fun n => decide (0 ≤ n ∧ n ≤ 6)).map V.bl))) ⟨same_new nD, upd_same⟩ (fun i H' _ ⟨sm, _⟩ => SqT.of (sm _ _ ha)) (fun i x H' hx ⟨sm, hD⟩ => ?_) (fun H' ⟨sm, hD⟩ => ?_)
      · obtain ⟨n, hn, rfl⟩ : ∃ n, r[i]? = some n ∧ x = V.int n := by
          rw [List.getElem?_map] at hx
          cases e : r[i]? with
          | none => rw [e] at hx; cases hx
          | some n => rw [e] at hx; exact ⟨n, rfl, (Option.some.inj hx).symm⟩
        refine ⟨rfl, yes (iteT ?_)⟩
        refine ⟨.int n, rfl, 0, n, rfl, rfl, _, rfl, chainV ?_⟩
        refine ⟨_, hD, ?_, same_late sm nD, ?_⟩
        · rw [List.length_map, List.length_map]
          exact small1000 (Nat.le_trans (List.length_take_le' _ _) hz)
        · rw [upd_same, List.take_add_one, hn, List.map_append, List.map_append]
          rfl
      · rw [List.length_map, List.take_length] at hD
        refine ⟨D, _, rfl, SqL.of hD, _, rfl, ?_⟩
        have eall : ((r.map fun n => decide (0 ≤ n ∧ n ≤ 6)).all id) = r.all (fun n => decide (0 ≤ n ∧ n ≤ 6)) := by
          rw [List.all_map]
          rfl
        rw [eall]
        refine ite2 (fun c2 => ?_) (fun c2 => ?_)
        · refine ⟨.ref a, rfl, a, r, rfl, SqT.of (sm _ _ ha), by omega, fun mx hmx hmax => ?_⟩
          refine ⟨mx, 0, rfl, rfl, ?_⟩
          have e : decide ((0 : Int) < mx) = okRow g r := by
            unfold okRow
            rw [decide_eq_true hl, c2, Bool.true_and, Bool.true_and]
            by_cases z : 0 < mx
            · rw [decide_eq_true z, any_pos.mpr ⟨mx, hmx, z⟩]
            · rw [decide_eq_false z]
              cases y : r.any (fun n => decide (0 < n)) with
              | false => rfl
              | true =>
                obtain ⟨n, hn, h0⟩ := any_pos.mp y
                have := hmax n hn
                omega
          have q1 := q H' sm
          rw [← e] at q1
          exact q1
        · have e : okRow g r = false := by
            unfold okRow
            rw [Bool.eq_false_iff.mpr c2, Bool.false_and, Bool.and_false]
          have q1 := q H' sm
          rw [e] at q1
          exact q1
    · have e : okRow g r = false := by
        unfold okRow
        rw [decide_eq_false (fun z => c1 (decide_eq_true (by rw [z]))), Bool.false_and]
      have q1 := q H (Same.refl _)
      rw [e] at q1
      exact q1
/-! ### look_lot, goods_of -/
def spLook (C : Addr) : Sp := fun vs H Q E => ∃ (p : Addr) (ll : List (List Int)), vs = [.ref p] ∧ LotAt H p ll ∧ ll.length ≤ 100 ∧ (∀ r ∈ ll, r.length ≤ 100) ∧
  (flaw ll = none → ∀ H', Same H H' → Q .non H') ∧ ∀ k, flaw ll = some k → Refd C "kind" "bad lot" (.int k) H E
/-- BadLot as it stands: its class, its __init__ -/
structure BadTxt (P : Program) (w : World) (K : PySem.W.Frag) (mg : Str → Option Value) (base : Heap) (x : Str) (C : Addr) (f wd : Str) : Prop where
  c2 : Cls2 K C f
  gC : mg x = some (.ref C)
  ini : ∃ (fI : Addr) (fd : FuncData), PySem.W.findIn K (.ref C) "__init__" = some (some (.ref fI)) ∧ PySem.W.typeIn K (.ref fI) = some (.type "function") ∧
    FnOk P w K mg base CX0 1 fI fd ["self", f] (spInit2 C f wd) ∧ Binds K fd ["self", f] []
theorem ok_look {f : Addr} {fd : FuncData} {C : Addr} (F : Fun K "look_lot" "look_lot" sLook f fd) (B : Bl mg) (M : Consts mg) (T : BadTxt P w K mg base "BadLot" C "kind" "bad lot") (CH : Cal P w K mg base CX0 1 "is_hold" ["hold", "goods"] spIsHold) :
    FnOk P w K mg base (L2.CX P w) 3 f fd ["lot"] (spLook C) := by
  obtain ⟨t5, m5⟩ := M.kinds
  obtain ⟨t3, m3⟩ := M.goods
  obtain ⟨fH, fdH, GH, gH, kH, bH⟩ := CH.ex
  obtain ⟨fI, fdI, iC, tI, GI, bI⟩ := T.ini
  refine F.okX scLk (fun vs H Q E h => ?_) (fun cdv A outer s H vs Q E hr h => ?_)
  · obtain ⟨p, ll, rfl, _⟩ := h
    rfl
  · obtain ⟨p, ll, rfl, ⟨as, hp, hR⟩, hz, hz2, q0, q1⟩ := h
    have hlen := hR.len
    refine ⟨_, pss_cons (ps_if (PW.pt (pw_or (pt_not (pt_chain op_le op_le pe_int (pe_callB call_len_seq (by rfl) B.len PySem.boot_len (pa_cons (pv 0) pa_nil)) (pe_glob (v := .int 5) rfl m5 ⟨_, rfl⟩)))
          (pw_or1 (pt_not (pt_chain op_le op_le pe_int (pe_callB call_len_seq (by rfl) B.len PySem.boot_len (pa_cons (pe_ix ix_tup (pv 0) pe_int (fun _ _ => rfl)) pa_nil)) (pe_glob (v := .int 3) rfl m3 ⟨_, rfl⟩))))))
          (pss_one (ps_raise rfl (takes_of rfl rfl rfl rfl) (pmk_oex T.c2.ox iC tI GI hr bI .nil pass0 (by rfl) T.gC (pa_cons (pe_un un_neg pe_int) pa_nil)))) pss_nil)
      (pss_one (ps_for (passes_of rfl) rfl (pi_enumT (by rfl) B.enumerate (pa_cons (pv 0) pa_nil)) (pg_tup rfl (pgs_cons (pg_name (i := 1) scLk.nd rfl (.inl rfl)) (pgs_cons (pg_name (i := 2) scLk.nd rfl (.inl rfl)) pgs_nil)))
        (pss_one (ps_if (pt_not (pt_val (pe_call GH (hr.mono (by decide)) (by rfl) gH kH bH .nil pass0 (pa_cons (pv 2) (pa_cons (pe_callB call_len_seq (by rfl) B.len PySem.boot_len (pa_cons (pe_ix ix_tup (pv 0) pe_int (fun _ _ => rfl)) pa_nil)) pa_nil)))))
          (pss_one (ps_raise rfl (takes_of rfl rfl rfl rfl) (pmk_oex T.c2.ox iC tI GI hr bI .nil pass0 (by rfl) T.gC (pa_cons (pv 1) pa_nil)))) pss_nil)))), ?_⟩
    have sP : SqT K H p (as.map V.ref) := SqT.of hp
    refine ⟨.ref p, rfl, p, _, rfl, .inr sP, 1, _, rfl, rfl, _, rfl, chainI ?_⟩
    rw [List.length_map, hlen]
    refine ite2 (fun c1 => iteT ?_) (fun c1 => ?_)
    · have e : flaw ll = some (-1) := by
        unfold flaw
        rw [if_neg (fun z => ?_)]
        simp at c1
        omega
      exact ⟨1, rfl, mk_refd (q1 _ e)⟩
    · have c1' : 1 ≤ ll.length ∧ ll.length ≤ 5 := by
        simp at c1
        omega
      obtain ⟨a0, ha0, hh0, hw⟩ := hR.head c1'.1
      have at0 : atI (as.map V.ref) 0 = some (.ref a0) := atI_nat (j := 0) (by rw [List.getElem?_map, ha0]; rfl)
      refine ⟨.ref p, rfl, p, _, 0, .ref a0, rfl, rfl, sP, at0, a0, _, rfl, .inr (SqT.of hh0), 1, _, rfl, rfl, _, rfl, chainI ?_⟩
      rw [List.length_map, hw]
      refine ite2 (fun c2 => ?_) (fun c2 => ?_)
      · have e : flaw ll = some (-1) := by
          unfold flaw
          rw [if_neg (fun z => ?_)]
          simp at c2
          omega
        exact ⟨1, rfl, mk_refd (q1 _ e)⟩
      · have c2' : 1 ≤ width ll ∧ width ll ≤ 3 := by
          simp at c2
          omega
        have eF : flaw ll = flawIn (width ll) ll := by
          unfold flaw
          rw [if_pos ⟨c1'.1, c1'.2, c2'.1, c2'.2⟩]
        refine ⟨.ref p, rfl, p, _, rfl, sP, ?_⟩
        refine ⟨fun i m σ H' => i + m = as.length ∧ Same H H' ∧ (∃ y1 y2, σ = [some (.ref p), y1, y2]) ∧ ∀ (j : Nat) (r' : List Int), j < i → ll[j]? = some r' → okRow (width ll) r' = true,
          ⟨as.length, by omega, Same.refl _, ⟨none, none, rfl⟩, fun j r' hj => absurd hj (Nat.not_lt_zero j)⟩, fun i m σ H' hW => ?_⟩
        obtain ⟨em, sm, ⟨y1, y2, rfl⟩, ih⟩ := hW
        have sP' : SqT K H' p (as.map V.ref) := SqT.of (sm _ _ hp)
        by_cases hi : i < as.length
        · have hai : as[i]? = some as[i] := List.getElem?_eq_getElem hi
          obtain ⟨r, hr1, hr2⟩ := hR.at hai
          have g1 : (as.map V.ref)[i]? = some (.ref as[i]) := by rw [List.getElem?_map, hai]; rfl
          refine .inr ⟨⟨_, _, sP', g1⟩, fun σ' H2 => Same H H2 ∧ (∃ y1 y2, σ' = [some (.ref p), y1, y2]) ∧ okRow (width ll) r = true, fun σ' H2 hN => ?_, fun x H2 hy => ?_⟩
          · obtain ⟨s2, hσ, hk⟩ := hN
            refine ⟨m - 1, by omega, by omega, s2, hσ, fun j r' hj hjr => ?_⟩
            by_cases hji : j < i
            · exact ih j r' hji hjr
            · have e : j = i := by omega
              subst e
              rw [hr1] at hjr
              cases hjr
              exact hk
          · obtain ⟨T2, x2, rfl, nT, rfl, f2⟩ := hy
            have ex2 : x2 = .ref as[i] := Option.some.inj ((f2 _ sP').symm.trans g1)
            subst ex2
            have s3 : Same H (upd H' T2 (.tup [.int (i : Nat), .ref as[i]])) := sm.trans (same_new nT)
            refine ⟨T2, _, rfl, SqT.of upd_same, rfl, _, _, rfl, _, _, rfl, rfl, ?_⟩
            refine ⟨.ref as[i], rfl, .ref p, rfl, p, _, 0, .ref a0, rfl, rfl, SqT.of (s3 _ _ hp), at0, a0, _, rfl, .inr (SqT.of (s3 _ _ hh0)), as[i], width ll, r, ?_, s3 _ _ hr2, Nat.le_trans (hz2 r (List.mem_of_getElem? hr1)) (by decide), c2'.1, fun H4 s4 => ⟨_, rfl, ?_⟩⟩
            · rw [List.length_map, hw]
              rfl
            · refine ite2 (fun d1 => ?_) (fun d1 => ?_)
              · have hb : okRow (width ll) r = false := by
                  cases e : okRow (width ll) r with
                  | false => rfl
                  | true => rw [e] at d1; cases d1
                refine ⟨_, rfl, mk_refd ?_⟩
                exact (q1 _ (eF.trans (flawIn_at hr1 hb ih))).same (s3.trans s4)
              · refine ⟨s3.trans s4, ⟨_, _, rfl⟩, ?_⟩
                cases e : okRow (width ll) r with
                | true => rfl
                | false => rw [e] at d1; exact absurd rfl d1
        · refine .inl ⟨⟨_, sP', ?_⟩, ?_⟩
          · rw [List.length_map]
            omega
          · exact q0 (eF.trans (flawIn_none fun j r' hj => ih j r' (by omega))) H' sm
def spGoods (C : Addr) : Sp := fun vs H Q E => ∃ (p : Addr) (ll : List (List Int)), vs = [.ref p] ∧ LotAt H p ll ∧ ll.length ≤ 100 ∧ (∀ r ∈ ll, r.length ≤ 100) ∧
  (flaw ll = none → ∀ H', Same H H' → Q (.int (width ll)) H') ∧ ∀ k, flaw ll = some k → Refd C "kind" "bad lot" (.int k) H E
theorem flaw_ok {ll : List (List Int)} (h : flaw ll = none) : 1 ≤ ll.length ∧ ll.length ≤ 5 ∧ 1 ≤ width ll ∧ width ll ≤ 3 := by
  unfold flaw at h
  by_cases c : 1 ≤ ll.length ∧ ll.length ≤ 5 ∧ 1 ≤ width ll ∧ width ll ≤ 3
  · exact c
  · rw [if_neg c] at h
    cases h
theorem ok_goods {f : Addr} {fd : FuncData} {C : Addr} (F : Fun K "goods_of" "goods_of" sGoods f fd) (B : Bl mg) (CL : Cal P w K mg base (L2.CX P w) 3 "look_lot" ["lot"] (spLook C)) :
    FnOk P w K mg base (L2.CX P w) 4 f fd ["lot"] (spGoods C) := by
  obtain ⟨fL, fdL, GL, gL, kL, bL⟩ := CL.ex
  refine F.okX scGo (fun vs H Q E h => ?_) (fun cdv A outer s H vs Q E hr h => ?_)
  · obtain ⟨p, ll, rfl, _⟩ := h
    rfl
  · obtain ⟨p, ll, rfl, ⟨as, hp, hR⟩, hz, hz2, q0, q1⟩ := h
    refine ⟨_, pss_cons (ps_expr (pe_call GL hr (by rfl) gL kL bL .nil (passes_call (takes_of rfl rfl rfl rfl) (fun _ _ _ _ h => h)) (pa_cons (pv 0) pa_nil)))
      (pss_one (ps_ret (pe_callB call_len_seq (by rfl) B.len PySem.boot_len (pa_cons (pe_ix ix_tup (pv 0) pe_int (fun _ _ => rfl)) pa_nil)))), ?_⟩
    refine ⟨.ref p, rfl, p, ll, rfl, ⟨as, hp, hR⟩, hz, hz2, fun e H' sm => ?_, q1⟩
    obtain ⟨a0, ha0, hh0, hw⟩ := hR.head (flaw_ok e).1
    have at0 : atI (as.map V.ref) 0 = some (.ref a0) := atI_nat (j := 0) (by rw [List.getElem?_map, ha0]; rfl)
    refine ⟨.ref p, rfl, p, _, 0, .ref a0, rfl, rfl, SqT.of (sm _ _ hp), at0, a0, _, rfl, .inr (SqT.of (sm _ _ hh0)), ?_⟩
    have q2 := q0 e H' sm
    rw [← hw] at q2
    rw [List.length_map]
    exact q2
end
end HL

namespace HL
open PySem PySem.Spec PyProof.Rows L2
open C8 (pss_cut)
/-! ### tuples cut and joined -/
theorem sz1000 {n : Nat} (h : n ≤ 1000) : n ≤ sizeLine := Nat.le_of_lt (small1000 h)
theorem cat_read {K : PySem.W.Frag} {H : Hp} {a b : Addr} {xs ys : List V} {Q : VK} (ha : H a = some (.tup xs)) (hb : H b = some (.tup ys)) (hz : xs.length + ys.length ≤ 1000)
    (q : ∀ p H', Same H H' → H' p = some (.tup (xs ++ ys)) → Q (.ref p) H') : rCatA K (.ref a) (.ref b) H Q := by
  refine ⟨a, b, xs, ys, rfl, rfl, SqT.of ha, SqT.of hb, sz1000 hz, fun e => ?_, fun _ e => ?_, fun _ _ p np => q p _ (same_new np) upd_same⟩
  · subst e
    exact q b H (Same.refl _) hb
  · subst e
    exact q a H (Same.refl _) (by rw [List.append_nil]; exact ha)
theorem slice_read {K : PySem.W.Frag} {H : Hp} {a : Addr} {xs : List V} {lo hi : Option Int} {Q : VK} (ha : H a = some (.tup xs)) (q : ∀ p H', Same H H' → H' p = some (.tup (cutV xs lo hi)) → Q (.ref p) H') : rSlA K (.ref a) lo hi H Q := by
  refine ⟨a, xs, rfl, SqT.of ha, fun e => ?_, fun _ p np => q p _ (same_new np) upd_same⟩
  refine q a H (Same.refl _) ?_
  unfold cutV
  rw [e.1, e.2, List.drop_zero, Nat.sub_zero, List.take_length]
  exact ha
theorem cut_ex (L : Nat) (lo hi : Option Int) : ∃ n m : Nat, ∀ {α : Type} (f : α → V) (l : List α), l.length = L → cutV (l.map f) lo hi = ((l.drop n).take m).map f :=
  ⟨HT.sIx L 0 lo, HT.sIx L L hi - HT.sIx L 0 lo, fun f l h => by
    unfold cutV
    rw [List.length_map, h, List.map_take, List.map_drop]⟩
/-- a tuple of ints, a tuple of rows -/
def IntsAt (H : Hp) (p : Addr) (ns : List Int) : Prop := H p = some (.tup (ns.map V.int))
def RowsAt (H : Hp) (p : Addr) (as : List Addr) (ll : List (List Int)) : Prop := H p = some (.tup (as.map V.ref)) ∧ Rows H as ll
theorem IntsAt.same {H H' : Hp} {p : Addr} {ns : List Int} (h : IntsAt H p ns) (s : Same H H') : IntsAt H' p ns := s _ _ h
theorem RowsAt.same {H H' : Hp} {p : Addr} {as : List Addr} {ll : List (List Int)} (h : RowsAt H p as ll) (s : Same H H') : RowsAt H' p as ll := ⟨s _ _ h.1, h.2.same s⟩
theorem RowsAt.kp {H H' : Hp} {f c p : Addr} {as : List Addr} {ll : List (List Int)} (h : RowsAt H p as ll) (F : FeedAt c H f) (k : Kp f H H') : RowsAt H' p as ll := ⟨k _ _ (F.tup h.1) h.1, h.2.kp F k⟩
theorem RowsAt.lot {H : Hp} {p : Addr} {as : List Addr} {ll : List (List Int)} (h : RowsAt H p as ll) : LotAt H p ll := ⟨as, h.1, h.2⟩
theorem IntsAt.kp {H H' : Hp} {f c p : Addr} {ns : List Int} (h : IntsAt H p ns) (F : FeedAt c H f) (k : Kp f H H') : IntsAt H' p ns := k _ _ (F.tup h) h
theorem cat_ints {K : PySem.W.Frag} {H : Hp} {a b : Addr} {xs ys : List Int} {Q : VK} (ha : IntsAt H a xs) (hb : IntsAt H b ys) (hz : xs.length + ys.length ≤ 1000)
    (q : ∀ p H', Same H H' → IntsAt H' p (xs ++ ys) → Q (.ref p) H') : rCatA K (.ref a) (.ref b) H Q :=
  cat_read ha hb (by rw [List.length_map, List.length_map]; exact hz) fun p H' s h => q p H' s (by unfold IntsAt; rw [List.map_append]; exact h)
theorem cat_rows {K : PySem.W.Frag} {H : Hp} {a b : Addr} {as bs : List Addr} {ll mm : List (List Int)} {Q : VK} (ha : RowsAt H a as ll) (hb : RowsAt H b bs mm) (hz : ll.length + mm.length ≤ 1000)
    (q : ∀ p H', Same H H' → RowsAt H' p (as ++ bs) (ll ++ mm) → Q (.ref p) H') : rCatA K (.ref a) (.ref b) H Q :=
  cat_read ha.1 hb.1 (by rw [List.length_map, List.length_map, ha.2.len, hb.2.len]; exact hz) fun p H' s h => q p H' s ⟨by rw [List.map_append]; exact h, (ha.2.same s).app (hb.2.same s)⟩
theorem slice_ints {K : PySem.W.Frag} {H : Hp} {a : Addr} {xs : List Int} {lo hi : Option Int} {Q : VK} (ha : IntsAt H a xs) (q : ∀ p H' n m, Same H H' → IntsAt H' p ((xs.drop n).take m) → Q (.ref p) H') : rSlA K (.ref a) lo hi H Q := by
  obtain ⟨n, m, e⟩ := cut_ex xs.length lo hi
  exact slice_read ha fun p H' s h => q p H' n m s (by unfold IntsAt; rw [← e V.int xs rfl]; exact h)
theorem slice_rows {K : PySem.W.Frag} {H : Hp} {a : Addr} {as : List Addr} {ll : List (List Int)} {lo hi : Option Int} {Q : VK} (ha : RowsAt H a as ll)
    (q : ∀ p H' n m, Same H H' → RowsAt H' p ((as.drop n).take m) ((ll.drop n).take m) → Q (.ref p) H') : rSlA K (.ref a) lo hi H Q := by
  obtain ⟨n, m, e⟩ := cut_ex as.length lo hi
  exact slice_read ha.1 fun p H' s h => q p H' n m s ⟨by rw [← e V.ref as rfl]; exact h, ((ha.2.same s).drop n).take m⟩
theorem len_cut {α : Type} (l : List α) (n m : Nat) : ((l.drop n).take m).length ≤ l.length := by
  rw [List.length_take, List.length_drop]
  omega
theorem mem_cut {α : Type} {l : List α} {n m : Nat} {x : α} (h : x ∈ (l.drop n).take m) : x ∈ l := List.mem_of_mem_drop (List.mem_of_mem_take h)
theorem one_row {H : Hp} {t r : Addr} {row : List Int} (h : IntsAt H r row) (nt : H t = none) : RowsAt (upd H t (.tup [.ref r])) t [r] [row] := ⟨upd_same, ⟨(same_new nt) _ _ h, True.intro⟩⟩
theorem sz_1 (v : V) : [v].length ≤ sizeLine := by
  show 1 ≤ sizeLine
  decide
theorem noPart {σ : L2.St} {H : Hp} {Q : Option Int → Hp → Prop} (h : Q none H) : tNoPart σ H Q := h
end HL

namespace HL
open PySem PySem.Spec PyProof.Rows L2
open C8 (pss_cut)
open RZ (pi_zipA ItzT iZipA)
/-! ### the further refusals -/
abbrev sBillInit : Stmt := inClass (topS 3) 0
abbrev sCountsInit : Stmt := inClass (topS 4) 0
theorem scBB : FnScope ["self", "good"] ["self", "good"] (defScope sBillInit) := ⟨rfl, rfl, rfl, by decide +kernel, rfl, by decide +kernel, by decide +kernel⟩
theorem scBC : FnScope ["self", "kind"] ["self", "kind"] (defScope sCountsInit) := ⟨rfl, rfl, rfl, by decide +kernel, rfl, by decide +kernel, by decide +kernel⟩
abbrev G30 : Int := 1000000000000000000000000000000
/-- a tuple of ints, tracked or written -/
def IT (K : PySem.W.Frag) (H : Hp) (a : Addr) (ns : List Int) : Prop := SqT K H a (ns.map V.int)
theorem sqT_same {K : PySem.W.Frag} {H H' : Hp} {a : Addr} {xs : List V} (h : SqT K H a xs) (s : Same H H') : SqT K H' a xs := by
  rcases h with (h | ⟨o, h⟩) | h
  · exact .inl (.inl (s _ _ h))
  · exact .inl (.inr ⟨o, s _ _ h⟩)
  · exact .inr h
theorem IT.same {K : PySem.W.Frag} {H H' : Hp} {a : Addr} {ns : List Int} (h : IT K H a ns) (s : Same H H') : IT K H' a ns := sqT_same h s
theorem IntsAt.it {K : PySem.W.Frag} {H : Hp} {a : Addr} {ns : List Int} (h : IntsAt H a ns) : IT K H a ns := SqT.of h
/-! ### where a row is wrong -/
def inB (n : Int) : Bool := decide (0 ≤ n ∧ n < G30)
def wrong (m : Int) (row : List Int) : Option Int := if (row.length : Int) = m then (row.findIdx? fun n => !inB n).map fun i => (i : Int) else some (-1)
def wrongV (m : Int) (row : List Int) : V := match wrong m row with
  | none => .non
  | some k => .int k
theorem wrong_at {m : Int} {row : List Int} {i : Nat} {n : Int} (hl : (row.length : Int) = m) (h : row[i]? = some n) (hb : inB n = false) (ha : ∀ (j : Nat) (z : Int), j < i → row[j]? = some z → inB z = true) : wrong m row = some (i : Int) := by
  unfold wrong
  rw [if_pos hl]
  obtain ⟨hi, he⟩ := List.getElem?_eq_some_iff.mp h
  have e : row.findIdx? (fun n => !inB n) = some i := by
    refine List.findIdx?_eq_some_iff_getElem.mpr ⟨hi, by rw [he, hb]; rfl, fun j hj => ?_⟩
    rw [ha j row[j] hj (List.getElem?_eq_getElem (by omega))]
    decide
  rw [e]
  rfl
theorem wrong_none {m : Int} {row : List Int} (hl : (row.length : Int) = m) (ha : ∀ (j : Nat) (z : Int), j < row.length → row[j]? = some z → inB z = true) : wrong m row = none := by
  unfold wrong
  rw [if_pos hl]
  have e : row.findIdx? (fun n => !inB n) = none := by
    refine List.findIdx?_eq_none_iff.mpr fun r hr => ?_
    obtain ⟨j, hj, hjr⟩ := List.mem_iff_getElem.mp hr
    rw [ha j r hj (by rw [List.getElem?_eq_getElem hj, hjr])]
    rfl
  rw [e]
  rfl
theorem wrong_len {m : Int} {row : List Int} (hl : ¬ (row.length : Int) = m) : wrong m row = some (-1) := by
  unfold wrong
  rw [if_neg hl]
theorem wrong_ok {m : Int} {row : List Int} (h : wrong m row = none) : (row.length : Int) = m ∧ ∀ n ∈ row, 0 ≤ n ∧ n < G30 := by
  unfold wrong at h
  by_cases c : (row.length : Int) = m
  · rw [if_pos c] at h
    refine ⟨c, fun n hn => ?_⟩
    have e : row.findIdx? (fun n => !inB n) = none := by
      cases z : row.findIdx? (fun n => !inB n) with
      | none => rfl
      | some i => rw [z] at h; cases h
    have := List.findIdx?_eq_none_iff.mp e n hn
    have b : inB n = true := by
      cases z : inB n with
      | true => rfl
      | false => rw [z] at this; cases this
    exact of_decide_eq_true b
  · rw [if_neg c] at h
    cases h
/-- 0 <= x < y as a test -/
theorem chainL {i j L : Int} {H : Hp} {Q : Bool → Hp → Prop} (h : Q (decide (i ≤ L ∧ L < j)) H) :
    if decide (i ≤ L) = true then (∃ a b : Int, V.int L = V.int a ∧ V.int j = V.int b ∧ ∃ k, V.bl (decide (a < b)) = V.bl k ∧ Q k H) else ∃ k, V.bl false = V.bl k ∧ Q k H := by
  by_cases c : i ≤ L
  · rw [if_pos (decide_eq_true c)]
    refine ⟨L, j, rfl, rfl, _, rfl, ?_⟩
    rw [show decide (L < j) = decide (i ≤ L ∧ L < j) by simp [c]]
    exact h
  · rw [if_neg (fun z => c (of_decide_eq_true z))]
    refine ⟨false, rfl, ?_⟩
    rw [show false = decide (i ≤ L ∧ L < j) by simp [c]]
    exact h
theorem scFirst : FnScope ["row", "many", "place", "number"] ["row", "many"] (defScope sFirst) := ⟨rfl, rfl, rfl, by decide +kernel, rfl, by decide +kernel, by decide +kernel⟩
theorem scLB : FnScope ["lot", "bill", "wrong"] ["lot", "bill"] (defScope sLookBill) := ⟨rfl, rfl, rfl, by decide +kernel, rfl, by decide +kernel, by decide +kernel⟩
theorem scLC : FnScope ["lot", "counts", "wrong"] ["lot", "counts"] (defScope sLookCounts) := ⟨rfl, rfl, rfl, by decide +kernel, rfl, by decide +kernel, by decide +kernel⟩
theorem scPk : FnScope ["lot", "counts", "good", "count", "hold"] ["lot", "counts", "good"] (defScope sPacked) := ⟨rfl, rfl, rfl, by decide +kernel, rfl, by decide +kernel, by decide +kernel⟩
theorem scBO : FnScope ["lot", "counts", "loose", "goods", "good"] ["lot", "counts", "loose"] (defScope sBillOf) := ⟨rfl, rfl, rfl, by decide +kernel, rfl, by decide +kernel, by decide +kernel⟩
section
variable {P : Program} {w : World} {K : PySem.W.Frag} {mg : Str → Option Value} {base : Heap}
theorem ok_billInit {f : Addr} {fd : FuncData} {k : Nat} {C : Addr} (F : Fun K "__init__" "BadBill.__init__" sBillInit f fd) (T : Cls2 K C "good") : FnOk P w K mg base CX0 (k + 1) f fd ["self", "good"] (spInit2 C "good" "bad bill") := by
  refine F.ok scBB (fun vs H Q E h => ?_) (fun cdv A outer s H vs Q E hr h => ?_)
  · obtain ⟨a, v, rfl, _⟩ := h
    rfl
  · obtain ⟨a, v, rfl, ha, q⟩ := h
    refine ⟨_, pss_cons (ps_ost (pv 0) pe_str) (pss_one (ps_ost (pv 0) (pv 1))), ?_⟩
    refine ⟨.ref a, rfl, a, C, rfl, T.ox, T.noW, .inl ⟨ha, fun dx nd ne => ?_⟩⟩
    refine ⟨v, rfl, .ref a, rfl, a, C, rfl, T.ox, T.noF, .inr ⟨dx, _, upd_same, ?_, (by show 1 ≤ 900; decide), q dx nd ne⟩⟩
    rw [upd_ne ne, upd_same]
theorem ok_countsInit {f : Addr} {fd : FuncData} {k : Nat} {C : Addr} (F : Fun K "__init__" "BadCounts.__init__" sCountsInit f fd) (T : Cls2 K C "kind") : FnOk P w K mg base CX0 (k + 1) f fd ["self", "kind"] (spInit2 C "kind" "bad counts") := by
  refine F.ok scBC (fun vs H Q E h => ?_) (fun cdv A outer s H vs Q E hr h => ?_)
  · obtain ⟨a, v, rfl, _⟩ := h
    rfl
  · obtain ⟨a, v, rfl, ha, q⟩ := h
    refine ⟨_, pss_cons (ps_ost (pv 0) pe_str) (pss_one (ps_ost (pv 0) (pv 1))), ?_⟩
    refine ⟨.ref a, rfl, a, C, rfl, T.ox, T.noW, .inl ⟨ha, fun dx nd ne => ?_⟩⟩
    refine ⟨v, rfl, .ref a, rfl, a, C, rfl, T.ox, T.noF, .inr ⟨dx, _, upd_same, ?_, (by show 1 ≤ 900; decide), q dx nd ne⟩⟩
    rw [upd_ne ne, upd_same]
def spFirst (K : PySem.W.Frag) : Sp := fun vs H Q _ => ∃ (a : Addr) (m : Int) (row : List Int), vs = [.ref a, .int m] ∧ IT K H a row ∧ row.length ≤ 100 ∧ ∀ H', Same H H' → Q (wrongV m row) H'
theorem ok_first {f : Addr} {fd : FuncData} {k : Nat} (F : Fun K "first_wrong" "first_wrong" sFirst f fd) (B : Bl mg) (mG : ∃ t, mg "GREAT" = some (.int G30 t)) : FnOk P w K mg base CX0 (k + 1) f fd ["row", "many"] (spFirst K) := by
  obtain ⟨tG, mG⟩ := mG
  refine F.ok scFirst (fun vs H Q E h => ?_) (fun cdv A outer s H vs Q E hr h => ?_)
  · obtain ⟨a, m, row, rfl, _⟩ := h
    rfl
  · obtain ⟨a, m, row, rfl, hA, hz, q⟩ := h
    refine ⟨_, pss_cons (ps_if (pt_cmpR op_ne (pe_callB call_len_seq (by rfl) B.len PySem.boot_len (pa_cons (pv 0) pa_nil)) (pv 1) (nomark _)) (pss_one (ps_ret (pe_un un_neg pe_int))) pss_nil)
      (pss_cons (ps_for PassesOwn.never rfl (pi_enumT (by rfl) B.enumerate (pa_cons (pv 0) pa_nil)) (pg_tup rfl (pgs_cons (pg_name (i := 2) scFirst.nd rfl (.inl rfl)) (pgs_cons (pg_name (i := 3) scFirst.nd rfl (.inl rfl)) pgs_nil)))
        (pss_one (ps_if (pt_not (pt_chain op_le op_lt pe_int (pv 3) (pe_glob (v := .int G30) rfl mG ⟨_, rfl⟩))) (pss_one (ps_ret (pv 2))) pss_nil)))
      (pss_one (ps_ret pe_non))), ?_⟩
    refine ⟨.ref a, rfl, a, _, rfl, .inr hA, .int m, rfl, rfl, _, rfl, ?_⟩
    rw [List.length_map]
    refine ite2 (fun c1 => ?_) (fun c1 => ?_)
    · have hl : ¬ (row.length : Int) = m := fun z => by rw [z, decide_eq_true rfl] at c1; cases c1
      have q1 := q H (Same.refl _)
      unfold wrongV at q1
      rw [wrong_len hl] at q1
      exact ⟨1, rfl, q1⟩
    · have hl : (row.length : Int) = m := by
        by_cases z : (row.length : Int) = m
        · exact z
        · refine absurd ?_ c1
          rw [decide_eq_false (fun y => z (V.int.inj y))]
          rfl
      refine ⟨.ref a, rfl, a, _, rfl, hA, ?_⟩
      refine ⟨fun i mm σ H' => i + mm = row.length ∧ Same H H' ∧ (∃ y2 y3, σ = [some (.ref a), some (.int m), y2, y3]) ∧ ∀ (j : Nat) (z : Int), j < i → row[j]? = some z → inB z = true,
        ⟨row.length, by omega, Same.refl _, ⟨none, none, rfl⟩, fun j r' hj => absurd hj (Nat.not_lt_zero j)⟩, fun i mm σ H' hW => ?_⟩
      obtain ⟨em, sm, ⟨y2, y3, rfl⟩, ih⟩ := hW
      have sA : SqT K H' a (row.map V.int) := sqT_same hA sm
      by_cases hi : i < row.length
      · have hri : row[i]? = some row[i] := List.getElem?_eq_getElem hi
        have g1 : (row.map V.int)[i]? = some (.int row[i]) := by rw [List.getElem?_map, hri]; rfl
        refine .inr ⟨⟨_, _, sA, g1⟩, fun σ' H2 => Same H H2 ∧ (∃ y2 y3, σ' = [some (.ref a), some (.int m), y2, y3]) ∧ inB row[i] = true, fun σ' H2 hN => ?_, fun x H2 hy => ?_⟩
        · obtain ⟨s2, hσ, hk⟩ := hN
          refine ⟨mm - 1, by omega, by omega, s2, hσ, fun j z hj hjr => ?_⟩
          by_cases hji : j < i
          · exact ih j z hji hjr
          · have e : j = i := by omega
            subst e
            rw [hri] at hjr
            cases hjr
            exact hk
        · obtain ⟨T2, x2, rfl, nT, rfl, f2⟩ := hy
          have ex2 : x2 = .int row[i] := Option.some.inj ((f2 _ sA).symm.trans g1)
          subst ex2
          have s3 : Same H (upd H' T2 (.tup [.int (i : Nat), .int row[i]])) := sm.trans (same_new nT)
          refine ⟨T2, _, rfl, SqT.of upd_same, rfl, _, _, rfl, _, _, rfl, rfl, ?_⟩
          refine ⟨.int row[i], rfl, 0, row[i], rfl, rfl, _, rfl, chainL ?_⟩
          refine ite2 (fun d1 => ?_) (fun d1 => ?_)
          · have hb : inB row[i] = false := by
              unfold inB
              cases e : decide (0 ≤ row[i] ∧ row[i] < G30) with
              | false => rfl
              | true => rw [e] at d1; cases d1
            have q1 := q _ s3
            unfold wrongV at q1
            rw [wrong_at hl hri hb ih] at q1
            exact ⟨_, rfl, q1⟩
          · refine ⟨s3, ⟨_, _, rfl⟩, ?_⟩
            unfold inB
            cases e : decide (0 ≤ row[i] ∧ row[i] < G30) with
            | true => rfl
            | false => rw [e] at d1; exact absurd rfl d1
      · refine .inl ⟨⟨_, sA, ?_⟩, ?_⟩
        · rw [List.length_map]
          omega
        · have q1 := q H' sm
          unfold wrongV at q1
          rw [wrong_none hl (fun j z hj => ih j z (by omega))] at q1
          exact q1
/-! ### look_bill, look_counts -/
def LotB (H : Hp) (p : Addr) (as : List Addr) (ll : List (List Int)) : Prop := RowsAt H p as ll ∧ ll.length ≤ 100 ∧ ∀ r ∈ ll, r.length ≤ 100
theorem LotB.same {H H' : Hp} {p : Addr} {as : List Addr} {ll : List (List Int)} (h : LotB H p as ll) (s : Same H H') : LotB H' p as ll := ⟨h.1.same s, h.2⟩
def spLookBill (K : PySem.W.Frag) (C CB : Addr) : Sp := fun vs H Q E => ∃ (p b : Addr) (as : List Addr) (ll : List (List Int)) (row : List Int), vs = [.ref p, .ref b] ∧ LotB H p as ll ∧ IT K H b row ∧ row.length ≤ 100 ∧
  (∀ k, flaw ll = some k → Refd C "kind" "bad lot" (.int k) H E) ∧ (flaw ll = none → ∀ k, wrong (width ll) row = some k → Refd CB "good" "bad bill" (.int k) H E) ∧ (flaw ll = none → wrong (width ll) row = none → ∀ H', Same H H' → Q .non H')
theorem wrongV_non {m : Int} {row : List Int} : wrongV m row = .non ↔ wrong m row = none := by
  unfold wrongV
  cases wrong m row with
  | none => exact ⟨fun _ => rfl, fun _ => rfl⟩
  | some k => exact ⟨fun z => (by cases z), fun z => (by cases z)⟩
theorem wrongV_some {m : Int} {row : List Int} (h : ¬ wrongV m row = .non) : ∃ k, wrong m row = some k ∧ wrongV m row = .int k := by
  cases e : wrong m row with
  | none => exact absurd (wrongV_non.mpr e) h
  | some k => exact ⟨k, rfl, by unfold wrongV; rw [e]⟩
theorem ok_lookBill {f : Addr} {fd : FuncData} {C CB : Addr} (F : Fun K "look_bill" "look_bill" sLookBill f fd) (T : BadTxt P w K mg base "BadBill" CB "good" "bad bill") (CF : Cal P w K mg base CX0 1 "first_wrong" ["row", "many"] (spFirst K))
    (CG : Cal P w K mg base (L2.CX P w) 4 "goods_of" ["lot"] (spGoods C)) : FnOk P w K mg base (L2.CX P w) 5 f fd ["lot", "bill"] (spLookBill K C CB) := by
  obtain ⟨fF, fdF, GF, gF, kF, bF⟩ := CF.ex
  obtain ⟨fG, fdG, GG, gG, kG, bG⟩ := CG.ex
  obtain ⟨fI, fdI, iC, tI, GI, bI⟩ := T.ini
  refine F.okX scLB (fun vs H Q E h => ?_) (fun cdv A outer s H vs Q E hr h => ?_)
  · obtain ⟨p, b, as, ll, row, rfl, _⟩ := h
    rfl
  · obtain ⟨p, b, as, ll, row, rfl, hL, hB, hz, q1, q2, q3⟩ := h
    refine ⟨_, pss_cons (ps_set (i := 2) scLB.nd rfl (.inl rfl) (pe_call GF (hr.mono (by decide)) (by rfl) gF kF bF .nil pass0 (pa_cons (pv 1) (pa_cons (pe_call GG hr (by rfl) gG kG bG .nil (passes_call (takes_of rfl rfl rfl rfl) (fun _ _ _ _ h => h)) (pa_cons (pv 0) pa_nil)) pa_nil))))
      (pss_one (ps_if (pt_cmpR op_notN (pv 2) pe_non (nomark _)) (pss_one (ps_raise rfl (takes_of rfl rfl rfl rfl) (pmk_oex T.c2.ox iC tI GI (hr.mono (by decide)) bI .nil pass0 (by rfl) T.gC (pa_cons (pv 2) pa_nil)))) pss_nil)), ?_⟩
    refine ⟨.ref b, rfl, .ref p, rfl, p, ll, rfl, hL.1.lot, hL.2.1, hL.2.2, fun ef H1 s1 => ?_, q1⟩
    refine ⟨b, width ll, row, rfl, hB.same s1, hz, fun H2 s2 => ?_⟩
    refine ⟨_, rfl, rfl, _, rfl, ite2 (fun c => ?_) (fun c => ?_)⟩
    · have hn : ¬ wrongV (width ll) row = .non := fun z => by rw [z, decide_eq_true rfl] at c; cases c
      obtain ⟨k, ek, ev⟩ := wrongV_some hn
      refine ⟨_, rfl, ?_⟩
      rw [ev]
      exact mk_refd ((q2 ef k ek).same (s1.trans s2))
    · have hn : wrongV (width ll) row = .non := by
        by_cases z : wrongV (width ll) row = .non
        · exact z
        · rw [decide_eq_false z] at c
          exact absurd rfl c
      exact q3 ef (wrongV_non.mp hn) H2 (s1.trans s2)
def spLookCounts (K : PySem.W.Frag) (C CC : Addr) : Sp := fun vs H Q E => ∃ (p b : Addr) (as : List Addr) (ll : List (List Int)) (row : List Int), vs = [.ref p, .ref b] ∧ LotB H p as ll ∧ IT K H b row ∧ row.length ≤ 100 ∧
  (∀ k, flaw ll = some k → Refd C "kind" "bad lot" (.int k) H E) ∧ (flaw ll = none → ∀ k, wrong ll.length row = some k → Refd CC "kind" "bad counts" (.int k) H E) ∧ (flaw ll = none → wrong ll.length row = none → ∀ H', Same H H' → Q .non H')
theorem ok_lookCounts {f : Addr} {fd : FuncData} {C CC : Addr} (F : Fun K "look_counts" "look_counts" sLookCounts f fd) (B : Bl mg) (T : BadTxt P w K mg base "BadCounts" CC "kind" "bad counts") (CF : Cal P w K mg base CX0 1 "first_wrong" ["row", "many"] (spFirst K))
    (CL : Cal P w K mg base (L2.CX P w) 3 "look_lot" ["lot"] (spLook C)) : FnOk P w K mg base (L2.CX P w) 4 f fd ["lot", "counts"] (spLookCounts K C CC) := by
  obtain ⟨fF, fdF, GF, gF, kF, bF⟩ := CF.ex
  obtain ⟨fG, fdG, GG, gG, kG, bG⟩ := CL.ex
  obtain ⟨fI, fdI, iC, tI, GI, bI⟩ := T.ini
  refine F.okX scLC (fun vs H Q E h => ?_) (fun cdv A outer s H vs Q E hr h => ?_)
  · obtain ⟨p, b, as, ll, row, rfl, _⟩ := h
    rfl
  · obtain ⟨p, b, as, ll, row, rfl, hL, hB, hz, q1, q2, q3⟩ := h
    refine ⟨_, pss_cons (ps_expr (pe_call GG hr (by rfl) gG kG bG .nil (passes_call (takes_of rfl rfl rfl rfl) (fun _ _ _ _ h => h)) (pa_cons (pv 0) pa_nil)))
      (pss_cons (ps_set (i := 2) scLC.nd rfl (.inl rfl) (pe_call GF (hr.mono (by decide)) (by rfl) gF kF bF .nil pass0 (pa_cons (pv 1) (pa_cons (pe_callB call_len_seq (by rfl) B.len PySem.boot_len (pa_cons (pv 0) pa_nil)) pa_nil))))
      (pss_one (ps_if (pt_cmpR op_notN (pv 2) pe_non (nomark _)) (pss_one (ps_raise rfl (takes_of rfl rfl rfl rfl) (pmk_oex T.c2.ox iC tI GI (hr.mono (by decide)) bI .nil pass0 (by rfl) T.gC (pa_cons (pv 2) pa_nil)))) pss_nil))), ?_⟩
    refine ⟨.ref p, rfl, p, ll, rfl, hL.1.lot, hL.2.1, hL.2.2, fun ef H1 s1 => ?_, q1⟩
    refine ⟨.ref b, rfl, .ref p, rfl, p, _, rfl, .inr (SqT.of (hL.1.same s1).1), b, ll.length, row, ?_, hB.same s1, hz, fun H2 s2 => ?_⟩
    · rw [List.length_map, hL.1.2.len]
      rfl
    refine ⟨_, rfl, rfl, _, rfl, ite2 (fun c => ?_) (fun c => ?_)⟩
    · have hn : ¬ wrongV ll.length row = .non := fun z => by rw [z, decide_eq_true rfl] at c; cases c
      obtain ⟨k, ek, ev⟩ := wrongV_some hn
      refine ⟨_, rfl, ?_⟩
      rw [ev]
      exact mk_refd ((q2 ef k ek).same (s1.trans s2))
    · have hn : wrongV ll.length row = .non := by
        by_cases z : wrongV ll.length row = .non
        · exact z
        · rw [decide_eq_false z] at c
          exact absurd rfl c
      exact q3 ef (wrongV_non.mp hn) H2 (s1.trans s2)
end
end HL

namespace HL
open PySem PySem.Spec PyProof.Rows L2
open C8 (pss_cut)
open RZ (pi_zipA ItzT iZipA)
/-! ### what hampers hold together -/
def pk1 (g : Nat) (q : Int × List Int) : Int := q.1 * q.2.getD g 0
def packI (ll : List (List Int)) (cs : List Int) (g : Nat) : Int := ((cs.zip ll).map (pk1 g)).sum
def billI (ll : List (List Int)) (cs ls : List Int) : List Int := (List.range (width ll)).map fun g => packI ll cs g + ls.getD g 0
theorem flaw_rows {ll : List (List Int)} (h : flaw ll = none) : ∀ r ∈ ll, r.length = width ll ∧ ∀ n ∈ r, 0 ≤ n ∧ n ≤ 6 := by
  have h0 := flaw_ok h
  unfold flaw at h
  rw [if_pos ⟨h0.1, h0.2.1, h0.2.2.1, h0.2.2.2⟩] at h
  unfold flawIn at h
  have e : ll.findIdx? (fun r => !okRow (width ll) r) = none := by
    cases z : ll.findIdx? (fun r => !okRow (width ll) r) with
    | none => rfl
    | some i => rw [z] at h; cases h
  intro r hr
  have := List.findIdx?_eq_none_iff.mp e r hr
  have b : okRow (width ll) r = true := by
    cases z : okRow (width ll) r with
    | true => rfl
    | false => rw [z] at this; cases this
  obtain ⟨o1, o2, _⟩ := okRow_iff.mp b
  exact ⟨o1, o2⟩
theorem getD_at {r : List Int} {g : Nat} (h : g < r.length) : r[g]? = some (r.getD g 0) := by
  rw [List.getElem?_eq_getElem h, List.getD_eq_getElem?_getD, List.getElem?_eq_getElem h]
  rfl
theorem zip_at {cs : List Int} {ll : List (List Int)} {i : Nat} {c : Int} {r : List Int} (h1 : cs[i]? = some c) (h2 : ll[i]? = some r) : (cs.zip ll)[i]? = some (c, r) := by
  rw [List.getElem?_zip_eq_some]
  exact ⟨h1, h2⟩
theorem nilA {σ : L2.St} {H : Hp} {Q : List V → Hp → Prop} (h : Q [] H) : tNil σ H Q := h
section
variable {P : Program} {w : World} {K : PySem.W.Frag} {mg : Str → Option Value} {base : Heap}
def spPacked (K : PySem.W.Frag) : Sp := fun vs H Q _ => ∃ (p c : Addr) (g : Nat) (as : List Addr) (ll : List (List Int)) (cs : List Int), vs = [.ref p, .ref c, .int (g : Int)] ∧ RowsAt H p as ll ∧ IT K H c cs ∧ cs.length = ll.length ∧ ll.length ≤ 100 ∧
  (∀ r ∈ ll, g < r.length ∧ ∀ n ∈ r, 0 ≤ n ∧ n ≤ 6) ∧ ∀ H', Same H H' → Q (.int (packI ll cs g)) H'
theorem ok_packed {f : Addr} {fd : FuncData} {k : Nat} (F : Fun K "packed" "packed" sPacked f fd) (B : Bl mg) (mz : mg "zip" = none) : FnOk P w K mg base CX0 (k + 1) f fd ["lot", "counts", "good"] (spPacked K) := by
  refine F.ok scPk (fun vs H Q E h => ?_) (fun cdv A outer s H vs Q E hr h => ?_)
  · obtain ⟨p, c, g, as, ll, cs, rfl, _⟩ := h
    rfl
  · obtain ⟨p, c, g, as, ll, cs, rfl, hL, hC, hl, hz, hrow, q⟩ := h
    refine ⟨_, pss_one (ps_ret (pe_callB (cr_sum rfl) (by rfl) B.sum (by decide +kernel) (pa_cons (pe_lc (own := [("count", 3), ("hold", 4)]) (g := gTup K 2 (gCons (gName 3) (gCons (gName 4) gNil))) (tt := tYes) rfl scPk.nd (pi_zipA (by rfl) mz (pa_cons (pv 1) (pa_cons (pv 0) pa_nil)))
        (blkOk_by (own := [("count", 3), ("hold", 4)]) (N := ["lot", "counts", "good", "count", "hold"]) (sc := defScope sPacked) (by decide +kernel)) (fun _ _ _ _ _ => pg_tup rfl (pgs_cons (pg_name (i := 3) scPk.nd rfl (Or.inl rfl)) (pgs_cons (pg_name (i := 4) scPk.nd rfl (Or.inl rfl)) pgs_nil))) (fun _ _ _ _ _ => pts_nil)
        (fun _ _ _ _ _ => pe_op op_mul (pv 3) (pe_ix (r := rIxT K) ix_tup (pv 4) (pv 2) (fun _ _ => rfl)))) pa_nil))), ?_⟩
    refine ⟨.ref c, rfl, .ref p, rfl, c, p, _, _, rfl, .inr ⟨hC, SqT.of hL.1, fun D nD => ?_⟩⟩
    refine ⟨fun i m H' => i + m = ll.length ∧ Same H H' ∧ H' D = some (.lst ((((cs.zip ll).take i).map (pk1 g)).map V.int)), ⟨ll.length, by omega, same_new nD, upd_same⟩, fun i m H' hW => ?_⟩
    obtain ⟨em, sm, hD⟩ := hW
    have sC : SqT K H' c (cs.map V.int) := sqT_same hC sm
    have sP : SqT K H' p (as.map V.ref) := SqT.of (sm _ _ hL.1)
    by_cases hi : i < ll.length
    · have hci : cs[i]? = some (cs[i]'(by omega)) := List.getElem?_eq_getElem (by omega)
      have hai : as[i]? = some (as[i]'(by rw [hL.2.len]; exact hi)) := List.getElem?_eq_getElem (by rw [hL.2.len]; exact hi)
      obtain ⟨r, hr1, hr2⟩ := hL.2.at hai
      have g1 : (cs.map V.int)[i]? = some (.int (cs[i]'(by omega))) := by rw [List.getElem?_map, hci]; rfl
      have g2 : (as.map V.ref)[i]? = some (.ref (as[i]'(by rw [hL.2.len]; exact hi))) := by rw [List.getElem?_map, hai]; rfl
      have hrr := hrow r (List.mem_of_getElem? hr1)
      refine .inr ⟨⟨_, _, _, _, sC, sP, g1, g2⟩, fun H2 => Same H H2 ∧ H2 D = some (.lst ((((cs.zip ll).take (i + 1)).map (pk1 g)).map V.int)), fun H2 hN => ⟨m - 1, by omega, by omega, hN⟩, fun x H2 hy => ?_⟩
      obtain ⟨T, x1, x2, rfl, nT, rfl, f1, f2⟩ := hy
      have ex1 := Option.some.inj ((f1 _ sC).symm.trans g1)
      have ex2 := Option.some.inj ((f2 _ sP).symm.trans g2)
      subst ex1 ex2
      have sT := same_new (o := .tup [V.int (cs[i]'(by omega)), V.ref (as[i]'(by rw [hL.2.len]; exact hi))]) nT
      refine ⟨T, _, rfl, SqT.of upd_same, rfl, _, _, rfl, _, _, rfl, rfl, rfl, yes (iteT ?_)⟩
      refine ⟨_, rfl, _, rfl, .int (g : Int), rfl, _, _, _, .int (r.getD g 0), rfl, rfl, SqT.of (sT _ _ (sm _ _ hr2)), atI_nat (by rw [List.getElem?_map, getD_at hrr.1]; rfl), _, _, rfl, rfl, .inr ?_, ?_⟩
      · have hm := hrr.2 (r.getD g 0) (List.mem_of_getElem? (getD_at hrr.1))
        exact ⟨by omega, by omega⟩
      · refine ⟨_, sT _ _ hD, ?_, same_late (sm.trans sT) nD, ?_⟩
        · rw [List.length_map, List.length_map]
          exact small1000 (Nat.le_trans (List.length_take_le _ _) (by omega))
        · rw [upd_same, List.take_add_one, zip_at hci hr1, List.map_append, List.map_append]
          rfl
    · refine .inl ⟨⟨_, _, sC, sP, .inl ?_⟩, ?_⟩
      · rw [List.length_map]
        omega
      · have e : (cs.zip ll).take i = cs.zip ll := List.take_of_length_le (by rw [List.length_zip]; omega)
        rw [e] at hD
        exact ⟨D, _, rfl, SqL.of hD, q H' sm⟩
/-! ### bill_of -/
theorem dp_ints {H : Hp} : ∀ ns : List Int, DpAll K H (ns.map V.int) (ns.map PyData.int)
  | [] => .nil
  | n :: ns => .cons (.int n) (dp_ints ns)
theorem shaped_tup (ns : List Int) : SeqAt.shaped (.tuple (ns.map PyData.int)) = true := by
  simp [SeqAt.shaped, PyData.canLay0, PyData.depth, PySem.W.ke_canLayAll0, PySem.W.ke_depthAll]
theorem eqv_nil (ns : List Int) : PyData.eqv (.tuple (ns.map PyData.int)) (.tuple []) = decide (ns = []) := by
  cases ns with
  | nil => simp [PyData.eqv, PyData.eqvAll]
  | cons n ns => simp [PyData.eqv, PyData.eqvAll]
def spBillOf (K : PySem.W.Frag) (C CB CC : Addr) : Sp := fun vs H Q E => ∃ (p c lo : Addr) (as : List Addr) (ll : List (List Int)) (cs ls : List Int), vs = [.ref p, .ref c, .ref lo] ∧ LotB H p as ll ∧ IT K H c cs ∧ cs.length ≤ 100 ∧ IT K H lo ls ∧ ls.length ≤ 100 ∧
  (∀ k, flaw ll = some k → Refd C "kind" "bad lot" (.int k) H E) ∧ (flaw ll = none → ∀ k, wrong ll.length cs = some k → Refd CC "kind" "bad counts" (.int k) H E) ∧
  (flaw ll = none → wrong ll.length cs = none → ls ≠ [] → ∀ k, wrong (width ll) ls = some k → Refd CB "good" "bad bill" (.int k) H E) ∧
  (flaw ll = none → wrong ll.length cs = none → (ls = [] ∨ wrong (width ll) ls = none) → ∀ H' p', Same H H' → IntsAt H' p' (billI ll cs ls) → Q (.ref p') H')
theorem ok_billOf {f : Addr} {fd : FuncData} {C CB CC : Addr} {kws : List (Str × V)} (F : FunD K "bill_of" "bill_of" (defArgs sBillOf) (defBody sBillOf) (defScope sBillOf) [] kws f fd) (B : Bl mg)
    (CLC : Cal P w K mg base (L2.CX P w) 4 "look_counts" ["lot", "counts"] (spLookCounts K C CC)) (CG : Cal P w K mg base (L2.CX P w) 4 "goods_of" ["lot"] (spGoods C)) (CLB : Cal P w K mg base (L2.CX P w) 5 "look_bill" ["lot", "bill"] (spLookBill K C CB))
    (CP : Cal P w K mg base CX0 1 "packed" ["lot", "counts", "good"] (spPacked K)) : FnOk P w K mg base (L2.CX P w) 6 f fd ["lot", "counts", "loose"] (spBillOf K C CB CC) := by
  obtain ⟨fC, fdC, GC, gC, kC, bC⟩ := CLC.ex
  obtain ⟨fG, fdG, GG, gG, kG, bG⟩ := CG.ex
  obtain ⟨fB, fdB, GB, gB, kB, bB⟩ := CLB.ex
  obtain ⟨fP, fdP, GP, gP, kP, bP⟩ := CP.ex
  refine F.ok scBO (fun vs H Q E h => ?_) (fun cdv A outer s H vs Q E hr h => ?_)
  · obtain ⟨p, c, lo, as, ll, cs, ls, rfl, _⟩ := h
    rfl
  · obtain ⟨p, c, lo, as, ll, cs, ls, rfl, hL, hC, hcz, hO, hlz, q1, q2, q3, q4⟩ := h
    refine ⟨_, pss_cons (ps_expr (pe_call GC (hr.mono (by decide)) (by rfl) gC kC bC .nil (passes_call (takes_of rfl rfl rfl rfl) (fun _ _ _ _ h => h)) (pa_cons (pv 0) (pa_cons (pv 1) pa_nil))))
      (pss_cons (ps_set (i := 3) scBO.nd rfl (.inl rfl) (pe_call GG (hr.mono (by decide)) (by rfl) gG kG bG .nil (passes_call (takes_of rfl rfl rfl rfl) (fun _ _ _ _ h => h)) (pa_cons (pv 0) pa_nil)))
      (pss_cons (ps_if (pt_cmpR (op_eqD hr.units) (pv 2) (pe_tup pa_nil) (nomark _))
        (pss_one (ps_ret (pe_callTy call_tuple_of (by rfl) B.tuple (by decide +kernel) (pa_cons (pe_lc (own := [("good", 4)]) (g := gName 4) (tt := tYes) rfl scBO.nd (pi_range1 (by rfl) B.range (pa_cons (pv 3) pa_nil))
          (blkOk_by (own := [("good", 4)]) (N := ["lot", "counts", "loose", "goods", "good"]) (sc := defScope sBillOf) (by decide +kernel)) (fun _ _ _ _ _ => pg_name (i := 4) scBO.nd rfl (Or.inl rfl)) (fun _ _ _ _ _ => pts_nil)
          (fun _ _ _ _ _ => pe_call GP (hr.mono (by decide)) (by rfl) gP kP bP .nil pass0 (pa_cons (pv 0) (pa_cons (pv 1) (pa_cons (pv 4) pa_nil))))) pa_nil)))) pss_nil)
      (pss_cons (ps_expr (pe_call GB hr (by rfl) gB kB bB .nil (passes_call (takes_of rfl rfl rfl rfl) (fun _ _ _ _ h => h)) (pa_cons (pv 0) (pa_cons (pv 2) pa_nil))))
      (pss_one (ps_ret (pe_callTy call_tuple_of (by rfl) B.tuple (by decide +kernel) (pa_cons (pe_lc (own := [("good", 4)]) (g := gName 4) (tt := tYes) rfl scBO.nd (pi_range1 (by rfl) B.range (pa_cons (pv 3) pa_nil))
          (blkOk_by (own := [("good", 4)]) (N := ["lot", "counts", "loose", "goods", "good"]) (sc := defScope sBillOf) (by decide +kernel)) (fun _ _ _ _ _ => pg_name (i := 4) scBO.nd rfl (Or.inl rfl)) (fun _ _ _ _ _ => pts_nil)
          (fun _ _ _ _ _ => pe_op op_add (pe_call GP (hr.mono (by decide)) (by rfl) gP kP bP .nil pass0 (pa_cons (pv 0) (pa_cons (pv 1) (pa_cons (pv 4) pa_nil)))) (pe_ix (r := rIxT K) ix_tup (pv 2) (pv 4) (fun _ _ => rfl)))) pa_nil))))))), ?_⟩
    refine ⟨.ref p, rfl, .ref c, rfl, p, c, as, ll, cs, rfl, hL, hC, hcz, q1, q2, fun ef ew H1 s1 => ?_⟩
    have hL1 := hL.same s1
    have hrows := flaw_rows ef
    have hok := flaw_ok ef
    have hcl : cs.length = ll.length := by have := (wrong_ok ew).1; omega
    refine ⟨.ref p, rfl, p, ll, rfl, hL1.1.lot, hL1.2.1, hL1.2.2, fun _ H2 s2 => ?_, fun k hk => by rw [ef] at hk; cases hk⟩
    refine ⟨.ref lo, rfl, Nat.zero_le _, fun t nt => ?_⟩
    have s3 : Same H (upd H2 t (.tup [])) := s1.trans (s2.trans (same_new nt))
    refine ⟨.tuple (ls.map PyData.int), .tuple [], .tup (hO.same s3) (dp_ints ls), .tup (SqT.of upd_same) .nil, shaped_tup ls, by decide, _, rfl, ?_⟩
    rw [eqv_nil]
    -- what is packed, good by good
    have turn : ∀ (ls' : List Int) (D : Addr) (H4 : Hp) (i : Nat), H D = none → i < width ll → Same H H4 → H4 D = some (.lst (((billI ll cs ls').take i).map V.int)) → ∀ (v : Int) (H5 : Hp), Same H4 H5 → v = packI ll cs i + ls'.getD i 0 →
        ∃ acc, H5 D = some (.lst acc) ∧ acc.length < sizeLine ∧ Same H (upd H5 D (.lst (acc ++ [.int v]))) ∧ upd H5 D (.lst (acc ++ [.int v])) D = some (.lst (((billI ll cs ls').take (i + 1)).map V.int)) := by
      intro ls' D H4 i nD hi s4 hD v H5 s5 ev
      refine ⟨_, s5 _ _ hD, ?_, same_late (s4.trans s5) nD, ?_⟩
      · rw [List.length_map]
        exact small1000 (Nat.le_trans (List.length_take_le _ _) (by omega))
      · have e : (billI ll cs ls')[i]? = some v := by
          unfold billI
          rw [List.getElem?_map, List.getElem?_range hi, ev]
          rfl
        rw [upd_same, List.take_add_one, e, List.map_append]
        rfl
    have full : ∀ ls' : List Int, (billI ll cs ls').take ((width ll : Nat) : Int).toNat = billI ll cs ls' := fun ls' => List.take_of_length_le (by
      unfold billI
      rw [List.length_map, List.length_range]
      omega)
    have pkOk : ∀ (H4 : Hp) (i : Nat) (Q' : VK), i < width ll → Same H H4 → (∀ H5, Same H4 H5 → Q' (.int (packI ll cs i)) H5) → spPacked K [.ref p, .ref c, .int (i : Int)] H4 Q' E0 := fun H4 i Q' hi s4 hQ =>
      ⟨p, c, i, as, ll, cs, rfl, hL.1.same s4, hC.same s4, hcl, hL.2.1, fun r hr => ⟨by have := (hrows r hr).1; omega, (hrows r hr).2⟩, hQ⟩
    refine ite2 (fun c1 => ?_) (fun c1 => ?_)
    · have els : ls = [] := of_decide_eq_true c1
      refine ⟨.int (width ll), rfl, width ll, rfl, by omega, by omega, fun D nD => ?_⟩
      have nD0 : H D = none := s3.free nD
      refine lc_range (lo := 0) (n := ((width ll : Nat) : Int).toNat) (fun i H' => Same H H' ∧ H' D = some (.lst (((billI ll cs ls).take i).map V.int))) ⟨s3.trans (same_new nD), upd_same⟩ (fun i H4 hi ⟨s4, hD⟩ => ?_) (fun H4 ⟨s4, hD⟩ => ?_)
      · have ez : (0 : Int) + (i : Nat) = ((i : Nat) : Int) := by omega
        rw [ez]
        refine ⟨rfl, yes (iteT ?_)⟩
        refine ⟨.ref p, rfl, .ref c, rfl, .int (i : Int), rfl, nilA (pkOk H4 i _ (by omega) s4 fun H5 s5 => ?_)⟩
        exact turn ls D H4 i nD0 (by omega) s4 hD _ H5 s5 (by rw [els]; simp)
      · rw [full] at hD
        exact ⟨D, _, rfl, .inl ⟨SqL.of hD, fun z nz => q4 ef ew (.inl els) _ z (s4.trans (same_new nz)) upd_same⟩⟩
    · have nls : ls ≠ [] := fun z => c1 (decide_eq_true z)
      refine ⟨.ref p, rfl, .ref lo, rfl, p, lo, as, ll, ls, rfl, hL.same s3, hO.same s3, hlz, (fun k hk => by rw [ef] at hk; cases hk), fun _ k hk => (q3 ef ew nls k hk).same s3, fun _ ewl H3 s3' => ?_⟩
      have s33 : Same H H3 := s3.trans s3'
      have hll : ls.length = width ll := by have := (wrong_ok ewl).1; omega
      refine ⟨.int (width ll), rfl, width ll, rfl, by omega, by omega, fun D nD => ?_⟩
      have nD0 : H D = none := s33.free nD
      refine lc_range (lo := 0) (n := ((width ll : Nat) : Int).toNat) (fun i H' => Same H H' ∧ H' D = some (.lst (((billI ll cs ls).take i).map V.int))) ⟨s33.trans (same_new nD), upd_same⟩ (fun i H4 hi ⟨s4, hD⟩ => ?_) (fun H4 ⟨s4, hD⟩ => ?_)
      · have ez : (0 : Int) + (i : Nat) = ((i : Nat) : Int) := by omega
        rw [ez]
        refine ⟨rfl, yes (iteT ?_)⟩
        refine ⟨.ref p, rfl, .ref c, rfl, .int (i : Int), rfl, nilA (pkOk H4 i _ (by omega) s4 fun H5 s5 => ?_)⟩
        refine ⟨.ref lo, rfl, .int (i : Int), rfl, lo, _, _, .int (ls.getD i 0), rfl, rfl, hO.same (s4.trans s5), atI_nat (by rw [List.getElem?_map, getD_at (by omega)]; rfl), _, _, rfl, rfl, ?_⟩
        exact turn ls D H4 i nD0 (by omega) s4 hD _ H5 s5 rfl
      · rw [full] at hD
        exact ⟨D, _, rfl, .inl ⟨SqL.of hD, fun z nz => q4 ef ew (.inr ewl) _ z (s4.trans (same_new nz)) upd_same⟩⟩
end
end HL

namespace HL
open PySem PySem.Spec PyProof.Rows L2
open C8 (pss_cut)
theorem scGreat : FnScope ["_law_feed_here", "_law_size"] ["_law_feed_here"] (defScope sGreat) := ⟨rfl, rfl, rfl, by decide +kernel, rfl, by decide +kernel, by decide +kernel⟩
theorem scPlus : FnScope ["_law_one", "_law_other", "_law_at"] ["_law_one", "_law_other"] (defScope sPlus) := ⟨rfl, rfl, rfl, by decide +kernel, rfl, by decide +kernel, by decide +kernel⟩
theorem scGd : FnScope ["_law_mlot", "_law_mcounts", "_law_good_here", "_law_kind"] ["_law_mlot", "_law_mcounts", "_law_good_here"] (defScope sGood) := ⟨rfl, rfl, rfl, by decide +kernel, rfl, by decide +kernel, by decide +kernel⟩
theorem scGs : FnScope ["_law_mlot", "_law_mcounts", "_law_good_here"] ["_law_mlot", "_law_mcounts"] (defScope sGoodsL) := ⟨rfl, rfl, rfl, by decide +kernel, rfl, by decide +kernel, by decide +kernel⟩
theorem scFw : FnScope ["_law_row", "_law_many", "_law_at"] ["_law_row", "_law_many"] (defScope sFlaw) := ⟨rfl, rfl, rfl, by decide +kernel, rfl, by decide +kernel, by decide +kernel⟩
theorem scBe : FnScope ["_law_feed_here", "_law_row", "_law_at", "_law_mway"] ["_law_feed_here", "_law_row"] (defScope sBent) := ⟨rfl, rfl, rfl, by decide +kernel, rfl, by decide +kernel, by decide +kernel⟩
section
variable {P : Program} {w : World} {K : PySem.W.Frag} {mg : Str → Option Value} {base : Heap}
def spGreat : Sp := fun vs H Q _ => ∃ (f c : Addr), vs = [.ref f] ∧ FeedAt c H f ∧ ∀ d H', 0 ≤ d → d < 100000000000000000000000000000 → Kp f H H' → FeedAt c H' f → Q (.int d) H'
theorem ok_great {f : Addr} {fd : FuncData} (F : Fun K "_law_great" "_law_great" sGreat f fd) (CD : Cal P w K mg base CX0 1 "_law_draw" ["_law_feed_here", "_law_many"] spDraw) (CP : Cal P w K mg base CX0 2 "_law_pick" ["_law_feed_here", "_law_row"] spPick) :
    FnOk P w K mg base CX0 3 f fd ["_law_feed_here"] spGreat := by
  obtain ⟨fD, fdD, GD, gD, kD, bD⟩ := CD.ex
  obtain ⟨fP, fdP, GP, gP, kP, bP⟩ := CP.ex
  refine F.ok scGreat (fun vs H Q E h => ?_) (fun cdv A outer s H vs Q E hr h => ?_)
  · obtain ⟨a, c, rfl, _⟩ := h
    rfl
  · obtain ⟨a, c, rfl, Fd, q⟩ := h
    refine ⟨_, pss_cons (ps_set (i := 1) scGreat.nd rfl (.inl rfl) (pe_call GP hr (by rfl) gP kP bP .nil pass0 (pa_cons (pv 0) (pa_cons (pe_lst (pa_cons pe_int (pa_cons pe_int (pa_cons (pe_op op_pow pe_int pe_int) (pa_cons (pe_op op_pow pe_int pe_int) (pa_cons (pe_op op_pow pe_int pe_int) pa_nil)))))) pa_nil))))
      (pss_one (ps_ret (pe_call GD (hr.mono (by decide)) (by rfl) gD kD bD .nil pass0 (pa_cons (pv 0) (pa_cons (pv 1) pa_nil))))), ?_⟩
    refine ⟨.ref a, rfl, 10, 6, rfl, rfl, ⟨by decide, by decide, by decide⟩, 10, 15, rfl, rfl, ⟨by decide, by decide, by decide⟩, 10, 29, rfl, rfl, ⟨by decide, by decide, by decide⟩, (by show 5 ≤ sizeLine; decide), fun l nl => ?_⟩
    refine ⟨a, c, l, _, rfl, upd_same, Fd.ne nl, by decide, by decide, Fd.new nl, fun v H2 hv k2 F2 => ?_⟩
    obtain ⟨z, rfl, z1, z2⟩ : ∃ z : Int, v = .int z ∧ 1 ≤ z ∧ z ≤ 100000000000000000000000000000 := by
      simp only [List.mem_cons, List.mem_nil_iff, or_false] at hv
      rcases hv with h | h | h | h | h <;> exact ⟨_, h, by decide, by decide⟩
    refine ⟨.ref a, rfl, .int z, rfl, a, c, z, rfl, z1, by omega, F2, fun d H3 d0 d1 k3 F3 => q d H3 d0 (by omega) ((Kp.new nl).trans (k2.trans k3)) F3⟩
/-! ### what the law counts by itself -/
def plusI (xs ys : List Int) : List Int := (List.range xs.length).map fun i => xs.getD i 0 + ys.getD i 0
/-- one turn of a comprehension over a range whose list is told by a function -/
theorem turn_fn {H H4 H5 : Hp} {D : Addr} {xs : List Int} {i : Nat} {v : Int} (nD : H D = none) (hx : xs[i]? = some v) (hz : xs.length ≤ 1000) (s4 : Same H H4) (hD : H4 D = some (.lst ((xs.take i).map V.int))) (s5 : Same H4 H5) :
    ∃ acc, H5 D = some (.lst acc) ∧ acc.length < sizeLine ∧ Same H (upd H5 D (.lst (acc ++ [.int v]))) ∧ upd H5 D (.lst (acc ++ [.int v])) D = some (.lst ((xs.take (i + 1)).map V.int)) := by
  refine ⟨_, s5 _ _ hD, ?_, same_late (s4.trans s5) nD, ?_⟩
  · rw [List.length_map]
    exact small1000 (Nat.le_trans (List.length_take_le' _ _) hz)
  · rw [upd_same, List.take_add_one, hx, List.map_append]
    rfl
def spPlus : Sp := fun vs H Q _ => ∃ (a b : Addr) (xs ys : List Int), vs = [.ref a, .ref b] ∧ IntsAt H a xs ∧ IntsAt H b ys ∧ xs.length ≤ ys.length ∧ xs.length ≤ 1000 ∧ ∀ H' p, Same H H' → IntsAt H' p (plusI xs ys) → Q (.ref p) H'
theorem ok_plus {f : Addr} {fd : FuncData} {k : Nat} (F : Fun K "_law_plus" "_law_plus" sPlus f fd) (B : Bl mg) : FnOk P w K mg base CX0 (k + 1) f fd ["_law_one", "_law_other"] spPlus := by
  refine F.ok scPlus (fun vs H Q E h => ?_) (fun cdv A outer s H vs Q E hr h => ?_)
  · obtain ⟨a, b, xs, ys, rfl, _⟩ := h
    rfl
  · obtain ⟨a, b, xs, ys, rfl, ha, hb, hl, hz, q⟩ := h
    refine ⟨_, pss_one (ps_ret (pe_callTy call_tuple_of (by rfl) B.tuple (by decide +kernel) (pa_cons (pe_lc (own := [("_law_at", 2)]) (g := gName 2) (tt := tYes) rfl scPlus.nd (pi_range1 (by rfl) B.range (pa_cons (pe_callB call_len_seq (by rfl) B.len PySem.boot_len (pa_cons (pv 0) pa_nil)) pa_nil))
        (blkOk_by (own := [("_law_at", 2)]) (N := ["_law_one", "_law_other", "_law_at"]) (sc := defScope sPlus) (by decide +kernel)) (fun _ _ _ _ _ => pg_name (i := 2) scPlus.nd rfl (Or.inl rfl)) (fun _ _ _ _ _ => pts_nil)
        (fun _ _ _ _ _ => pe_op op_add (pe_ix (r := rIxT K) ix_tup (pv 0) (pv 2) (fun _ _ => rfl)) (pe_ix (r := rIxT K) ix_tup (pv 1) (pv 2) (fun _ _ => rfl)))) pa_nil))), ?_⟩
    refine ⟨.ref a, rfl, a, _, rfl, .inr (SqT.of ha), _, rfl, by rw [List.length_map]; omega, by rw [List.length_map]; omega, fun D nD => ?_⟩
    refine lc_range (lo := 0) (n := (((xs.map V.int).length : Nat) : Int).toNat) (fun i H' => Same H H' ∧ H' D = some (.lst (((plusI xs ys).take i).map V.int))) ⟨same_new nD, upd_same⟩ (fun i H4 hi ⟨s4, hD⟩ => ?_) (fun H4 ⟨s4, hD⟩ => ?_)
    · rw [List.length_map] at hi
      have ez : (0 : Int) + (i : Nat) = ((i : Nat) : Int) := by omega
      rw [ez]
      refine ⟨rfl, yes (iteT ?_)⟩
      refine ⟨.ref a, rfl, .int (i : Int), rfl, a, _, _, .int (xs.getD i 0), rfl, rfl, SqT.of (s4 _ _ ha), atI_nat (by rw [List.getElem?_map, getD_at (by omega)]; rfl), .ref b, rfl, .int (i : Int), rfl, b, _, _, .int (ys.getD i 0), rfl, rfl, SqT.of (s4 _ _ hb), atI_nat (by rw [List.getElem?_map, getD_at (by omega)]; rfl), _, _, rfl, rfl, ?_⟩
      refine turn_fn (xs := plusI xs ys) nD ?_ ?_ s4 hD (Same.refl _)
      · unfold plusI
        rw [List.getElem?_map, List.getElem?_range (by omega)]
        rfl
      · unfold plusI
        rw [List.length_map, List.length_range]
        exact hz
    · have e : (plusI xs ys).take (((xs.map V.int).length : Nat) : Int).toNat = plusI xs ys := List.take_of_length_le (by
        unfold plusI
        rw [List.length_map, List.length_range, List.length_map]
        omega)
      rw [e] at hD
      exact ⟨D, _, rfl, .inl ⟨SqL.of hD, fun z nz => q _ z (s4.trans (same_new nz)) upd_same⟩⟩
def spGood : Sp := fun vs H Q _ => ∃ (p c : Addr) (g : Nat) (as : List Addr) (ll : List (List Int)) (cs : List Int), vs = [.ref p, .ref c, .int (g : Int)] ∧ RowsAt H p as ll ∧ IntsAt H c cs ∧ cs.length = ll.length ∧ ll.length ≤ 100 ∧
  (∀ r ∈ ll, g < r.length ∧ ∀ n ∈ r, 0 ≤ n ∧ n ≤ 6) ∧ ∀ H', Same H H' → Q (.int (packI ll cs g)) H'
theorem ok_good {f : Addr} {fd : FuncData} {k : Nat} (F : Fun K "_law_good" "_law_good" sGood f fd) (B : Bl mg) : FnOk P w K mg base CX0 (k + 1) f fd ["_law_mlot", "_law_mcounts", "_law_good_here"] spGood := by
  refine F.ok scGd (fun vs H Q E h => ?_) (fun cdv A outer s H vs Q E hr h => ?_)
  · obtain ⟨p, c, g, as, ll, cs, rfl, _⟩ := h
    rfl
  · obtain ⟨p, c, g, as, ll, cs, rfl, hL, hC, hl, hz, hrow, q⟩ := h
    refine ⟨_, pss_one (ps_ret (pe_callB (cr_sum rfl) (by rfl) B.sum (by decide +kernel) (pa_cons (pe_lc (own := [("_law_kind", 3)]) (g := gName 3) (tt := tYes) rfl scGd.nd (pi_range1 (by rfl) B.range (pa_cons (pe_callB call_len_seq (by rfl) B.len PySem.boot_len (pa_cons (pv 0) pa_nil)) pa_nil))
        (blkOk_by (own := [("_law_kind", 3)]) (N := ["_law_mlot", "_law_mcounts", "_law_good_here", "_law_kind"]) (sc := defScope sGood) (by decide +kernel)) (fun _ _ _ _ _ => pg_name (i := 3) scGd.nd rfl (Or.inl rfl)) (fun _ _ _ _ _ => pts_nil)
        (fun _ _ _ _ _ => pe_op op_mul (pe_ix (r := rIxT K) ix_tup (pe_ix (r := rIxT K) ix_tup (pv 0) (pv 3) (fun _ _ => rfl)) (pv 2) (fun _ _ => rfl)) (pe_ix (r := rIxT K) ix_tup (pv 1) (pv 3) (fun _ _ => rfl)))) pa_nil))), ?_⟩
    have hlen := hL.2.len
    refine ⟨.ref p, rfl, p, _, rfl, .inr (SqT.of hL.1), _, rfl, by rw [List.length_map]; omega, by rw [List.length_map]; omega, fun D nD => ?_⟩
    refine lc_range (lo := 0) (n := (((as.map V.ref).length : Nat) : Int).toNat) (fun i H' => Same H H' ∧ H' D = some (.lst ((((cs.zip ll).map (pk1 g)).take i).map V.int))) ⟨same_new nD, upd_same⟩ (fun i H4 hi ⟨s4, hD⟩ => ?_) (fun H4 ⟨s4, hD⟩ => ?_)
    · rw [List.length_map] at hi
      have ez : (0 : Int) + (i : Nat) = ((i : Nat) : Int) := by omega
      rw [ez]
      have hci : cs[i]? = some (cs[i]'(by omega)) := List.getElem?_eq_getElem (by omega)
      have hai : as[i]? = some (as[i]'(by omega)) := List.getElem?_eq_getElem (by omega)
      obtain ⟨r, hr1, hr2⟩ := hL.2.at hai
      have hrr := hrow r (List.mem_of_getElem? hr1)
      refine ⟨rfl, yes (iteT ?_)⟩
      refine ⟨.ref p, rfl, .int (i : Int), rfl, p, _, _, _, rfl, rfl, SqT.of (s4 _ _ hL.1), atI_nat (by rw [List.getElem?_map, hai]; rfl), .int (g : Int), rfl, _, _, _, .int (r.getD g 0), rfl, rfl, SqT.of (s4 _ _ hr2), atI_nat (by rw [List.getElem?_map, getD_at hrr.1]; rfl),
        .ref c, rfl, .int (i : Int), rfl, c, _, _, _, rfl, rfl, SqT.of (s4 _ _ hC), atI_nat (by rw [List.getElem?_map, hci]; rfl), _, _, rfl, rfl, .inl ?_, ?_⟩
      · have hm := hrr.2 (r.getD g 0) (List.mem_of_getElem? (getD_at hrr.1))
        exact ⟨by omega, by omega⟩
      · refine turn_fn (xs := (cs.zip ll).map (pk1 g)) nD ?_ ?_ s4 hD (Same.refl _)
        · rw [List.getElem?_map, zip_at hci hr1]
          show some (cs[i]'(by omega) * r.getD g 0) = _
          rw [Int.mul_comm]
        · rw [List.length_map, List.length_zip]
          omega
    · have e : ((cs.zip ll).map (pk1 g)).take (((as.map V.ref).length : Nat) : Int).toNat = (cs.zip ll).map (pk1 g) := List.take_of_length_le (by
        rw [List.length_map, List.length_zip, List.length_map]
        omega)
      rw [e] at hD
      exact ⟨D, _, rfl, SqL.of hD, q H4 s4⟩
def spGoodsL : Sp := fun vs H Q _ => ∃ (p c : Addr) (as : List Addr) (ll : List (List Int)) (cs : List Int), vs = [.ref p, .ref c] ∧ RowsAt H p as ll ∧ IntsAt H c cs ∧ cs.length = ll.length ∧ ll.length ≤ 100 ∧ 1 ≤ ll.length ∧ width ll ≤ 100 ∧
  (∀ r ∈ ll, r.length = width ll ∧ ∀ n ∈ r, 0 ≤ n ∧ n ≤ 6) ∧ ∀ H' z, Same H H' → IntsAt H' z (billI ll cs []) → Q (.ref z) H'
theorem ok_goodsL {f : Addr} {fd : FuncData} (F : Fun K "_law_goods" "_law_goods" sGoodsL f fd) (B : Bl mg) (CG : Cal P w K mg base CX0 1 "_law_good" ["_law_mlot", "_law_mcounts", "_law_good_here"] spGood) : FnOk P w K mg base CX0 2 f fd ["_law_mlot", "_law_mcounts"] spGoodsL := by
  obtain ⟨fG, fdG, GG, gG, kG, bG⟩ := CG.ex
  refine F.ok scGs (fun vs H Q E h => ?_) (fun cdv A outer s H vs Q E hr h => ?_)
  · obtain ⟨p, c, as, ll, cs, rfl, _⟩ := h
    rfl
  · obtain ⟨p, c, as, ll, cs, rfl, hL, hC, hl, hz, h1, hw, hrow, q⟩ := h
    refine ⟨_, pss_one (ps_ret (pe_callTy call_tuple_of (by rfl) B.tuple (by decide +kernel) (pa_cons (pe_lc (own := [("_law_good_here", 2)]) (g := gName 2) (tt := tYes) rfl scGs.nd (pi_range1 (by rfl) B.range (pa_cons (pe_callB call_len_seq (by rfl) B.len PySem.boot_len (pa_cons (pe_ix ix_tup (pv 0) pe_int (fun _ _ => rfl)) pa_nil)) pa_nil))
        (blkOk_by (own := [("_law_good_here", 2)]) (N := ["_law_mlot", "_law_mcounts", "_law_good_here"]) (sc := defScope sGoodsL) (by decide +kernel)) (fun _ _ _ _ _ => pg_name (i := 2) scGs.nd rfl (Or.inl rfl)) (fun _ _ _ _ _ => pts_nil)
        (fun _ _ _ _ _ => pe_call GG hr (by rfl) gG kG bG .nil pass0 (pa_cons (pv 0) (pa_cons (pv 1) (pa_cons (pv 2) pa_nil))))) pa_nil))), ?_⟩
    obtain ⟨a0, ha0, hh0, hw0⟩ := hL.2.head h1
    have at0 : atI (as.map V.ref) 0 = some (.ref a0) := atI_nat (j := 0) (by rw [List.getElem?_map, ha0]; rfl)
    refine ⟨.ref p, rfl, p, _, 0, .ref a0, rfl, rfl, SqT.of hL.1, at0, a0, _, rfl, .inr (SqT.of hh0), _, rfl, by rw [List.length_map, hw0]; omega, by rw [List.length_map, hw0]; omega, fun D nD => ?_⟩
    have eN : ((((ll.headD []).map V.int).length : Nat) : Int).toNat = width ll := by rw [List.length_map, hw0]; omega
    rw [eN]
    have lb : (billI ll cs []).length = width ll := by unfold billI; rw [List.length_map, List.length_range]
    refine lc_range (lo := 0) (n := width ll) (fun i H' => Same H H' ∧ H' D = some (.lst (((billI ll cs []).take i).map V.int))) ⟨same_new nD, upd_same⟩ (fun i H4 hi ⟨s4, hD⟩ => ?_) (fun H4 ⟨s4, hD⟩ => ?_)
    · have ez : (0 : Int) + (i : Nat) = ((i : Nat) : Int) := by omega
      rw [ez]
      refine ⟨rfl, yes (iteT ?_)⟩
      refine ⟨.ref p, rfl, .ref c, rfl, .int (i : Int), rfl, p, c, i, as, ll, cs, rfl, hL.same s4, hC.same s4, hl, hz, fun r hr => ⟨by have := (hrow r hr).1; omega, (hrow r hr).2⟩, fun H5 s5 => ?_⟩
      refine turn_fn (xs := billI ll cs []) nD ?_ (by omega) s4 hD s5
      unfold billI
      rw [List.getElem?_map, List.getElem?_range hi]
      simp
    · rw [List.take_of_length_le (by omega)] at hD
      exact ⟨D, _, rfl, .inl ⟨SqL.of hD, fun z nz => q _ z (s4.trans (same_new nz)) upd_same⟩⟩
/-! ### where the law finds a row wrong -/
theorem chainP {L : Int} {H : Hp} {σ : L2.St} {Q : Bool → Hp → Prop} (h : Q (inB L) H) :
    if decide (0 ≤ L) = true then tOp (rI CPow fun i j => V.int (i ^ j.toNat)) (tC (.int 10)) (tC (.int 30)) σ H (fun v H4 => rI0 (fun i j => V.bl (decide (i < j))) (.int L) v H4 (fun x H' => ∃ k, x = .bl k ∧ Q k H')) else ∃ k, V.bl false = V.bl k ∧ Q k H := by
  by_cases c : 0 ≤ L
  · rw [if_pos (decide_eq_true c)]
    refine ⟨10, 30, rfl, rfl, ⟨by decide, by decide, by decide⟩, L, _, rfl, rfl, _, rfl, ?_⟩
    have e : decide (L < 10 ^ (30 : Int).toNat) = inB L := by
      unfold inB
      rw [show (10 : Int) ^ (30 : Int).toNat = G30 by decide]
      simp [c]
    rw [e]
    exact h
  · rw [if_neg (fun z => c (of_decide_eq_true z))]
    refine ⟨false, rfl, ?_⟩
    have e : false = inB L := by
      unfold inB
      simp [c]
    rw [e]
    exact h
def spFw (K : PySem.W.Frag) : Sp := fun vs H Q _ => ∃ (a : Addr) (m : Int) (row : List Int), vs = [.ref a, .int m] ∧ IntsAt H a row ∧ row.length ≤ 1000 ∧ Q (wrongV m row) H
theorem ok_fw {f : Addr} {fd : FuncData} {k : Nat} (F : Fun K "_law_flaw" "_law_flaw" sFlaw f fd) (B : Bl mg) : FnOk P w K mg base CX0 (k + 1) f fd ["_law_row", "_law_many"] (spFw K) := by
  refine F.ok scFw (fun vs H Q E h => ?_) (fun cdv A outer s H vs Q E hr h => ?_)
  · obtain ⟨a, m, row, rfl, _⟩ := h
    rfl
  · obtain ⟨a, m, row, rfl, ha, hz, q⟩ := h
    refine ⟨_, pss_cons (ps_if (pt_cmpR op_ne (pe_callB call_len_seq (by rfl) B.len PySem.boot_len (pa_cons (pv 0) pa_nil)) (pv 1) (nomark _)) (pss_one (ps_ret (pe_un un_neg pe_int))) pss_nil)
      (pss_cons (ps_for PassesOwn.never rfl (pi_range1 (by rfl) B.range (pa_cons (pv 1) pa_nil)) (pg_name (i := 2) scFw.nd rfl (.inl rfl))
        (pss_one (ps_if (pt_not (pt_chain op_le op_lt pe_int (pe_ix ix_tup (pv 0) (pv 2) (fun _ _ => rfl)) (pe_op op_pow pe_int pe_int))) (pss_one (ps_ret (pv 2))) pss_nil)))
      (pss_one (ps_ret pe_non))), ?_⟩
    refine ⟨.ref a, rfl, a, _, rfl, .inr (SqT.of ha), .int m, rfl, rfl, _, rfl, ?_⟩
    rw [List.length_map]
    refine ite2 (fun c1 => ?_) (fun c1 => ?_)
    · have hl : ¬ (row.length : Int) = m := fun z => by rw [z, decide_eq_true rfl] at c1; cases c1
      unfold wrongV at q
      rw [wrong_len hl] at q
      exact ⟨1, rfl, q⟩
    · have hl : (row.length : Int) = m := by
        by_cases z : (row.length : Int) = m
        · exact z
        · refine absurd ?_ c1
          rw [decide_eq_false (fun y => z (V.int.inj y))]
          rfl
      refine ⟨.int m, rfl, m, rfl, by omega, by omega, ?_⟩
      refine for_range (lo := 0) (n := m.toNat) (fun i σ H' => H' = H ∧ (∃ y2, σ = [some (.ref a), some (.int m), y2]) ∧ ∀ (j : Nat) (z : Int), j < i → row[j]? = some z → inB z = true)
        ⟨rfl, ⟨none, rfl⟩, fun j r' hj => absurd hj (Nat.not_lt_zero j)⟩ (fun i σ H' hi ⟨eH, ⟨y2, eσ⟩, ih⟩ => ?_) (fun σ H' ⟨eH, ⟨y2, eσ⟩, ih⟩ => ?_)
      · subst eH eσ
        have ez : (0 : Int) + (i : Nat) = ((i : Nat) : Int) := by omega
        rw [ez]
        have hri : row[i]? = some (row[i]'(by omega)) := List.getElem?_eq_getElem (by omega)
        refine ⟨.ref a, rfl, .int (i : Int), rfl, a, _, _, _, rfl, rfl, SqT.of ha, atI_nat (by rw [List.getElem?_map, hri]; rfl), 0, _, rfl, rfl, _, rfl, chainP ?_⟩
        refine ite2 (fun d1 => ?_) (fun d1 => ?_)
        · have hb : inB (row[i]'(by omega)) = false := by
            cases e : inB (row[i]'(by omega)) with
            | false => rfl
            | true => rw [e] at d1; cases d1
          unfold wrongV at q
          rw [wrong_at hl hri hb ih] at q
          exact ⟨_, rfl, q⟩
        · refine ⟨rfl, ⟨_, rfl⟩, fun j z hj hjr => ?_⟩
          by_cases hji : j < i
          · exact ih j z hji hjr
          · have e : j = i := by omega
            subst e
            rw [hri] at hjr
            cases hjr
            cases e : inB (row[j]'(by omega)) with
            | true => rfl
            | false => rw [e] at d1; exact absurd rfl d1
      · subst eH
        unfold wrongV at q
        rw [wrong_none hl (fun j z hj => ih j z (by omega))] at q
        exact q
theorem sz1 (v : V) : [v].length ≤ sizeLine := by
  show 1 ≤ sizeLine
  decide
theorem slN {σ : L2.St} {H : Hp} {Q : Option Int → Hp → Prop} (h : Q none H) : tNoPart σ H Q := h
/-! ### a row bent -/
def spBe : Sp := fun vs H Q _ => ∃ (f c a : Addr) (row : List Int), vs = [.ref f, .ref a] ∧ FeedAt c H f ∧ IntsAt H a row ∧ 1 ≤ row.length ∧ row.length ≤ 40 ∧ ∀ H' p row', Kp f H H' → FeedAt c H' f → IntsAt H' p row' → row'.length ≤ 100 → Q (.ref p) H'
theorem ok_be {f : Addr} {fd : FuncData} (F : Fun K "_law_bent" "_law_bent" sBent f fd) (B : Bl mg) (CD : Cal P w K mg base CX0 1 "_law_draw" ["_law_feed_here", "_law_many"] spDraw) (CP : Cal P w K mg base CX0 2 "_law_pick" ["_law_feed_here", "_law_row"] spPick) :
    FnOk P w K mg base CX0 3 f fd ["_law_feed_here", "_law_row"] spBe := by
  obtain ⟨fD, fdD, GD, gD, kD, bD⟩ := CD.ex
  obtain ⟨fP, fdP, GP, gP, kP, bP⟩ := CP.ex
  refine F.ok scBe (fun vs H Q E h => ?_) (fun cdv A outer s H vs Q E hr h => ?_)
  · obtain ⟨fe, c, a, row, rfl, _⟩ := h
    rfl
  · obtain ⟨fe, c, a, row, rfl, Fd, ha, l1, l2, q⟩ := h
    have hr1 : Room 1 _ := hr.mono (by decide)
    refine ⟨_, pss_cons (ps_set (i := 2) scBe.nd rfl (.inl rfl) (pe_call GD hr1 (by rfl) gD kD bD .nil pass0 (pa_cons (pv 0) (pa_cons (pe_callB call_len_seq (by rfl) B.len PySem.boot_len (pa_cons (pv 1) pa_nil)) pa_nil))))
      (pss_cons (ps_set (i := 3) scBe.nd rfl (.inl rfl) (pe_call GD hr1 (by rfl) gD kD bD .nil pass0 (pa_cons (pv 0) (pa_cons pe_int pa_nil))))
      (pss_cons (ps_if (pt_cmpR op_eq (pv 3) pe_int (nomark _)) (pss_one (ps_ret (pe_op op_catA (pe_slice sl_tupA (pv 1) po_none (po_some (pv 2))) (pe_slice sl_tupA (pv 1) (po_some (pe_op op_add (pv 2) pe_int)) po_none)))) pss_nil)
      (pss_cons (ps_if (pt_cmpR op_eq (pv 3) pe_int (nomark _)) (pss_one (ps_ret (pe_op op_catA (pv 1) (pe_tup (pa_cons pe_int pa_nil))))) pss_nil)
      (pss_cons (ps_if (pt_cmpR op_eq (pv 3) pe_int (nomark _)) (pss_one (ps_ret (pe_op op_catA (pe_op op_catA (pe_slice sl_tupA (pv 1) po_none (po_some (pv 2)))
          (pe_tup (pa_cons (pe_call GP hr (by rfl) gP kP bP .nil pass0 (pa_cons (pv 0) (pa_cons (pe_lst (pa_cons (pe_un un_neg pe_int) (pa_cons (pe_op op_pow pe_int pe_int) (pa_cons (pe_op op_sub (pe_op op_pow pe_int pe_int) pe_int) (pa_cons (pe_un un_neg (pe_op op_pow pe_int pe_int)) pa_nil))))) pa_nil))) pa_nil)))
          (pe_slice sl_tupA (pv 1) (po_some (pe_op op_add (pv 2) pe_int)) po_none)))) pss_nil)
      (pss_one (ps_ret (pv 1))))))), ?_⟩
    refine ⟨.ref fe, rfl, .ref a, rfl, a, _, rfl, .inr (SqT.of ha), fe, c, _, rfl, by rw [List.length_map]; omega, by rw [List.length_map]; omega, Fd, fun at_ H1 a0 a1 k1 F1 => ?_⟩
    have ha1 := ha.kp Fd k1
    refine ⟨.ref fe, rfl, fe, c, 7, rfl, by decide, by decide, F1, fun way H2 _ _ k2 F2 => ?_⟩
    have ha2 := ha1.kp F1 k2
    have kp2 := k1.trans k2
    refine ⟨.int way, rfl, rfl, _, rfl, ite2 (fun _ => ?_) (fun _ => ?_)⟩
    · refine ⟨.ref a, rfl, .int at_, rfl, at_, rfl, slice_ints ha2 fun p1 H3 n1 m1 s3 hp1 => ?_⟩
      refine ⟨.ref a, rfl, .int at_, rfl, at_, 1, rfl, rfl, at_ + 1, rfl, slN (slice_ints (ha2.same s3) fun p2 H4 n2 m2 s4 hp2 => ?_)⟩
      have b1 := len_cut row n1 m1
      have b2 := len_cut row n2 m2
      refine cat_ints (hp1.same s4) hp2 (by omega) fun z H5 s5 hz => q H5 z _ (kp2.trans (Same.kp (s3.trans (s4.trans s5)))) (F2.same (s3.trans (s4.trans s5))) hz ?_
      rw [List.length_append]
      omega
    refine ⟨.int way, rfl, rfl, _, rfl, ite2 (fun _ => ?_) (fun _ => ?_)⟩
    · refine ⟨.ref a, rfl, sz1 _, fun t nt => ?_⟩
      refine cat_ints (ha2.same (same_new nt)) (show IntsAt _ t [3] from upd_same) (by rw [List.length_singleton]; omega) fun z H5 s5 hz => q H5 z _ (kp2.trans ((Kp.new nt).trans (Same.kp s5))) ((F2.new nt).same s5) hz ?_
      rw [List.length_append, List.length_singleton]
      omega
    refine ⟨.int way, rfl, rfl, _, rfl, ite2 (fun _ => ?_) (fun _ => ?_)⟩
    · refine ⟨.ref a, rfl, .int at_, rfl, at_, rfl, slice_ints ha2 fun p1 H3 n1 m1 s3 hp1 => ?_⟩
      refine ⟨.ref fe, rfl, 1, rfl, 10, 30, rfl, rfl, ⟨by decide, by decide, by decide⟩, 10, 30, rfl, rfl, ⟨by decide, by decide, by decide⟩, _, 1, rfl, rfl, 10, 31, rfl, rfl, ⟨by decide, by decide, by decide⟩, _, rfl, (by show 4 ≤ sizeLine; decide), fun l nl => ?_⟩
      have F3 := F2.same s3
      refine ⟨fe, c, l, _, rfl, upd_same, F3.ne nl, by decide, by decide, F3.new nl, fun v H4 hv k4 F4 => ?_⟩
      obtain ⟨od, rfl⟩ : ∃ od : Int, v = .int od := by
        simp only [List.mem_cons, List.mem_nil_iff, or_false] at hv
        rcases hv with h | h | h | h <;> exact ⟨_, h⟩
      have kl := (Kp.new (f := fe) (o := .lst [.int (-1), .int (10 ^ (30 : Int).toNat), .int (10 ^ (30 : Int).toNat - 1), .int (-10 ^ (31 : Int).toNat)]) nl)
      have hp4 := (hp1.same (same_new nl)).kp (F3.new nl) k4
      have ha4 := ((ha2.same s3).same (same_new nl)).kp (F3.new nl) k4
      have kp4 : Kp fe H H4 := kp2.trans ((Same.kp s3).trans ((Kp.new nl).trans k4))
      refine ⟨sz1 _, fun t nt => ?_⟩
      have b1 := len_cut row n1 m1
      refine cat_ints (hp4.same (same_new nt)) (show IntsAt _ t [od] from upd_same) (by rw [List.length_singleton]; omega) fun z1 H5 s5 hz1 => ?_
      refine ⟨.ref a, rfl, .int at_, rfl, at_, 1, rfl, rfl, at_ + 1, rfl, slN (slice_ints ((ha4.same (same_new nt)).same s5) fun p2 H6 n2 m2 s6 hp2 => ?_)⟩
      have b2 := len_cut row n2 m2
      refine cat_ints (hz1.same s6) hp2 (by rw [List.length_append, List.length_singleton]; omega) fun z H7 s7 hz => q H7 z _ (kp4.trans ((Kp.new nt).trans (Same.kp (s5.trans (s6.trans s7))))) ((F4.new nt).same (s5.trans (s6.trans s7))) hz ?_
      rw [List.length_append, List.length_append, List.length_singleton]
      omega
    exact ⟨.ref a, rfl, q H2 a row kp2 F2 ha2 (by omega)⟩
end
end HL

namespace HL
open PySem PySem.Spec PyProof.Rows L2
open C8 (pss_cut)
open LamX (GivesTo CodeO Tabs TabS TabB ExtN tLam pe_lamcall LamS lamS_by lamCx lamEnv codeO_ne)
theorem scTold : FnScope ["_law_ask", "_law_found", "e"] ["_law_ask"] (defScope sTold) := ⟨rfl, rfl, rfl, by decide +kernel, rfl, by decide +kernel, by decide +kernel⟩
/-- the slots of a def are as many as its names -/
theorem takes_len {X : Cx} {W : WX} (tk : Takes X W) : Takes X (fun cls d σ H => σ.length = X.N.length → W cls d σ H) := fun u s' ⟨a, B, sI, pins, σ, H, cls, d, e, I, nb, up, sky, na, os, ag, w⟩ =>
  tk u s' ⟨a, B, sI, pins, σ, H, cls, d, e, I, nb, up, sky, na, os, ag, w I.len⟩
/-- how an ask can end -/
inductive Wd where
  | no | bi | co | lo
def Wd.s : Wd → Str
  | .no => "none"
  | .bi => "bill"
  | .co => "counts"
  | .lo => "lot"
abbrev pairV (q : Wd × V) : List V := [.str q.1.s, q.2]
def Catch3 (C CB CC : Addr) (Q : VK) : XK := fun cls d H' => ∃ (dd : Addr) (v : V) (wd : Wd), d = some dd ∧
  ((cls = .ref CB ∧ H' dd = some (.xd (exF "good" "bad bill" v)) ∧ wd = .bi) ∨ (cls = .ref CC ∧ H' dd = some (.xd (exF "kind" "bad counts" v)) ∧ wd = .co) ∨ (cls = .ref C ∧ H' dd = some (.xd (exF "kind" "bad lot" v)) ∧ wd = .lo)) ∧
  ∀ t, H' t = none → Q (.ref t) (upd H' t (.tup (pairV (wd, v))))
def TT3 (C CB CC : Addr) : (XK → Hp → VK → Prop) → Hp → VK → Prop := fun tl H Q => ∀ t0, H t0 = none → tl (Catch3 C CB CC Q) (upd H t0 (.tup (pairV (.no, .non)))) (fun _ H' => Q (.ref t0) H')
/-- what is known of the three classes -/
structure Cls3 (K : PySem.W.Frag) (mg : Str → Option Value) (C CB CC : Addr) : Prop where
  gC : mg "BadLot" = some (.ref C)
  gB : mg "BadBill" = some (.ref CB)
  gCC : mg "BadCounts" = some (.ref CC)
  xC : XfC K C
  xB : XfC K CB
  xCC : XfC K CC
  nC : PySem.W.findIn K (.ref C) "kind" = some none
  nB : PySem.W.findIn K (.ref CB) "good" = some none
  nCC : PySem.W.findIn K (.ref CC) "kind" = some none
  bb : PySem.W.exmOne K (.ref CB) (.ref CB) = some true
  cb : PySem.W.exmOne K (.ref CC) (.ref CB) = some false
  cc : PySem.W.exmOne K (.ref CC) (.ref CC) = some true
  lb : PySem.W.exmOne K (.ref C) (.ref CB) = some false
  lc : PySem.W.exmOne K (.ref C) (.ref CC) = some false
  ll : PySem.W.exmOne K (.ref C) (.ref C) = some true
theorem told_gives {X : Cx} {q : Str} {g C CB CC : Addr} {cdg : Value} (T : Cls3 X.K X.mg C CB CC) : GivesTo X ["_law_ask", "_law_found", "e"] "_law_told" (defScope sTold) g cdg (defBody sTold) "_law_ask" q (TT3 C CB CC) := by
  intro f c' s H Q tl act hc h
  refine ⟨_, pss_cons (ps_set (i := 1) scTold.nd rfl (.inl rfl) (pe_tup (pa_cons pe_str (pa_cons pe_non pa_nil)))) (pss_cons (ps_try_manyA (i := 2) (n := "e")
      (tb := fun W D σ H => ∃ Ech : XK, (∀ cls d σ' H', Ech cls d H' → σ'.length = 3 → W cls d σ' H') ∧ σ[0]? = some (some (.ref f)) ∧ H c' = some (CodeO c' q) ∧ tl Ech H (fun _ H' => D.nx σ H')) (Wout := fun _ _ _ _ => False)
      (l := [(.ref CB, fun a cls d => tAsg (tTup (tCons (tC (.str "bill")) (tCons (tXf a cls d CB "good" (tVar 2)) tNil))) (gName 1)), (.ref CC, fun a cls d => tAsg (tTup (tCons (tC (.str "counts")) (tCons (tXf a cls d CC "kind" (tVar 2)) tNil))) (gName 1)), (.ref C, fun a cls d => tAsg (tTup (tCons (tC (.str "lot")) (tCons (tXf a cls d C "kind" (tVar 2)) tNil))) (gName 1))])
      rfl rfl scTold.nd rfl rfl L2.takes0 (fun W pn xe tk _ => ⟨fun pins s' σ H' D I h' => ?_⟩)
      (.cons ⟨rfl, by decide, .inl T.gB⟩ (fun a oe cls d pn hz hf => pss_one (ps_set (i := 1) scTold.nd rfl (.inl rfl) (pe_tup (pa_cons pe_str (pa_cons (pe_xf T.xB T.nB hz hf (pv 2)) pa_nil)))))
      (.cons ⟨rfl, by decide, .inl T.gCC⟩ (fun a oe cls d pn hz hf => pss_one (ps_set (i := 1) scTold.nd rfl (.inl rfl) (pe_tup (pa_cons pe_str (pa_cons (pe_xf T.xCC T.nCC hz hf (pv 2)) pa_nil)))))
      (.cons ⟨rfl, by decide, .inl T.gC⟩ (fun a oe cls d pn hz hf => pss_one (ps_set (i := 1) scTold.nd rfl (.inl rfl) (pe_tup (pa_cons pe_str (pa_cons (pe_xf T.xC T.nC hz hf (pv 2)) pa_nil))))) .nil))))
    (pss_one (ps_ret (pv 1)))), ?_⟩
  · obtain ⟨Ech, hW, h1, h2, h3⟩ := h'
    exact (pss_one (ps_expr (act _ pn xe Ech _ _ (takes_len tk) hW))).run pins s' σ H' D I ⟨h1, h2, h3⟩
  · refine ⟨(by show 2 ≤ sizeLine; decide), fun t0 nt0 => ?_⟩
    refine ⟨Catch3 C CB CC Q, fun cls d σ' H' hE hl => ?_, rfl, ?_, ?_⟩
    · obtain ⟨dd, v, wd, rfl, hcase, hQ⟩ := hE
      obtain ⟨x0, x1, x2, rfl⟩ : ∃ x0 x1 x2, σ' = [x0, x1, x2] := by
        match σ', hl with
        | [x0, x1, x2], _ => exact ⟨x0, x1, x2, rfl⟩
      rcases hcase with ⟨rfl, hd, rfl⟩ | ⟨rfl, hd, rfl⟩ | ⟨rfl, hd, rfl⟩
      · refine ⟨true, T.bb, fun _ a na => ?_, fun z => Bool.noConfusion z⟩
        exact ⟨.ref a, rfl, rfl, rfl, dd, _, v, rfl, hd, rfl, (by show 2 ≤ sizeLine; decide), fun t nt => ⟨.ref t, rfl, hQ t nt⟩⟩
      · refine ⟨false, T.cb, fun z => Bool.noConfusion z, fun _ => ⟨true, T.cc, fun _ a na => ?_, fun z => Bool.noConfusion z⟩⟩
        exact ⟨.ref a, rfl, rfl, rfl, dd, _, v, rfl, hd, rfl, (by show 2 ≤ sizeLine; decide), fun t nt => ⟨.ref t, rfl, hQ t nt⟩⟩
      · refine ⟨false, T.lb, fun z => Bool.noConfusion z, fun _ => ⟨false, T.lc, fun z => Bool.noConfusion z, fun _ => ⟨true, T.ll, fun _ a na => ?_, fun z => Bool.noConfusion z⟩⟩⟩
        exact ⟨.ref a, rfl, rfl, rfl, dd, _, v, rfl, hd, rfl, (by show 2 ≤ sizeLine; decide), fun t nt => ⟨.ref t, rfl, hQ t nt⟩⟩
    · rw [upd_ne (ne_of_none hc nt0)]
      exact hc
    · have e2 : (fun (_ : V) (H' : Hp) => ∃ v, ([some (.ref f), some (.ref t0), none] : L2.St)[1]? = some (some v) ∧ Q v H') = (fun (_ : V) (H' : Hp) => Q (.ref t0) H') := by
        funext _ H'
        refine propext ⟨fun ⟨v, ev, hv⟩ => ?_, fun hv => ⟨_, rfl, hv⟩⟩
        cases Option.some.inj (Option.some.inj ev)
        exact hv
      have h' : tl (Catch3 C CB CC Q) (upd H t0 (.tup (pairV (.no, .non)))) (fun _ H' => ∃ v, ([some (.ref f), some (.ref t0), none] : L2.St)[1]? = some (some v) ∧ Q v H') := by
        rw [e2]
        exact h t0 nt0
      exact h'
/-! ### an ask told -/
def OutP (C CB CC : Addr) (q : Wd × V) (H : Hp) (Qn : VK) (E : XK) : Prop := match q.1 with
  | .no => ∀ x H', Same H H' → Qn x H'
  | .bi => Refd CB "good" "bad bill" q.2 H E
  | .co => Refd CC "kind" "bad counts" q.2 H E
  | .lo => Refd C "kind" "bad lot" q.2 H E
theorem told_ask {T : List (Addr × Str)} {C CB CC : Addr} {body : XK → TE} {σ : L2.St} {H : Hp} {Q : VK} (o : Wd × V) (ho : o.1 = .no → o.2 = .non) (hT : Tabs T H)
    (hask : ∀ H5 H6 Qn E, ExtN H H5 → Same H5 H6 → OutP C CB CC o H6 Qn E → body E σ H6 Qn) (q : ∀ H5 H' t, ExtN H H5 → Tabs T H5 → Same H5 H' → H' t = some (.tup (pairV o)) → Q (.ref t) H') : tLam T (TT3 C CB CC) body σ H Q := by
  refine ⟨hT, fun H5 e5 T5 t0 nt0 => hask H5 _ _ _ e5 (same_new nt0) ?_⟩
  obtain ⟨wd, v⟩ := o
  cases wd with
  | no =>
    intro x H' s
    refine q H5 H' t0 e5 T5 ((same_new nt0).trans s) ?_
    have ev : v = .non := ho rfl
    rw [ev]
    exact s _ _ upd_same
  | bi => exact fun H' d s nd hd => ⟨d, v, .bi, rfl, .inl ⟨rfl, hd, rfl⟩, fun t nt => q H5 _ t e5 T5 ((same_new nt0).trans (s.trans (same_new nt))) upd_same⟩
  | co => exact fun H' d s nd hd => ⟨d, v, .co, rfl, .inr (.inl ⟨rfl, hd, rfl⟩), fun t nt => q H5 _ t e5 T5 ((same_new nt0).trans (s.trans (same_new nt))) upd_same⟩
  | lo => exact fun H' d s nd hd => ⟨d, v, .lo, rfl, .inr (.inr ⟨rfl, hd, rfl⟩), fun t nt => q H5 _ t e5 T5 ((same_new nt0).trans (s.trans (same_new nt))) upd_same⟩
/-- what look_bill and bill_of come to -/
def outW (w : Wd) : Option Int → Wd × V
  | none => (.no, .non)
  | some k => (w, .int k)
def outBill (ll : List (List Int)) (row : List Int) : Wd × V := match flaw ll with
  | some k => (.lo, .int k)
  | none => outW .bi (wrong (width ll) row)
def looseW (ll : List (List Int)) (ls : List Int) : Option Int := if ls = [] then none else wrong (width ll) ls
def outOf (ll : List (List Int)) (cs ls : List Int) : Wd × V := match flaw ll with
  | some k => (.lo, .int k)
  | none => match wrong ll.length cs with
    | some k => (.co, .int k)
    | none => outW .bi (looseW ll ls)
theorem outW_no {w : Wd} {x : Option Int} (hw : w ≠ .no) (h : (outW w x).1 = .no) : (outW w x).2 = .non := by
  cases x with
  | none => rfl
  | some k => exact absurd h hw
theorem outBill_no {ll : List (List Int)} {row : List Int} (h : (outBill ll row).1 = .no) : (outBill ll row).2 = .non := by
  unfold outBill at h ⊢
  cases e : flaw ll with
  | some k => rw [e] at h; cases h
  | none => rw [e] at h; exact outW_no (fun z => by cases z) h
theorem outOf_no {ll : List (List Int)} {cs ls : List Int} (h : (outOf ll cs ls).1 = .no) : (outOf ll cs ls).2 = .non := by
  unfold outOf at h ⊢
  cases e : flaw ll with
  | some k => rw [e] at h; cases h
  | none =>
    rw [e] at h
    cases e2 : wrong ll.length cs with
    | some k => simp only [e2] at h; cases h
    | none => simp only [e2] at h ⊢; exact outW_no (fun z => by cases z) h
section
variable {K : PySem.W.Frag} {C CB CC : Addr} {H : Hp} {Qn : VK} {E : XK} {p b c lo : Addr} {as : List Addr} {ll : List (List Int)} {row cs ls : List Int}
theorem lookBill_out (hL : LotB H p as ll) (hB : IT K H b row) (hz : row.length ≤ 100) (h : OutP C CB CC (outBill ll row) H Qn E) : spLookBill K C CB [.ref p, .ref b] H Qn E := by
  refine ⟨p, b, as, ll, row, rfl, hL, hB, hz, fun k hk => ?_, fun hf k hk => ?_, fun hf hk H' s => ?_⟩
  · unfold outBill at h
    rw [hk] at h
    exact h
  · unfold outBill at h
    rw [hf, hk] at h
    exact h
  · unfold outBill at h
    rw [hf, hk] at h
    exact h .non H' s
theorem billOf_out (hL : LotB H p as ll) (hC : IT K H c cs) (hcz : cs.length ≤ 100) (hO : IT K H lo ls) (hlz : ls.length ≤ 100) (h : OutP C CB CC (outOf ll cs ls) H Qn E) : spBillOf K C CB CC [.ref p, .ref c, .ref lo] H Qn E := by
  refine ⟨p, c, lo, as, ll, cs, ls, rfl, hL, hC, hcz, hO, hlz, fun k hk => ?_, fun hf k hk => ?_, fun hf hk hn k hw => ?_, fun hf hk hn H' z s _ => ?_⟩
  · unfold outOf at h
    rw [hk] at h
    exact h
  · unfold outOf at h
    rw [hf] at h
    simp only [hk] at h
    exact h
  · unfold outOf at h
    rw [hf] at h
    simp only [hk] at h
    unfold looseW at h
    rw [if_neg hn, hw] at h
    exact h
  · unfold outOf at h
    rw [hf] at h
    simp only [hk] at h
    have e : looseW ll ls = none := by
      unfold looseW
      rcases hn with hn | hn
      · rw [if_pos hn]
      · split
        · rfl
        · exact hn
    rw [e] at h
    exact h (.ref z) H' s
end
end HL

namespace HL
open PySem PySem.Spec PyProof.Rows L2
open C8 (pss_cut)
open LamX (GivesTo CodeO Tabs TabS TabB ExtN tLam pe_lamcall LamS lamS_by lamCx lamEnv codeO_ne)
/-- f(k = v, ..) -/
theorem pe_kw0 {X : Cx} {CX : CXT} {k : Nat} {f : Addr} {fd : FuncData} {ps ks : List Str} {sp : Sp} {E : XK} {x : Str} {p pos : Pos} {kws : List Keyword} {tk : TA} {g : List Value → List Value → List Value} {gV : List V → List V → List V}
    (F : FnOk X.prog X.w X.K X.mg X.base CX k f fd ps sp) (hr : Room k X.A) (hg : Gl X x) (hm : X.mg x = some (.ref f)) (hk : PySem.W.keepIn X.K (.ref f) = true) (hb : KBn X.K fd ps 0 ks g gV) (hx : Passes CX X E) (hkw : PK X kws tk)
    (hall : (backToKw pos (keywordEach kws X.env)).all (·.1.isSome) = true := by rfl)
    (hks : (backToKw pos (keywordEach kws X.env)).filterMap (·.1) = ks := by rfl) (hdb : (x == ("__debug__" : Str)) = false := by decide)
    (hpl : ((backTo pos (starEach [] X.env)).any (·.1) || (backToKw pos (keywordEach kws X.env)).any (·.1.isNone)) = false := by rfl) : PE X (.Call (.Name x p) [] kws pos) (tCallN 0 ks.length sp gV E tNil tk) := by
  refine ⟨fun pins s σ H Q I h => wpAny_Call_Name_kw (ld_glob I hg hm ?_ hdb)⟩
  refine PySem.W.callWith_KW0 (h₀ := X.base) I.ok.mod.kin hk hall (thn (hkw.run pos pins s σ H _ I h) fun ws s2 ⟨zs, H2, I2, rz, l1, l2, q2⟩ => ⟨I2.kIn, ?_⟩) hpl
  rw [hks]
  exact run_fnN (us := []) (vs := []) F hr hb hx I2 .nil rz rfl l2 q2
/-! ### what stays when tables grow -/
theorem FeedAt.ext {c : Addr} {H H' : Hp} {f : Addr} (F : FeedAt c H f) (e : ExtN H H') : FeedAt c H' f := by
  obtain ⟨ns, i, b, m, n, h1, h2, h3⟩ := F
  exact ⟨ns, i, b, m, n, e _ _ h1 (fun ps z => by cases z), e _ _ h2 (fun ps z => by cases z), h3⟩
theorem RowsAt.ext {H H' : Hp} {p : Addr} {as : List Addr} {ll : List (List Int)} (h : RowsAt H p as ll) (e : ExtN H H') : RowsAt H' p as ll :=
  ⟨e _ _ h.1 (fun ps z => by cases z), h.2.mono fun a xs q => e _ _ q (fun ps z => by cases z)⟩
theorem IntsAt.ext {H H' : Hp} {p : Addr} {ns : List Int} (h : IntsAt H p ns) (e : ExtN H H') : IntsAt H' p ns := e _ _ h (fun ps z => by cases z)
theorem tabs_kp {T : List (Addr × Str)} {H H' : Hp} {f c : Addr} (t : Tabs T H) (F : FeedAt c H f) (k : Kp f H H') : Tabs T H' := fun p hp => by
  obtain ⟨ps, h1, h2, h3⟩ := t p hp
  obtain ⟨ns, i, b, m, n, g1, _⟩ := F
  refine ⟨ps, k _ _ (ne_of h1 g1 (fun z => by cases z)) h1, h2, fun pos cv hc => ?_⟩
  obtain ⟨c0, e1, e2⟩ := h3 pos cv hc
  refine ⟨c0, e1, k _ _ (ne_of e2 g1 (fun z => ?_)) e2⟩
  unfold CodeO at z
  cases z
theorem tabs_list {T : List (Addr × Str)} {H : Hp} {l : Addr} {xs ys : List V} (t : Tabs T H) (h : H l = some (.lst xs)) : Tabs T (upd H l (.lst ys)) := fun p hp => by
  obtain ⟨ps, h1, h2, h3⟩ := t p hp
  refine ⟨ps, by rw [upd_ne (ne_of h1 h (fun z => by cases z))]; exact h1, h2, fun pos cv hc => ?_⟩
  obtain ⟨c0, e1, e2⟩ := h3 pos cv hc
  refine ⟨c0, e1, ?_⟩
  rw [upd_ne (ne_of e2 h (fun z => ?_))]
  · exact e2
  · unfold CodeO at z
    cases z
abbrev NL : List Str := ["_law_script", "_law_feed_here", "_law_turn", "_law_flaw_here", "_law_due", "_law_flaws", "_law_more", "_law_want", "_law_at", "_law_asked", "_law_bad", "_law_bill", "_law_mcounts", "_law_mloose", "_law_mlot", "_law_good_here", "_law_hold_here"]
theorem scLaw : FnScope NL ["_law_script"] (defScope sLaw) := ⟨rfl, rfl, rfl, by decide +kernel, rfl, by decide +kernel, by decide +kernel⟩
abbrev qLam : Str := ((Str.ofString "law" : Str) ++ (Str.ofString ".<locals>." : Str)) ++ (Str.ofString "<lambda>" : Str)
def optV : Option Int → V
  | none => .non
  | some k => .int k
theorem wrongV_opt (m : Int) (row : List Int) : wrongV m row = optV (wrong m row) := by
  unfold wrongV optV
  cases wrong m row <;> rfl
def spFwO : Sp := fun vs H Q _ => ∃ (a : Addr) (m : Int) (row : List Int), vs = [.ref a, .int m] ∧ IntsAt H a row ∧ row.length ≤ 1000 ∧ Q (optV (wrong m row)) H
/-- all that the law takes from the module -/
structure Txt (P : Program) (w : World) (K : PySem.W.Frag) (mg : Str → Option Value) (base : Heap) (C CB CC : Addr) : Prop where
  B : Bl mg
  feed : Cal P w K mg base CX0 1 "_law_feed" ["_law_script"] (spFeed K)
  any : Cal P w K mg base CX0 4 "_law_any_lot" ["_law_feed_here"] spAny
  great : Cal P w K mg base CX0 3 "_law_great" ["_law_feed_here"] spGreat
  be : Cal P w K mg base CX0 3 "_law_bent" ["_law_feed_here", "_law_row"] spBe
  fw : Cal P w K mg base CX0 1 "_law_flaw" ["_law_row", "_law_many"] spFwO
  no : Cal P w K mg base CX0 1 "_law_noughts" ["_law_many"] spNoughts
  plus : Cal P w K mg base CX0 1 "_law_plus" ["_law_one", "_law_other"] spPlus
  goodsL : Cal P w K mg base CX0 2 "_law_goods" ["_law_mlot", "_law_mcounts"] spGoodsL
  same1 : Cal P w K mg base CX0 2 "_law_same" ["_law_found", "_law_due"] (spSame 1)
  same2 : Cal P w K mg base CX0 3 "_law_same" ["_law_found", "_law_due"] (spSame 2)
  lookB : Cal P w K mg base (L2.CX P w) 5 "look_bill" ["lot", "bill"] (spLookBill K C CB)
  billO : ∃ (f : Addr) (fd : FuncData) (T0 : Addr), FnOk P w K mg base (L2.CX P w) 6 f fd ["lot", "counts", "loose"] (spBillOf K C CB CC) ∧ mg "bill_of" = some (.ref f) ∧ PySem.W.keepIn K (.ref f) = true ∧ Binds K fd ["lot", "counts", "loose"] [.ref T0] ∧ (∀ H : Hp, SqT K H T0 []) ∧
    KBn K fd ["lot", "counts", "loose"] 2 ["loose"] (fun us ws => us ++ ws) (fun vs zs => vs ++ zs) ∧ KBn K fd ["lot", "counts", "loose"] 0 ["loose", "counts", "lot"] (fun _ ws => ws.reverse) (fun _ zs => zs.reverse)
  told : ∃ (g : Addr) (oc : Value) (od : Option Addr) (kV doc pm : Value) (an : Option Addr) (cdv ct : Value) (osl : Array (Option Value)), mg "_law_told" = some (.ref g) ∧ PySem.W.keepIn K (.ref g) = true ∧
    K.lookup g = some ⟨oc, od, .func (PySem.W.fnOf "_law_told" "_law_told" (defArgs sTold) (defBody sTold) (defScope sTold) .none kV doc pm an cdv ct), osl⟩ ∧ PySem.W.codeIn K cdv "_law_told" = true ∧
    L2.Binds K (PySem.W.fnOf "_law_told" "_law_told" (defArgs sTold) (defBody sTold) (defScope sTold) .none kV doc pm an cdv ct) ["_law_ask"] []
  cls : Cls3 K mg C CB CC
/-- what the law's turn knows of the heap -/
structure S3 (cf fe Pt p : Addr) (as : List Addr) (ll : List (List Int)) (H : Hp) : Prop where
  F : FeedAt cf H fe
  T : Tabs [(Pt, qLam)] H
  R : RowsAt H p as ll
structure S6 (cf fe Pt p : Addr) (as : List Addr) (ll : List (List Int)) (b c o : Addr) (row cs ls : List Int) (H : Hp) : Prop where
  X : S3 cf fe Pt p as ll H
  b : IntsAt H b row
  c : IntsAt H c cs
  o : IntsAt H o ls
section
variable {cf fe Pt p b c o : Addr} {as : List Addr} {ll : List (List Int)} {row cs ls : List Int} {H H' : Hp}
theorem S3.same (x : S3 cf fe Pt p as ll H) (s : Same H H') : S3 cf fe Pt p as ll H' := ⟨x.F.same s, x.T.ext s, x.R.same s⟩
theorem S3.ext (x : S3 cf fe Pt p as ll H) (s : ExtN H H') (t : Tabs [(Pt, qLam)] H') : S3 cf fe Pt p as ll H' := ⟨x.F.ext s, t, x.R.ext s⟩
theorem S3.kp (x : S3 cf fe Pt p as ll H) (k : Kp fe H H') (F : FeedAt cf H' fe) : S3 cf fe Pt p as ll H' := ⟨F, tabs_kp x.T x.F k, x.R.kp x.F k⟩
theorem S3.put {l : Addr} {xs ys : List V} (x : S3 cf fe Pt p as ll H) (h : H l = some (.lst xs)) (n1 : l ≠ fe) (n2 : l ≠ cf) : S3 cf fe Pt p as ll (upd H l (.lst ys)) :=
  ⟨x.F.put n1 n2, tabs_list x.T h, ⟨by rw [upd_ne (ne_of x.R.1 h (fun z => by cases z))]; exact x.R.1, x.R.2.mono fun a zs e => by rw [upd_ne (ne_of e h (fun z => by cases z))]; exact e⟩⟩
theorem S6.same (x : S6 cf fe Pt p as ll b c o row cs ls H) (s : Same H H') : S6 cf fe Pt p as ll b c o row cs ls H' := ⟨x.X.same s, x.b.same s, x.c.same s, x.o.same s⟩
theorem S6.ext (x : S6 cf fe Pt p as ll b c o row cs ls H) (s : ExtN H H') (t : Tabs [(Pt, qLam)] H') : S6 cf fe Pt p as ll b c o row cs ls H' := ⟨x.X.ext s t, x.b.ext s, x.c.ext s, x.o.ext s⟩
end
/-! ### numbers drawn into a list -/
def PvG (f c D : Addr) (H : Hp) (i : Nat) (H' : Hp) : Prop := Kp f H H' ∧ FeedAt c H' f ∧ ∃ ns : List Int, H' D = some (.lst (ns.map V.int)) ∧ ns.length = i
theorem pvg_step {f c D : Addr} {H H' H2 : Hp} {i : Nat} {d : Int} (nD : H D = none) (F0 : FeedAt c H f) (hi : i ≤ 100) (h : PvG f c D H i H') (k : Kp f H' H2) (F : FeedAt c H2 f) :
    ∃ acc, H2 D = some (.lst acc) ∧ acc.length < sizeLine ∧ PvG f c D H (i + 1) (upd H2 D (.lst (acc ++ [.int d]))) := by
  obtain ⟨kp, F', ns, hD, hl⟩ := h
  have n1 : D ≠ f := F0.ne nD
  refine ⟨_, k _ _ n1 hD, ?_, (kp.trans k).late nD, F.put n1 (F0.neC nD), ns ++ [d], ?_, ?_⟩
  · rw [List.length_map, hl]
    exact small1000 (by omega)
  · rw [upd_same, List.map_append]
    rfl
  · rw [List.length_append, hl]
    rfl
theorem good_flaw {g m : Int} {ll : List (List Int)} (g1 : 1 ≤ g) (g3 : g ≤ 3) (m6 : m ≤ 6) (h : GoodLot g m 5 ll) : flaw ll = none ∧ width ll = g.toNat ∧ ∀ r ∈ ll, okRow (width ll) r = true := by
  obtain ⟨h1, h2, h3⟩ := h
  have hw : width ll = g.toNat := by
    cases ll with
    | nil => simp at h1
    | cons r rs => exact (h3 r List.mem_cons_self).1
  have hok : ∀ r ∈ ll, okRow (width ll) r = true := fun r hr => by
    obtain ⟨e1, e2, e3⟩ := h3 r hr
    refine okRow_iff.mpr ⟨by rw [e1, hw], fun n hn => ?_, e3⟩
    have := e2 n hn
    omega
  refine ⟨?_, hw, hok⟩
  unfold flaw
  rw [if_pos ⟨h1, h2, by omega, by omega⟩]
  exact flawIn_none fun j r' hj hjr => hok r' (List.mem_of_getElem? hjr)
def atB (ll : List (List Int)) : Int := if ll.length = 5 then -1 else ll.length
theorem bad_flaw {ll : List (List Int)} (h1 : 1 ≤ ll.length) (h5 : ll.length ≤ 5) (hw : 1 ≤ width ll ∧ width ll ≤ 3) (hok : ∀ r ∈ ll, okRow (width ll) r = true) : flaw (ll ++ [[9]]) = some (atB ll) := by
  have ew : width (ll ++ [[9]]) = width ll := by
    cases ll with
    | nil => simp at h1
    | cons r rs => rfl
  unfold flaw atB
  rw [ew]
  by_cases c : ll.length = 5
  · rw [if_neg (fun z => ?_), if_pos c]
    have := z.2.1
    rw [List.length_append, List.length_singleton] at this
    omega
  · rw [if_pos ⟨by rw [List.length_append]; omega, by rw [List.length_append, List.length_singleton]; omega, hw.1, hw.2⟩, if_neg c]
    refine flawIn_at (r := [9]) (by rw [List.getElem?_append_right (Nat.le_refl _), Nat.sub_self]; rfl) ?_ fun j r' hj hjr => ?_
    · cases e : okRow (width ll) [9] with
      | false => rfl
      | true =>
        have := ((okRow_iff.mp e).2.1 9 List.mem_cons_self).2
        omega
    · rw [List.getElem?_append_left hj] at hjr
      exact hok r' (List.mem_of_getElem? hjr)
theorem plus_bill {ll : List (List Int)} {cs ls ms : List Int} (h : ms = if ls = [] then List.replicate (width ll) 0 else ls) : plusI (billI ll cs []) ms = billI ll cs ls := by
  have lb : (billI ll cs []).length = width ll := by unfold billI; rw [List.length_map, List.length_range]
  unfold plusI
  rw [lb]
  show _ = (List.range (width ll)).map fun g => packI ll cs g + ls.getD g 0
  refine List.map_congr_left fun i hi => ?_
  have hi' : i < width ll := List.mem_range.mp hi
  have e1 : (billI ll cs []).getD i 0 = packI ll cs i := by
    unfold billI
    rw [List.getD_eq_getElem?_getD, List.getElem?_map, List.getElem?_range hi']
    simp
  have e2 : ms.getD i 0 = ls.getD i 0 := by
    rw [h]
    by_cases c : ls = []
    · rw [if_pos c, c]
      simp [List.getD_eq_getElem?_getD, List.getElem?_replicate]
      split <;> rfl
    · rw [if_neg c]
  rw [e1, e2]
/-! ### what is due, by the law -/
theorem due_read {wd : Wd} {x : Option Int} {te : TE} {σ : L2.St} {H : Hp} {Q : VK} (hte : ∀ Q' : VK, Q' (optV x) H → te σ H Q') (q : ∀ t, H t = none → Q (.ref t) (upd H t (.tup (pairV (outW wd x))))) :
    if decide (optV x = .non) = true then tTup (tCons (tC (.str "none")) (tCons (tC .non) tNil)) σ H Q else tTup (tCons (tC (.str wd.s)) (tCons te tNil)) σ H Q := by
  cases x with
  | none =>
    rw [if_pos (decide_eq_true (show optV none = V.non from rfl))]
    exact ⟨(by show 2 ≤ sizeLine; decide), fun t nt => q t nt⟩
  | some k =>
    rw [if_neg (fun z => by cases (of_decide_eq_true z))]
    exact hte _ ⟨(by show 2 ≤ sizeLine; decide), fun t nt => q t nt⟩
def dueOf (xc : Option Int) (o : Wd × V) : Wd × V := match xc with
  | none => o
  | some k => (.co, .int k)
theorem due_read2 {x : Option Int} {te : TE} {σ : L2.St} {H : Hp} {Q : VK} {t0 : Addr} {o : Wd × V} (h4 : σ[4]? = some (some (.ref t0))) (h0 : H t0 = some (.tup (pairV o))) (hte : ∀ Q' : VK, Q' (optV x) H → te σ H Q')
    (q : ∀ t H', Same H H' → H' t = some (.tup (pairV (dueOf x o))) → Q (.ref t) H') : if decide (optV x = .non) = true then tVar 4 σ H Q else tTup (tCons (tC (.str "counts")) (tCons te tNil)) σ H Q := by
  cases x with
  | none =>
    rw [if_pos (decide_eq_true (show optV none = V.non from rfl))]
    exact ⟨_, h4, q t0 H (Same.refl _) h0⟩
  | some k =>
    rw [if_neg (fun z => by cases (of_decide_eq_true z))]
    exact hte _ ⟨(by show 2 ≤ sizeLine; decide), fun t nt => q t _ (same_new nt) upd_same⟩
theorem outOf_due {ll : List (List Int)} {cs ls : List Int} (hf : flaw ll = none) : outOf ll cs ls = dueOf (wrong ll.length cs) (outW .bi (looseW ll ls)) := by
  unfold outOf dueOf
  rw [hf]
  cases wrong ll.length cs <;> rfl
theorem outBill_due {ll : List (List Int)} {row : List Int} (hf : flaw ll = none) : outBill ll row = outW .bi (wrong (width ll) row) := by
  unfold outBill
  rw [hf]
theorem eqd_tup {H : Hp} {a b : Addr} {xs : List V} {d : Nat} (ha : H a = some (.tup xs)) (hb : H b = some (.tup xs)) (hz : xs.length ≤ 1000) (hl : ∀ x ∈ xs, leafV x = true) : Eqd H (d + 1) (.ref a) (.ref b) :=
  .inr ⟨a, b, xs, xs, rfl, rfl, .inr ⟨ha, hb⟩, rfl, hz, fun i x y h1 h2 => by
    rw [h1] at h2
    cases h2
    have e := hl x (List.mem_of_getElem? h1)
    cases d with
    | zero => exact ⟨rfl, e⟩
    | succ d => exact .inl ⟨rfl, e⟩⟩
theorem pair_leaf {o : Wd × V} (h : leafV o.2 = true) : ∀ x ∈ pairV o, leafV x = true := fun x hx => by
  rcases List.mem_cons.mp hx with z | z
  · rw [z]; rfl
  · rw [List.mem_singleton.mp z]; exact h
theorem outW_leaf (wd : Wd) (x : Option Int) : leafV (outW wd x).2 = true := by cases x <;> rfl
theorem dueOf_leaf (x : Option Int) {o : Wd × V} (h : leafV o.2 = true) : leafV (dueOf x o).2 = true := by
  cases x with
  | none => exact h
  | some k => rfl
theorem sz_2 (v w : V) : [v, w].length ≤ sizeLine := by
  show 2 ≤ sizeLine
  decide
theorem row0 {H : Hp} {p a0 : Addr} {as : List Addr} {ll : List (List Int)} (R : RowsAt H p as ll) (h : as[0]? = some a0) (hl : 1 ≤ ll.length) : IntsAt H a0 (ll.headD []) := by
  obtain ⟨a1, h1, h2, _⟩ := R.2.head hl
  rw [h] at h1
  cases h1
  exact h2
theorem loose_read {ll : List (List Int)} {ls : List Int} {te : TE} {σ : L2.St} {H : Hp} {Q : VK} (hte : ∀ Q' : VK, Q' (optV (wrong (width ll) ls)) H → te σ H Q') (q : Q (optV (looseW ll ls)) H) : if (!decide (ls = [])) = true then te σ H Q else tC .non σ H Q := by
  by_cases c : ls = []
  · have e : looseW ll ls = none := by unfold looseW; rw [if_pos c]
    rw [decide_eq_true c]
    rw [e] at q
    exact iteF q
  · have e : looseW ll ls = wrong (width ll) ls := by unfold looseW; rw [if_neg c]
    rw [decide_eq_false c]
    rw [e] at q
    exact iteT (hte _ q)
theorem more_read {ll : List (List Int)} {ls : List Int} {te : TE} {σ : L2.St} {H : Hp} {Q : VK} {o : Addr} (hte : ∀ Q' : VK, (∀ H' z, Same H H' → IntsAt H' z (List.replicate (width ll) 0) → Q' (.ref z) H') → te σ H Q') (h13 : σ[13]? = some (some (.ref o))) (ho : IntsAt H o ls)
    (q : ∀ H' z ms, Same H H' → IntsAt H' z ms → ms = (if ls = [] then List.replicate (width ll) 0 else ls) → Q (.ref z) H') : if decide (ls = []) = true then te σ H Q else tVar 13 σ H Q := by
  by_cases c : ls = []
  · rw [decide_eq_true c]
    exact iteT (hte _ fun H' z s hz => q H' z _ s hz (by rw [if_pos c]))
  · rw [decide_eq_false c]
    exact iteF ⟨_, h13, q H o ls (Same.refl _) ho (by rw [if_neg c])⟩
theorem at_read {ll : List (List Int)} {te : TE} {σ : L2.St} {H : Hp} {Q : VK} (hte : ∀ Q' : VK, Q' (.int ((ll.length : Nat) : Int)) H → te σ H Q') (q : Q (.int (atB ll)) H) :
    if decide (V.int ((ll.length : Nat) : Int) = V.int 5) = true then tUn (rU fun i => .int (-i)) (tC (.int 1)) σ H Q else te σ H Q := by
  by_cases c : ll.length = 5
  · have e : atB ll = -1 := by unfold atB; rw [if_pos c]
    rw [e] at q
    rw [c]
    exact iteT ⟨1, rfl, q⟩
  · have e : atB ll = ll.length := by unfold atB; rw [if_neg c]
    rw [e] at q
    rw [if_neg (fun z => c (by have := V.int.inj (of_decide_eq_true z); omega))]
    exact hte _ q
theorem due_no {x y : Option Int} (h : V.str (dueOf x (outW .bi y)).1.s = V.str "none") : x = none ∧ y = none := by
  cases x with
  | some k => exact absurd (show V.str (Str.ofString "counts") = V.str (Str.ofString "none") from h) (by decide +kernel)
  | none =>
    cases y with
    | some k => exact absurd (show V.str (Str.ofString "bill") = V.str (Str.ofString "none") from h) (by decide +kernel)
    | none => exact ⟨rfl, rfl⟩
def lotD (k : Int) : PyData := .list [.tuple [.str "lot", .int k], .tuple [.str "lot", .int k]]
theorem lotD_shaped (k : Int) : SeqAt.shaped (lotD k) = true := by
  have e : (lotD k).canLay0 = true := by
    unfold lotD
    simp only [PyData.canLay0, PyData.canLayAll0]
    decide +kernel
  have d : (lotD k).depth ≤ 64 := by
    unfold lotD
    simp only [PyData.depth, PyData.depthAll]
    decide
  show ((lotD k).canLay0 && decide ((lotD k).depth ≤ 64)) = true
  rw [e, decide_eq_true d]
  rfl
theorem lotD_eqv (k : Int) : PyData.eqv (lotD k) (lotD k) = true := by
  unfold lotD
  simp [PyData.eqv, PyData.eqvAll]
section
variable {P : Program} {w : World} {K : PySem.W.Frag} {mg : Str → Option Value} {base : Heap}
theorem lotD_dp {H : Hp} {l t1 t2 : Addr} {k : Int} (h : H l = some (.lst [.ref t1, .ref t2])) (h1 : H t1 = some (.tup (pairV (.lo, .int k)))) (h2 : H t2 = some (.tup (pairV (.lo, .int k)))) : Dp K H (.ref l) (lotD k) :=
  .lst (SqL.of h) (.cons (.tup (SqT.of h1) (.cons (.str _) (.cons (.int k) .nil))) (.cons (.tup (SqT.of h2) (.cons (.str _) (.cons (.int k) .nil))) .nil))
def spLaw (K : PySem.W.Frag) (Pt : Addr) : Sp := fun vs H Q _ => ∃ (a : Addr) (ns : List Int), vs = [.ref a] ∧ SqL K H a (ns.map V.int) ∧ ns.length ≤ 63 ∧ Tabs [(Pt, qLam)] H ∧ ∀ H', Q (.bl true) H'
theorem ok_law {f C CB CC c Pt : Addr} {oc : Value} {od : Option Addr} {kV doc pm : Value} {an : Option Addr} {ct : Value} {osl : Array (Option Value)}
    (lk : K.lookup f = some ⟨oc, od, .func (PySem.W.fnOf "law" "law" (defArgs sLaw) (defBody sLaw) (defScope sLaw) .none kV doc pm an (.ref c) ct), osl⟩) (hcd : PySem.W.codeIn K (.ref c) "law" = true) (T : Txt P w K mg base C CB CC) (TB : TabB base mg c Pt) :
    FnOk P w K mg base CX0 9 f (PySem.W.fnOf "law" "law" (defArgs sLaw) (defBody sLaw) (defScope sLaw) .none kV doc pm an (.ref c) ct) ["_law_script"] (spLaw K Pt) := by
  have B := T.B
  obtain ⟨fF, fdF, GF, gF, kF, bF⟩ := T.feed.ex
  obtain ⟨fA, fdA, GA, gA, kA, bA⟩ := T.any.ex
  obtain ⟨fGr, fdGr, GGr, gGr, kGr, bGr⟩ := T.great.ex
  obtain ⟨fBe, fdBe, GBe, gBe, kBe, bBe⟩ := T.be.ex
  obtain ⟨fFw, fdFw, GFw, gFw, kFw, bFw⟩ := T.fw.ex
  obtain ⟨fN, fdN, GN, gN, kN, bN⟩ := T.no.ex
  obtain ⟨fP, fdP, GP, gP, kP, bP⟩ := T.plus.ex
  obtain ⟨fGL, fdGL, GGL, gGL, kGL, bGL⟩ := T.goodsL.ex
  obtain ⟨fS1, fdS1, GS1, gS1, kS1, bS1⟩ := T.same1.ex
  obtain ⟨fS2, fdS2, GS2, gS2, kS2, bS2⟩ := T.same2.ex
  obtain ⟨fLB, fdLB, GLB, gLB, kLB, bLB⟩ := T.lookB.ex
  obtain ⟨fBO, fdBO, T0, GBO, gBO, kBO, bBO, hT0, kb1, kb2⟩ := T.billO
  obtain ⟨gT, toc, tod, tkV, tdoc, tpm, tan, tcdv, tct, tosl, gTold, kTold, lkT, cdT, bT⟩ := T.told
  have vd : Vals [V.ref T0] [Value.ref T0] := .cons rfl .nil
  refine fn_of lk hcd scLaw (fun vs H Q E h => ?_) fun A outer s H vs Q E hr h => ?_
  · obtain ⟨a, ns, rfl, _⟩ := h
    rfl
  · obtain ⟨a, ns, rfl, hS, hlen, hT, q⟩ := h
    have tl : ∀ {X : Cx} (eK : X.K = K) (em : X.mg = mg) {q : Str} {cdg : Value} {g : Addr}, GivesTo X ["_law_ask", "_law_found", "e"] "_law_told" (defScope sTold) g cdg (defBody sTold) "_law_ask" q (TT3 C CB CC) := fun {X} eK em {q cdg g} => by
      subst eK em
      exact told_gives T.cls
    have build : ∃ t, PSs (cxOf CX0 P w K mg base NL "law" (defScope sLaw) f (.ref c) A outer s H E).nox (defBody sLaw) t ∧ t { nx := fun _ H' => Q .non H', rt := Q } (L2.start NL [.ref a]) H := by
      refine ⟨_, pss_cons (ps_set (i := 1) scLaw.nd rfl (.inr rfl) (pe_call GF (hr.mono (by decide)) (by rfl) gF kF bF .nil pass0 (pa_cons (pv 0) pa_nil)))
        (pss_cons (ps_for PassesOwn.never rfl (pi_range1 (by rfl) B.range (pa_cons pe_int pa_nil)) (pg_name (i := 2) scLaw.nd rfl (.inl rfl))
          (pss_cons (ps_set (i := 14) scLaw.nd rfl (.inr rfl) (pe_call GA (hr.mono (by decide)) (by rfl) gA kA bA .nil pass0 (pa_cons (pv 1) pa_nil)))
          (pss_cons (ps_set (i := 11) scLaw.nd rfl (.inr rfl) (pe_call GBe (hr.mono (by decide)) (by rfl) gBe kBe bBe .nil pass0 (pa_cons (pv 1) (pa_cons (pe_callTy call_tuple_of (by rfl) B.tuple (by decide +kernel) (pa_cons (pe_lc (own := [("_law_good_here", 15)]) (g := gName 15) (tt := tYes) rfl scLaw.nd (pi_tup (pe_ix ix_tup (pv 14) pe_int (fun _ _ => rfl))) (blkOk_by (own := [("_law_good_here", 15)]) (N := NL) (sc := defScope sLaw) (by decide +kernel)) (fun _ _ _ _ _ => pg_name (i := 15) scLaw.nd rfl (Or.inl rfl)) (fun _ _ _ _ _ => pts_nil)
              (fun _ _ _ _ _ => pe_call GGr (hr.mono (by decide)) (by rfl) gGr kGr bGr .nil pass0 (pa_cons (pv 1) pa_nil))) pa_nil)) pa_nil))))
          (pss_cons (ps_set (i := 12) scLaw.nd rfl (.inr rfl) (pe_call GBe (hr.mono (by decide)) (by rfl) gBe kBe bBe .nil pass0 (pa_cons (pv 1) (pa_cons (pe_callTy call_tuple_of (by rfl) B.tuple (by decide +kernel) (pa_cons (pe_lc (own := [("_law_hold_here", 16)]) (g := gName 16) (tt := tYes) rfl scLaw.nd (pi_tup (pv 14)) (blkOk_by (own := [("_law_hold_here", 16)]) (N := NL) (sc := defScope sLaw) (by decide +kernel)) (fun _ _ _ _ _ => pg_name (i := 16) scLaw.nd rfl (Or.inl rfl)) (fun _ _ _ _ _ => pts_nil)
              (fun _ _ _ _ _ => pe_call GGr (hr.mono (by decide)) (by rfl) gGr kGr bGr .nil pass0 (pa_cons (pv 1) pa_nil))) pa_nil)) pa_nil))))
          (pss_cons (ps_set (i := 13) scLaw.nd rfl (.inr rfl) (pe_call GBe (hr.mono (by decide)) (by rfl) gBe kBe bBe .nil pass0 (pa_cons (pv 1) (pa_cons (pe_callTy call_tuple_of (by rfl) B.tuple (by decide +kernel) (pa_cons (pe_lc (own := [("_law_good_here", 15)]) (g := gName 15) (tt := tYes) rfl scLaw.nd (pi_tup (pe_ix ix_tup (pv 14) pe_int (fun _ _ => rfl))) (blkOk_by (own := [("_law_good_here", 15)]) (N := NL) (sc := defScope sLaw) (by decide +kernel)) (fun _ _ _ _ _ => pg_name (i := 15) scLaw.nd rfl (Or.inl rfl)) (fun _ _ _ _ _ => pts_nil)
              (fun _ _ _ _ _ => pe_call GGr (hr.mono (by decide)) (by rfl) gGr kGr bGr .nil pass0 (pa_cons (pv 1) pa_nil))) pa_nil)) pa_nil))))
          (pss_cons (ps_set (i := 3) scLaw.nd rfl (.inl rfl) (pe_call GFw (hr.mono (by decide)) (by rfl) gFw kFw bFw .nil pass0 (pa_cons (pv 11) (pa_cons (pe_callB call_len_seq (by rfl) B.len PySem.boot_len (pa_cons (pe_ix ix_tup (pv 14) pe_int (fun _ _ => rfl)) pa_nil)) pa_nil))))
          (pss_cons (ps_set (i := 4) scLaw.nd rfl (.inl rfl) (pe_ifExp (pt_cmpR op_isN (pv 3) pe_non (nomark _)) (pe_tup (pa_cons pe_str (pa_cons pe_non pa_nil))) (pe_tup (pa_cons pe_str (pa_cons (pv 3) pa_nil)))))
          (pss_cons (ps_if (pt_not (pt_val (pe_call GS1 (hr.mono (by decide)) (by rfl) gS1 kS1 bS1 .nil pass0 (pa_cons (pe_lamcall (k := 6) (T := [(Pt, qLam)]) (TT := TT3 C CB CC) (t := fun E => tCall (spLookBill K C CB) [] E (tCons (tVar 14) (tCons (tVar 11) tNil))) (by rfl) gTold kTold lkT cdT bT scTold rfl (.inl rfl) (tl rfl rfl) TB rfl List.mem_cons_self (fun p hp _ => by rw [List.mem_singleton.mp hp]; rfl) hr (lamS_by (sc := defScope sLaw) (by decide +kernel)) rfl (fun _ _ _ _ _ => rfl)
              (fun A outer s H E f c' hr2 => pe_call GLB (hr2.mono (by decide)) (by rfl) gLB kLB bLB .nil (passes_call (takes_of rfl rfl rfl rfl) (fun _ _ _ _ h => h)) (pa_cons (pv 14) (pa_cons (pv 11) pa_nil)))) (pa_cons (pv 4) pa_nil))))) pss_never pss_nil)
          (pss_cons (ps_set (i := 5) scLaw.nd rfl (.inl rfl) (pe_lst (pa_cons (pe_call GFw (hr.mono (by decide)) (by rfl) gFw kFw bFw .nil pass0 (pa_cons (pv 12) (pa_cons (pe_callB call_len_seq (by rfl) B.len PySem.boot_len (pa_cons (pv 14) pa_nil)) pa_nil))) (pa_cons (pe_ifExp (pt_cmpR (op_neD hr.units) (pv 13) (pe_tup pa_nil) (nomark _)) (pe_call GFw (hr.mono (by decide)) (by rfl) gFw kFw bFw .nil pass0 (pa_cons (pv 13) (pa_cons (pe_callB call_len_seq (by rfl) B.len PySem.boot_len (pa_cons (pe_ix ix_tup (pv 14) pe_int (fun _ _ => rfl)) pa_nil)) pa_nil))) pe_non) pa_nil))))
          (pss_cons (ps_set (i := 4) scLaw.nd rfl (.inl rfl) (pe_ifExp (pt_cmpR op_isN (pe_ix ix_list (pv 5) pe_int (fun _ _ => rfl)) pe_non (nomark _)) (pe_tup (pa_cons pe_str (pa_cons pe_non pa_nil))) (pe_tup (pa_cons pe_str (pa_cons (pe_ix ix_list (pv 5) pe_int (fun _ _ => rfl)) pa_nil)))))
          (pss_cons (ps_set (i := 4) scLaw.nd rfl (.inl rfl) (pe_ifExp (pt_cmpR op_isN (pe_ix ix_list (pv 5) pe_int (fun _ _ => rfl)) pe_non (nomark _)) (pv 4) (pe_tup (pa_cons pe_str (pa_cons (pe_ix ix_list (pv 5) pe_int (fun _ _ => rfl)) pa_nil)))))
          (pss_cons (ps_if (pt_not (pt_val (pe_call GS1 (hr.mono (by decide)) (by rfl) gS1 kS1 bS1 .nil pass0 (pa_cons (pe_lamcall (k := 6) (T := [(Pt, qLam)]) (TT := TT3 C CB CC) (t := fun E => tCallN 2 (["loose"] : List Str).length (spBillOf K C CB CC) (fun vs zs => vs ++ zs) E (tCons (tVar 14) (tCons (tVar 12) tNil)) (tCons (tVar 13) tNil)) (by rfl) gTold kTold lkT cdT bT scTold rfl (.inl rfl) (tl rfl rfl) TB rfl List.mem_cons_self (fun p hp _ => by rw [List.mem_singleton.mp hp]; rfl) hr (lamS_by (sc := defScope sLaw) (by decide +kernel)) rfl (fun _ _ _ _ _ => rfl)
              (fun A outer s H E f c' hr2 => pe_callN GBO hr2 (by rfl) gBO kBO kb1 (passes_call (takes_of rfl rfl rfl rfl) (fun _ _ _ _ h => h)) (pa_cons (pv 14) (pa_cons (pv 12) pa_nil)) (pk_cons (pv 13) pk_nil))) (pa_cons (pv 4) pa_nil))))) pss_never pss_nil)
          (pss_cut (ps_if (pt_cmpR op_eq (pe_ix ix_tup (pv 4) pe_int (fun _ _ => rfl)) pe_str (nomark _)) (pss_cons (ps_set (i := 6) scLaw.nd rfl (.inl rfl) (pe_ifExp (pt_cmpR (op_eqD hr.units) (pv 13) (pe_tup pa_nil) (nomark _)) (pe_call GN (hr.mono (by decide)) (by rfl) gN kN bN .nil pass0 (pa_cons (pe_callB call_len_seq (by rfl) B.len PySem.boot_len (pa_cons (pe_ix ix_tup (pv 14) pe_int (fun _ _ => rfl)) pa_nil)) pa_nil)) (pv 13)))
          (pss_cons (ps_set (i := 7) scLaw.nd rfl (.inl rfl) (pe_lst (pa_cons (pe_call GP (hr.mono (by decide)) (by rfl) gP kP bP .nil pass0 (pa_cons (pe_call GGL (hr.mono (by decide)) (by rfl) gGL kGL bGL .nil pass0 (pa_cons (pv 14) (pa_cons (pv 12) pa_nil))) (pa_cons (pv 6) pa_nil))) (pa_cons (pe_call GGL (hr.mono (by decide)) (by rfl) gGL kGL bGL .nil pass0 (pa_cons (pv 14) (pa_cons (pv 12) pa_nil))) pa_nil))))
          (pss_one (ps_if (pt_not (pt_val (pe_call GS2 (hr.mono (by decide)) (by rfl) gS2 kS2 bS2 .nil pass0 (pa_cons (pe_lst (pa_cons (pe_kw0 GBO (hr.mono (by decide)) (by rfl) gBO kBO kb2 passL (pk_cons (pv 13) (pk_cons (pv 12) (pk_cons (pv 14) pk_nil)))) (pa_cons (pe_call GBO (hr.mono (by decide)) (by rfl) gBO kBO bBO vd passL (pa_cons (pv 14) (pa_cons (pv 12) pa_nil))) pa_nil))) (pa_cons (pv 7) pa_nil))))) pss_never pss_nil)))) pss_nil)
          (pss_cons (ps_set (i := 10) scLaw.nd rfl (.inr rfl) (pe_op op_catA (pv 14) (pe_tup (pa_cons (pe_tup (pa_cons pe_int pa_nil)) pa_nil))))
          (pss_cons (ps_set (i := 8) scLaw.nd rfl (.inl rfl) (pe_ifExp (pt_cmpR op_eq (pe_callB call_len_seq (by rfl) B.len PySem.boot_len (pa_cons (pv 14) pa_nil)) pe_int (nomark _)) (pe_un un_neg pe_int) (pe_callB call_len_seq (by rfl) B.len PySem.boot_len (pa_cons (pv 14) pa_nil))))
          (pss_cons (ps_set (i := 9) scLaw.nd rfl (.inl rfl) (pe_lst (pa_cons (pe_lamcall (k := 6) (T := [(Pt, qLam)]) (TT := TT3 C CB CC) (t := fun E => tCall (spLookBill K C CB) [] E (tCons (tVar 10) (tCons (tTup tNil) tNil))) (by rfl) gTold kTold lkT cdT bT scTold rfl (.inl rfl) (tl rfl rfl) TB rfl List.mem_cons_self (fun p hp _ => by rw [List.mem_singleton.mp hp]; rfl) hr (lamS_by (sc := defScope sLaw) (by decide +kernel)) rfl (fun _ _ _ _ _ => rfl)
              (fun A outer s H E f c' hr2 => pe_call GLB (hr2.mono (by decide)) (by rfl) gLB kLB bLB .nil (passes_call (takes_of rfl rfl rfl rfl) (fun _ _ _ _ h => h)) (pa_cons (pv 10) (pa_cons (pe_tup pa_nil) pa_nil)))) pa_nil)))
          (pss_cons (ps_expr (pe_bm PySem.F.plainAttrs_list PySem.F.slot_list_append PySem.F.type_list_append mt_append (pv 9) (pa_cons (pe_lamcall (k := 6) (T := [(Pt, qLam)]) (TT := TT3 C CB CC) (t := fun E => tCallN 2 (["loose"] : List Str).length (spBillOf K C CB CC) (fun vs zs => vs ++ zs) E (tCons (tVar 10) (tCons (tTup tNil) tNil)) (tCons (tTup (tCons (tUn (rU fun i => .int (-i)) (tC (.int 1))) tNil)) tNil)) (by rfl) gTold kTold lkT cdT bT scTold rfl (.inl rfl) (tl rfl rfl) TB rfl List.mem_cons_self (fun p hp _ => by rw [List.mem_singleton.mp hp]; rfl) hr (lamS_by (sc := defScope sLaw) (by decide +kernel)) rfl (fun _ _ _ _ _ => rfl)
              (fun A outer s H E f c' hr2 => pe_callN GBO hr2 (by rfl) gBO kBO kb1 (passes_call (takes_of rfl rfl rfl rfl) (fun _ _ _ _ h => h)) (pa_cons (pv 10) (pa_cons (pe_tup pa_nil) pa_nil)) (pk_cons (pe_tup (pa_cons (pe_un un_neg pe_int) pa_nil)) pk_nil))) pa_nil)))
          (pss_one (ps_if (pt_cmpR (op_neD hr.units) (pv 9) (pe_lst (pa_cons (pe_tup (pa_cons pe_str (pa_cons (pv 8) pa_nil))) (pa_cons (pe_tup (pa_cons pe_str (pa_cons (pv 8) pa_nil))) pa_nil))) (nomark _)) pss_never pss_nil)))))))))))))))))))
        (pss_one (ps_ret pe_bl))), ?_⟩
      refine ⟨.ref a, rfl, a, ns, rfl, hS, hlen, fun H1 fe cf s1 nf F1 => ?_⟩
      refine ⟨4, rfl, by decide, by decide, ?_⟩
      refine for_range (lo := 0) (n := 4) (fun i σ H' => (∃ y2 y3 y4 y5 y6 y7 y8 y9 y10 y11 y12 y13 y14, σ = [some (.ref a), some (.ref fe), y2, y3, y4, y5, y6, y7, y8, y9, y10, y11, y12, y13, y14, none, none]) ∧ FeedAt cf H' fe ∧ Tabs [(Pt, qLam)] H')
        ⟨⟨none, none, none, none, none, none, none, none, none, none, none, none, none, rfl⟩, F1, hT.ext s1⟩ (fun i σ H2 hi ⟨⟨y2, y3, y4, y5, y6, y7, y8, y9, y10, y11, y12, y13, y14, eσ⟩, F2, T2⟩ => ?_) (fun σ H2 _ => q H2)
      subst eσ
      refine ⟨.ref fe, rfl, fe, cf, rfl, F2, fun H3 p ll g m k3 F3 _ ⟨as, hp, hR⟩ g1 g2 m1 m2 gl => ?_⟩
      obtain ⟨ef, ew, eok⟩ := good_flaw g1 g2 m2 gl
      obtain ⟨gl1, gl2, gl3⟩ := gl
      have X3 : S3 cf fe Pt p as ll H3 := ⟨F3, tabs_kp T2 F2 k3, ⟨hp, hR⟩⟩
      have hfo := flaw_ok ef
      have hlen0 := hR.len
      have hrows := flaw_rows ef
      have hLB : ll.length ≤ 100 ∧ ∀ r ∈ ll, r.length ≤ 100 := ⟨by omega, fun r hr => by have := (hrows r hr).1; omega⟩
      obtain ⟨a0, ha0, _, hw⟩ := X3.R.2.head hfo.1
      have at0 : atI (as.map V.ref) 0 = some (.ref a0) := atI_nat (j := 0) (by rw [List.getElem?_map, ha0]; rfl)
      -- the bill
      have r3 := row0 X3.R ha0 hfo.1
      refine ⟨.ref fe, rfl, .ref p, rfl, p, _, 0, .ref a0, rfl, rfl, SqT.of X3.R.1, at0, a0, rfl, ⟨_, SqT.of r3⟩, fun D nD => ?_⟩
      refine lc_tup (K := K) (a := a0) (xs := (ll.headD []).map V.int) (PvG fe cf D H3) ⟨Kp.new nD, X3.F.new nD, [], upd_same, rfl⟩ (fun i' H' _ pv => SqT.of (r3.kp X3.F pv.1)) (fun i' x H' hx pv => ⟨rfl, yes (iteT ⟨.ref fe, rfl, fe, cf, rfl, pv.2.1, fun d H4 _ _ k4 F4 => pvg_step nD X3.F ?_ pv k4 F4⟩)⟩) (fun H4 pv => ?_)
      · have := (List.getElem?_eq_some_iff.mp hx).1
        rw [List.length_map, hw] at this
        omega
      obtain ⟨k4, F4, n4, hD4, l4⟩ := pv
      rw [List.length_map, hw] at l4
      refine ⟨D, _, rfl, .inl ⟨SqL.of hD4, fun z nz => ?_⟩⟩
      have X5 := (X3.kp k4 F4).same (same_new (o := .tup (n4.map V.int)) nz)
      refine ⟨fe, cf, z, n4, rfl, X5.F, upd_same, by omega, by omega, fun H6 b row k6 F6 hb hbz => ?_⟩
      have X6 := X5.kp k6 F6
      -- the counts
      refine ⟨.ref fe, rfl, .ref p, rfl, p, rfl, ⟨_, SqT.of X6.R.1⟩, fun D2 nD2 => ?_⟩
      refine lc_tup (K := K) (a := p) (xs := as.map V.ref) (PvG fe cf D2 H6) ⟨Kp.new nD2, X6.F.new nD2, [], upd_same, rfl⟩ (fun i' H' _ pv => SqT.of (X6.R.kp X6.F pv.1).1) (fun i' x H' hx pv => ⟨rfl, yes (iteT ⟨.ref fe, rfl, fe, cf, rfl, pv.2.1, fun d H4 _ _ k4 F4 => pvg_step nD2 X6.F ?_ pv k4 F4⟩)⟩) (fun H7 pv => ?_)
      · have := (List.getElem?_eq_some_iff.mp hx).1
        rw [List.length_map] at this
        omega
      obtain ⟨k7, F7, n7, hD7, l7⟩ := pv
      rw [List.length_map] at l7
      refine ⟨D2, _, rfl, .inl ⟨SqL.of hD7, fun z2 nz2 => ?_⟩⟩
      have s8 := same_new (o := .tup (n7.map V.int)) nz2
      have X8 := (X6.kp k7 F7).same s8
      have hb8 := (hb.kp X6.F k7).same s8
      refine ⟨fe, cf, z2, n7, rfl, X8.F, upd_same, by omega, by omega, fun H9 cc cs k9 F9 hc hcz => ?_⟩
      have X9 := X8.kp k9 F9
      have hb9 := hb8.kp X8.F k9
      -- the loose ones
      have r9 := row0 X9.R ha0 hfo.1
      refine ⟨.ref fe, rfl, .ref p, rfl, p, _, 0, .ref a0, rfl, rfl, SqT.of X9.R.1, at0, a0, rfl, ⟨_, SqT.of r9⟩, fun D3 nD3 => ?_⟩
      refine lc_tup (K := K) (a := a0) (xs := (ll.headD []).map V.int) (PvG fe cf D3 H9) ⟨Kp.new nD3, X9.F.new nD3, [], upd_same, rfl⟩ (fun i' H' _ pv => SqT.of (r9.kp X9.F pv.1)) (fun i' x H' hx pv => ⟨rfl, yes (iteT ⟨.ref fe, rfl, fe, cf, rfl, pv.2.1, fun d H4 _ _ k4 F4 => pvg_step nD3 X9.F ?_ pv k4 F4⟩)⟩) (fun H10 pv => ?_)
      · have := (List.getElem?_eq_some_iff.mp hx).1
        rw [List.length_map, hw] at this
        omega
      obtain ⟨k10, F10, n10, hD10, l10⟩ := pv
      rw [List.length_map, hw] at l10
      refine ⟨D3, _, rfl, .inl ⟨SqL.of hD10, fun z3 nz3 => ?_⟩⟩
      have s11 := same_new (o := .tup (n10.map V.int)) nz3
      have X11 := (X9.kp k10 F10).same s11
      have hb11 := (hb9.kp X9.F k10).same s11
      have hc11 := (hc.kp X9.F k10).same s11
      refine ⟨fe, cf, z3, n10, rfl, X11.F, upd_same, by omega, by omega, fun H12 o ls k12 F12 ho hoz => ?_⟩
      have Y : S6 cf fe Pt p as ll b cc o row cs ls H12 := ⟨X11.kp k12 F12, hb11.kp X11.F k12, hc11.kp X11.F k12, ho⟩
      clear hb9 hb11 hc11 hb8 hb hc ho
      -- what is due of the bill
      refine ⟨.ref b, rfl, .ref p, rfl, p, _, 0, .ref a0, rfl, rfl, SqT.of Y.X.R.1, at0, a0, _, rfl, .inr (SqT.of (row0 Y.X.R ha0 hfo.1)), b, width ll, row, ?_, Y.b, by omega, ?_⟩
      · rw [List.length_map, hw]
        rfl
      refine ⟨_, rfl, rfl, _, rfl, due_read (wd := .bi) (fun Q' hq => ⟨_, rfl, hq⟩) fun td ntd => ?_⟩
      have Y1 := Y.same (same_new (o := .tup (pairV (outW .bi (wrong (width ll) row)))) ntd)
      refine told_ask (outBill ll row) outBill_no Y1.X.T (fun H5 H6 Qn E e5 s6 hOut => ⟨.ref p, rfl, .ref b, rfl, nilA (lookBill_out ⟨(Y1.X.R.ext e5).same s6, hLB⟩ ((Y1.b.ext e5).same s6).it hbz hOut)⟩) fun H5 H6 t e5 T5 s6 ht => ?_
      rw [outBill_due ef] at ht
      have Y2 := (Y1.ext e5 T5).same s6
      refine ⟨.ref td, rfl, .ref t, .ref td, rfl, eqd_tup (d := 0) ht (s6 _ _ (e5 _ _ upd_same (fun ps z => by cases z))) (by show 2 ≤ 1000; decide) (pair_leaf (outW_leaf _ _)), fun H7 s7 => ⟨_, rfl, iteF ?_⟩⟩
      have Y3 := Y2.same s7
      -- what is due of counts and loose ones
      refine ⟨.ref cc, rfl, .ref p, rfl, p, _, rfl, .inr (SqT.of Y3.X.R.1), cc, ll.length, cs, ?_, Y3.c, by omega, ?_⟩
      · rw [List.length_map, hlen0]
        rfl
      refine ⟨.ref o, rfl, Nat.zero_le _, fun t1 nt1 => ?_⟩
      have Y4 := Y3.same (same_new (o := .tup []) nt1)
      refine ⟨.tuple (ls.map PyData.int), .tuple [], .tup (SqT.of Y4.o) (dp_ints ls), .tup (SqT.of upd_same) .nil, shaped_tup ls, by decide, _, rfl, ?_⟩
      rw [eqv_nil]
      refine loose_read (ll := ll) (fun Q' hq => ⟨.ref o, rfl, .ref p, rfl, p, _, 0, .ref a0, rfl, rfl, SqT.of Y4.X.R.1, at0, a0, _, rfl, .inr (SqT.of (row0 Y4.X.R ha0 hfo.1)), o, width ll, ls, (by rw [List.length_map, hw]; rfl), Y4.o, by omega, hq⟩) ?_
      refine ⟨sz_2 _ _, fun lf nlf => ?_⟩
      have Y5 := Y4.same (same_new (o := .lst [optV (wrong ll.length cs), optV (looseW ll ls)]) nlf)
      refine ⟨.ref lf, rfl, lf, _, 1, _, rfl, rfl, SqL.of upd_same, atI_nat (j := 1) rfl, rfl, _, rfl, due_read (wd := .bi) (fun Q' hq => ⟨.ref lf, rfl, lf, _, 1, _, rfl, rfl, SqL.of upd_same, atI_nat (j := 1) rfl, hq⟩) fun td2 ntd2 => ?_⟩
      have sd := same_new (o := .tup (pairV (outW .bi (looseW ll ls)))) ntd2
      have Y6 := Y5.same sd
      have lf6 := sd _ _ (upd_same (a := lf) (o := .lst [optV (wrong ll.length cs), optV (looseW ll ls)]))
      refine ⟨.ref lf, rfl, lf, _, 0, _, rfl, rfl, SqL.of lf6, atI_nat (j := 0) rfl, rfl, _, rfl, due_read2 (t0 := td2) rfl upd_same (fun Q' hq => ⟨.ref lf, rfl, lf, _, 0, _, rfl, rfl, SqL.of lf6, atI_nat (j := 0) rfl, hq⟩) fun td3 H8 s8' htd3 => ?_⟩
      have Y7 := Y6.same s8'
      refine told_ask (outOf ll cs ls) outOf_no Y7.X.T (fun H5 H6 Qn E e5 s6 hOut => ⟨.ref p, rfl, .ref cc, rfl, .ref o, rfl, rfl, rfl, billOf_out ⟨(Y7.X.R.ext e5).same s6, hLB⟩ ((Y7.c.ext e5).same s6).it hcz ((Y7.o.ext e5).same s6).it hoz hOut⟩) fun H5' H6' t2 e5' T5' s6' ht2 => ?_
      rw [outOf_due ef] at ht2
      have Y8 := (Y7.ext e5' T5').same s6'
      have htd8 := s6' _ _ (e5' _ _ htd3 (fun ps z => by cases z))
      refine ⟨.ref td3, rfl, .ref t2, .ref td3, rfl, eqd_tup (d := 0) ht2 htd8 (by show 2 ≤ 1000; decide) (pair_leaf (dueOf_leaf _ (outW_leaf _ _))), fun H9' s9' => ⟨_, rfl, iteF ?_⟩⟩
      have Y9 := Y8.same s9'
      have htd9 := s9' _ _ htd8
      -- the bills themselves
      refine ⟨fun σ' H' => (∃ y2 y3 y4 y5 y6 y7 y8 y9 y10, σ' = [some (.ref a), some (.ref fe), y2, y3, y4, y5, y6, y7, y8, y9, y10, some (.ref b), some (.ref cc), some (.ref o), some (.ref p), none, none]) ∧ S6 cf fe Pt p as ll b cc o row cs ls H', ?_, ?_⟩
      · refine ⟨.ref td3, rfl, td3, _, 0, _, rfl, rfl, SqT.of htd9, atI_nat (j := 0) rfl, rfl, _, rfl, ite2 (fun c1 => ?_) (fun c1 => ⟨⟨_, _, _, _, _, _, _, _, _, rfl⟩, Y9⟩)⟩
        obtain ⟨ec, eo⟩ := due_no (of_decide_eq_true c1)
        have hcl : cs.length = ll.length := by have := (wrong_ok ec).1; omega
        have elo : ls = [] ∨ wrong (width ll) ls = none := by
          unfold looseW at eo
          by_cases z : ls = []
          · exact .inl z
          · rw [if_neg z] at eo
            exact .inr eo
        refine ⟨.ref o, rfl, Nat.zero_le _, fun t3 nt3 => ?_⟩
        have Z1 := Y9.same (same_new (o := .tup []) nt3)
        refine ⟨.tuple (ls.map PyData.int), .tuple [], .tup (SqT.of Z1.o) (dp_ints ls), .tup (SqT.of upd_same) .nil, shaped_tup ls, by decide, _, rfl, ?_⟩
        rw [eqv_nil]
        refine more_read (ll := ll) (o := o) (fun Q' hq => ⟨.ref p, rfl, p, _, 0, .ref a0, rfl, rfl, SqT.of Z1.X.R.1, at0, a0, _, rfl, .inr (SqT.of (row0 Z1.X.R ha0 hfo.1)), width ll, (by rw [List.length_map, hw]; rfl), by omega, by omega, fun H' z s' _ hz => hq H' z s' (by rw [show ((width ll : Nat) : Int).toNat = width ll by omega] at hz; exact hz)⟩) rfl Z1.o fun H13 mo ms s13 hmo ems => ?_
        have Z2 := Z1.same s13
        have lb : (billI ll cs []).length = width ll := by unfold billI; rw [List.length_map, List.length_range]
        have lm : width ll ≤ ms.length := by
          rw [ems]
          split
          · rw [List.length_replicate]
            omega
          · rename_i hne
            rcases elo with z | z
            · exact absurd z hne
            · have := (wrong_ok z).1
              omega
        refine ⟨.ref p, rfl, .ref cc, rfl, p, cc, as, ll, cs, rfl, Z2.X.R, Z2.c, hcl, by omega, hfo.1, by omega, hrows, fun H14 z4 s14 hz4 => ?_⟩
        have Z3 := Z2.same s14
        refine ⟨.ref mo, rfl, z4, mo, billI ll cs [], ms, rfl, hz4, hmo.same s14, by omega, by omega, fun H15 z5 s15 hz5 => ?_⟩
        rw [plus_bill ems] at hz5
        have Z4 := Z3.same s15
        refine ⟨.ref p, rfl, .ref cc, rfl, p, cc, as, ll, cs, rfl, Z4.X.R, Z4.c, hcl, by omega, hfo.1, by omega, hrows, fun H16 z6 s16 hz6 => ?_⟩
        have Z5 := Z4.same s16
        refine ⟨sz_2 _ _, fun lw nlw => ?_⟩
        have s17 := same_new (o := .lst [.ref z5, .ref z6]) nlw
        have Z6 := Z5.same s17
        refine ⟨.ref o, rfl, .ref cc, rfl, .ref p, rfl, rfl, rfl, p, cc, o, as, ll, cs, ls, rfl, ⟨Z6.X.R, hLB⟩, Z6.c.it, hcz, Z6.o.it, hoz, (fun k hk => by rw [ef] at hk; cases hk), (fun _ k hk => by rw [ec] at hk; cases hk), (fun _ _ hn k hk => ?_), fun _ _ _ H18 z7 s18 hz7 => ?_⟩
        · rcases elo with z | z
          · exact absurd z hn
          · rw [z] at hk
            cases hk
        have Z7 := Z6.same s18
        refine ⟨.ref p, rfl, .ref cc, rfl, p, cc, T0, as, ll, cs, [], rfl, ⟨Z7.X.R, hLB⟩, Z7.c.it, hcz, hT0 _, by decide, (fun k hk => by rw [ef] at hk; cases hk), (fun _ k hk => by rw [ec] at hk; cases hk), (fun _ _ hn => absurd rfl hn), fun _ _ _ H19 z8 s19 hz8 => ?_⟩
        have Z8 := Z7.same s19
        refine ⟨sz_2 _ _, fun lr nlr => ?_⟩
        have s20 := same_new (o := .lst [.ref z7, .ref z8]) nlr
        have Z9 := Z8.same s20
        have b7 : ((billI ll cs ls).map V.int).length ≤ 1000 := by
          unfold billI
          rw [List.length_map, List.length_map, List.length_range]
          omega
        have b8 : ((billI ll cs []).map V.int).length ≤ 1000 := by rw [List.length_map]; omega
        have lf : ∀ (ns : List Int), ∀ x ∈ ns.map V.int, leafV x = true := fun ns x hx => by
          obtain ⟨n, _, rfl⟩ := List.mem_map.mp hx
          rfl
        have s1719 : Same (upd H16 lw (.lst [.ref z5, .ref z6])) (upd H19 lr (.lst [.ref z7, .ref z8])) := s18.trans (s19.trans s20)
        refine ⟨.ref lw, rfl, .ref lr, .ref lw, rfl, .inr ⟨lr, lw, [.ref z7, .ref z8], [.ref z5, .ref z6], rfl, rfl, .inl ⟨upd_same, s1719 _ _ upd_same⟩, rfl, (by show 2 ≤ 1000; decide), fun j x y h1 h2 => ?_⟩, fun H20 s21 => ⟨_, rfl, iteF ⟨⟨_, _, _, _, _, _, _, _, _, rfl⟩, Z9.same s21⟩⟩⟩
        match j, h1, h2 with
        | 0, h1, h2 =>
          cases Option.some.inj h1
          cases Option.some.inj h2
          exact eqd_tup (d := 0) ((hz7.same (s19.trans s20))) (hz5.same (s16.trans (s17.trans s1719))) b7 (lf _)
        | 1, h1, h2 =>
          cases Option.some.inj h1
          cases Option.some.inj h2
          exact eqd_tup (d := 0) (hz8.same s20) (hz6.same (s17.trans s1719)) b8 (lf _)
        | j + 2, h1, h2 => simp at h1
      · rintro σ' H13 ⟨⟨y2, y3, y4, y5, y6, y7, y8, y9, y10, rfl⟩, Z⟩
        -- a lot that is none
        refine ⟨.ref p, rfl, sz_1 _, fun t9 nt9 => ⟨sz_1 _, fun t10 nt10 => ?_⟩⟩
        have s14 := same_new (o := .tup [.int 9]) nt9
        have s15 := same_new (o := .tup [.ref t9]) nt10
        refine cat_rows ((Z.X.R.same s14).same s15) (one_row (row := [9]) upd_same nt10) (by show ll.length + 1 ≤ 1000; omega) fun bd H16 s16 hbd => ?_
        have Z1 := Z.same (s14.trans (s15.trans s16))
        have fb := bad_flaw hfo.1 hfo.2.1 hfo.2.2 eok
        have hLB2 : (ll ++ [[9]]).length ≤ 100 ∧ ∀ r ∈ ll ++ [[9]], r.length ≤ 100 := by
          refine ⟨by rw [List.length_append, List.length_singleton]; omega, fun r hr => ?_⟩
          rcases List.mem_append.mp hr with h | h
          · exact hLB.2 r h
          · rw [List.mem_singleton.mp h]
            decide
        refine ⟨.ref p, rfl, p, _, rfl, .inr (SqT.of Z1.X.R.1), rfl, _, rfl, ?_⟩
        rw [List.length_map, hlen0]
        refine at_read (ll := ll) (fun Q' hq => ⟨.ref p, rfl, p, _, rfl, .inr (SqT.of Z1.X.R.1), by rw [List.length_map, hlen0]; exact hq⟩) ?_
        -- asked of both
        have ob : outBill (ll ++ [[9]]) [] = (.lo, .int (atB ll)) := by unfold outBill; rw [fb]
        have oo : outOf (ll ++ [[9]]) [] [-1] = (.lo, .int (atB ll)) := by unfold outOf; rw [fb]
        refine told_ask (.lo, .int (atB ll)) (fun z => by cases z) Z1.X.T (fun H5 H6 Qn E e5 s6 hOut => ⟨.ref bd, rfl, Nat.zero_le _, fun t nt => nilA (lookBill_out (CC := CC) (as := as ++ [t9]) (ll := ll ++ [[9]]) (row := []) ⟨((hbd.ext e5).same s6).same (same_new nt), hLB2⟩ (SqT.of upd_same) (by decide) (by rw [ob]; exact Refd.same hOut (same_new nt)))⟩) fun H17 H18 u1 e17 T17 s18 hu1 => ?_
        have Z2 := (Z1.ext e17 T17).same s18
        have hbd2 := (hbd.ext e17).same s18
        refine ⟨sz_1 _, fun la nla => ?_⟩
        have s19 := same_new (o := .lst [.ref u1]) nla
        have Z3 := Z2.same s19
        refine ⟨.ref la, rfl, .inl ⟨rfl, _, SqL.of upd_same⟩, told_ask (.lo, .int (atB ll)) (fun z => by cases z) Z3.X.T (fun H5 H6 Qn E e5 s6 hOut => ⟨.ref bd, rfl, Nat.zero_le _, fun t nt => ⟨1, rfl, sz_1 _, fun t2 nt2 => ⟨rfl, rfl, billOf_out (as := as ++ [t9]) (ll := ll ++ [[9]]) (cs := []) (ls := [-1]) ⟨((((hbd2.same s19).ext e5).same s6).same (same_new nt)).same (same_new nt2), hLB2⟩ (SqT.of (same_new nt2 _ _ upd_same)) (by decide) (SqT.of upd_same) (by decide) (by rw [oo]; exact Refd.same (Refd.same hOut (same_new nt)) (same_new nt2))⟩⟩⟩) fun H20 H21 u2 e20 T20 s21 hu2 => ?_⟩
        have Z4 := (Z3.ext e20 T20).same s21
        have hla : H21 la = some (.lst [.ref u1]) := s21 _ _ (e20 _ _ upd_same (fun ps z => by cases z))
        have hu1' : H21 u1 = some (.tup (pairV (.lo, .int (atB ll)))) := s21 _ _ (e20 _ _ (s19 _ _ hu1) (fun ps z => by cases z))
        have nl1 : la ≠ fe := Z2.X.F.ne nla
        have nl2 : la ≠ cf := Z2.X.F.neC nla
        refine ⟨la, _, _, rfl, rfl, hla, small1000 (by show 1 ≤ 1000; decide), ?_⟩
        have Z5 : S3 cf fe Pt p as ll (upd H21 la (.lst ([.ref u1] ++ [.ref u2]))) := Z4.X.put hla nl1 nl2
        have keep : ∀ (x : Addr) (xs : List V), H21 x = some (.tup xs) → upd H21 la (.lst ([.ref u1] ++ [.ref u2])) x = some (.tup xs) := fun x xs e => by
          rw [upd_ne (ne_of e hla (fun z => by cases z))]
          exact e
        refine ⟨.ref la, rfl, .int (atB ll), rfl, sz_2 _ _, fun v1 nv1 => ⟨.int (atB ll), rfl, sz_2 _ _, fun v2 nv2 => ⟨sz_2 _ _, fun lv nlv => ?_⟩⟩⟩
        have s22 := same_new (o := .tup (pairV (.lo, .int (atB ll)))) nv1
        have s23 := same_new (o := .tup (pairV (.lo, .int (atB ll)))) nv2
        have s24 := same_new (o := .lst [.ref v1, .ref v2]) nlv
        have s2224 := s22.trans (s23.trans s24)
        refine ⟨lotD (atB ll), lotD (atB ll), lotD_dp (s2224 _ _ upd_same) (s2224 _ _ (keep _ _ hu1')) (s2224 _ _ (keep _ _ hu2)), lotD_dp upd_same (s24 _ _ (s23 _ _ upd_same)) (s24 _ _ upd_same), lotD_shaped _, lotD_shaped _, _, rfl, ?_⟩
        rw [lotD_eqv]
        have Z6 := Z5.same s2224
        exact iteF ⟨⟨_, _, _, _, _, _, _, _, _, _, _, _, _, rfl⟩, Z6.F, Z6.T⟩
    obtain ⟨t, h1, h2⟩ := build
    exact ⟨t, h1.nox, h2⟩
end
end HL

namespace HL
open PySem PySem.Spec PyProof.Rows L2
open LamX (Tabs TabS TabB LawAtS)
/-- whether an error of the class T is what an except clause of S takes -/
theorem exm_by {K : PySem.W.Frag} {S T : Addr} {b : Bool} (h1 : PySem.W.subIn K (.ref S) (.type "BaseException") = some true) (h2 : PySem.W.isClsIn K S = true) (h3 : PySem.W.typeIn K (.ref S) = some (.type "type"))
    (h4 : PySem.W.subIn K (.ref T) (.ref S) = some b) : PySem.W.exmOne K (.ref T) (.ref S) = some b := by
  have e1 : (PySem.W.subIn K (.ref S) (.type "BaseException") == some true) = true := by rw [h1] <;> rfl
  have e2 : ((PySem.W.clsIn K S).isSome && PySem.W.typeIn K (.ref S) == some (.type "type")) = true := by
    have h2' : (PySem.W.clsIn K S).isSome = true := h2
    rw [h2', h3] <;> rfl
  show (if (PySem.W.subIn K (.ref S) (.type "BaseException") == some true) = true then (if ((PySem.W.clsIn K S).isSome && PySem.W.typeIn K (.ref S) == some (.type "type")) = true then PySem.W.subIn K (.ref T) (.ref S) else none) else none) = some b
  rw [if_pos e1, if_pos e2]
  exact h4
theorem rev_vals {zs : List V} {ws : List Value} (r : Vals zs ws) : Vals zs.reverse ws.reverse := by
  induction r with
  | nil => exact .nil
  | cons r t ih =>
    rw [List.reverse_cons, List.reverse_cons]
    exact ih.append (.cons r .nil)
theorem all_mk {l : PySem.W.OpenLaw} {w : World} {K : PySem.W.Frag} {h : Heap} {mg : Str → Option Value} {fa : Addr} (X : K.In h) (G : h.Ns mainGlobals mg) (hfa : mg "law" = some (.ref fa))
    {f0 : Addr} {oc0 kV0 dc0 pm0 cd0 ct0 : Value} {od0 an0 : Option Addr} {sl0 : Array (Option Value)}
    {f1 : Addr} {oc1 kV1 dc1 pm1 cd1 ct1 : Value} {od1 an1 : Option Addr} {sl1 : Array (Option Value)}
    {f2 : Addr} {oc2 kV2 dc2 pm2 cd2 ct2 : Value} {od2 an2 : Option Addr} {sl2 : Array (Option Value)}
    {f3 : Addr} {oc3 kV3 dc3 pm3 cd3 ct3 : Value} {od3 an3 : Option Addr} {sl3 : Array (Option Value)}
    {f4 : Addr} {oc4 kV4 dc4 pm4 cd4 ct4 : Value} {od4 an4 : Option Addr} {sl4 : Array (Option Value)}
    {f5 : Addr} {oc5 kV5 dc5 pm5 cd5 ct5 : Value} {od5 an5 : Option Addr} {sl5 : Array (Option Value)}
    {f6 : Addr} {oc6 kV6 dc6 pm6 cd6 ct6 : Value} {od6 an6 : Option Addr} {sl6 : Array (Option Value)}
    {f7 : Addr} {oc7 kV7 dc7 pm7 cd7 ct7 : Value} {od7 an7 : Option Addr} {sl7 : Array (Option Value)}
    {f8 : Addr} {oc8 kV8 dc8 pm8 cd8 ct8 : Value} {od8 an8 : Option Addr} {sl8 : Array (Option Value)}
    {f9 : Addr} {oc9 kV9 dc9 pm9 cd9 ct9 : Value} {od9 an9 : Option Addr} {sl9 : Array (Option Value)}
    {f10 : Addr} {oc10 kV10 dc10 pm10 cd10 ct10 : Value} {od10 an10 : Option Addr} {sl10 : Array (Option Value)}
    {f11 : Addr} {oc11 kV11 dc11 pm11 cd11 ct11 : Value} {od11 an11 : Option Addr} {sl11 : Array (Option Value)}
    {f12 : Addr} {oc12 kV12 dc12 pm12 cd12 ct12 : Value} {od12 an12 : Option Addr} {sl12 : Array (Option Value)}
    {f13 : Addr} {oc13 kV13 dc13 pm13 cd13 ct13 : Value} {od13 an13 : Option Addr} {sl13 : Array (Option Value)}
    {f14 : Addr} {oc14 kV14 dc14 pm14 cd14 ct14 : Value} {od14 an14 : Option Addr} {sl14 : Array (Option Value)}
    {f15 : Addr} {oc15 kV15 dc15 pm15 cd15 ct15 : Value} {od15 an15 : Option Addr} {sl15 : Array (Option Value)}
    {f16 : Addr} {oc16 kV16 dc16 pm16 cd16 ct16 : Value} {od16 an16 : Option Addr} {sl16 : Array (Option Value)}
    {f17 : Addr} {oc17 kV17 dc17 pm17 cd17 ct17 : Value} {od17 an17 : Option Addr} {sl17 : Array (Option Value)}
    {f18 : Addr} {oc18 kV18 dc18 pm18 cd18 ct18 : Value} {od18 an18 : Option Addr} {sl18 : Array (Option Value)}
    {f19 : Addr} {oc19 kV19 dc19 pm19 cd19 ct19 : Value} {od19 an19 : Option Addr} {sl19 : Array (Option Value)}
    {f20 : Addr} {oc20 kV20 dc20 pm20 cd20 ct20 : Value} {od20 an20 : Option Addr} {sl20 : Array (Option Value)}
    {f21 : Addr} {oc21 kV21 dc21 pm21 cd21 ct21 : Value} {od21 an21 : Option Addr} {sl21 : Array (Option Value)}
    {fO DO TO0 : Addr} {ocO dcO pmO cdO ctO : Value} {odO anO : Option Addr} {slO slT : Array (Option Value)} {ddT : Option Addr} {nT : Nat}
    {fL cL Pt : Addr} {ocL kVL dcL pmL ctL : Value} {odL anL : Option Addr} {slL : Array (Option Value)}
    {C1 CE1 fI1 N1 : Addr} {nm1 q1 : Str} {bs1 : List Value} {sn1 : List Str} {sub1 : List Value} {ab1 : Bool} {col1 : Option Bool} {dd1 : Option Addr} {m01 m11 m21 m31 m51 : Option Value} {ocI1 kVI1 dcI1 pmI1 cdI1 ctI1 : Value} {odI1 anI1 : Option Addr} {slI1 : Array (Option Value)}
    {C2 CE2 fI2 N2 : Addr} {nm2 q2 : Str} {bs2 : List Value} {sn2 : List Str} {sub2 : List Value} {ab2 : Bool} {col2 : Option Bool} {dd2 : Option Addr} {m02 m12 m22 m32 m52 : Option Value} {ocI2 kVI2 dcI2 pmI2 cdI2 ctI2 : Value} {odI2 anI2 : Option Addr} {slI2 : Array (Option Value)}
    {C3 CE3 fI3 N3 : Addr} {nm3 q3 : Str} {bs3 : List Value} {sn3 : List Str} {sub3 : List Value} {ab3 : Bool} {col3 : Option Bool} {dd3 : Option Addr} {m03 m13 m23 m33 m53 : Option Value} {ocI3 kVI3 dcI3 pmI3 cdI3 ctI3 : Value} {odI3 anI3 : Option Addr} {slI3 : Array (Option Value)}
    {t6 t5 t3 t30 : Tok}
    (hTab : h.get? Pt = some (PySem.W.tabObj #[]))
    (a0 : PySem.W.nsIn K mainGlobals "is_hold" = some (some (.ref f0)))
    (l0 : K.lookup f0 = some ⟨oc0, od0, .func (PySem.W.fnOf "is_hold" "is_hold" (defArgs sIsHold) (defBody sIsHold) (defScope sIsHold) .none kV0 dc0 pm0 an0 cd0 ct0), sl0⟩)
    (c0 : PySem.W.codeIn K cd0 "is_hold" = true)
    (k0 : PySem.W.keepIn K (.ref f0) = true)
    (a1 : PySem.W.nsIn K mainGlobals "look_lot" = some (some (.ref f1)))
    (l1 : K.lookup f1 = some ⟨oc1, od1, .func (PySem.W.fnOf "look_lot" "look_lot" (defArgs sLook) (defBody sLook) (defScope sLook) .none kV1 dc1 pm1 an1 cd1 ct1), sl1⟩)
    (c1 : PySem.W.codeIn K cd1 "look_lot" = true)
    (k1 : PySem.W.keepIn K (.ref f1) = true)
    (a2 : PySem.W.nsIn K mainGlobals "goods_of" = some (some (.ref f2)))
    (l2 : K.lookup f2 = some ⟨oc2, od2, .func (PySem.W.fnOf "goods_of" "goods_of" (defArgs sGoods) (defBody sGoods) (defScope sGoods) .none kV2 dc2 pm2 an2 cd2 ct2), sl2⟩)
    (c2 : PySem.W.codeIn K cd2 "goods_of" = true)
    (k2 : PySem.W.keepIn K (.ref f2) = true)
    (a3 : PySem.W.nsIn K mainGlobals "first_wrong" = some (some (.ref f3)))
    (l3 : K.lookup f3 = some ⟨oc3, od3, .func (PySem.W.fnOf "first_wrong" "first_wrong" (defArgs sFirst) (defBody sFirst) (defScope sFirst) .none kV3 dc3 pm3 an3 cd3 ct3), sl3⟩)
    (c3 : PySem.W.codeIn K cd3 "first_wrong" = true)
    (k3 : PySem.W.keepIn K (.ref f3) = true)
    (a4 : PySem.W.nsIn K mainGlobals "look_bill" = some (some (.ref f4)))
    (l4 : K.lookup f4 = some ⟨oc4, od4, .func (PySem.W.fnOf "look_bill" "look_bill" (defArgs sLookBill) (defBody sLookBill) (defScope sLookBill) .none kV4 dc4 pm4 an4 cd4 ct4), sl4⟩)
    (c4 : PySem.W.codeIn K cd4 "look_bill" = true)
    (k4 : PySem.W.keepIn K (.ref f4) = true)
    (a5 : PySem.W.nsIn K mainGlobals "look_counts" = some (some (.ref f5)))
    (l5 : K.lookup f5 = some ⟨oc5, od5, .func (PySem.W.fnOf "look_counts" "look_counts" (defArgs sLookCounts) (defBody sLookCounts) (defScope sLookCounts) .none kV5 dc5 pm5 an5 cd5 ct5), sl5⟩)
    (c5 : PySem.W.codeIn K cd5 "look_counts" = true)
    (k5 : PySem.W.keepIn K (.ref f5) = true)
    (a6 : PySem.W.nsIn K mainGlobals "packed" = some (some (.ref f6)))
    (l6 : K.lookup f6 = some ⟨oc6, od6, .func (PySem.W.fnOf "packed" "packed" (defArgs sPacked) (defBody sPacked) (defScope sPacked) .none kV6 dc6 pm6 an6 cd6 ct6), sl6⟩)
    (c6 : PySem.W.codeIn K cd6 "packed" = true)
    (k6 : PySem.W.keepIn K (.ref f6) = true)
    (a7 : PySem.W.nsIn K mainGlobals "_law_feed" = some (some (.ref f7)))
    (l7 : K.lookup f7 = some ⟨oc7, od7, .func (PySem.W.fnOf "_law_feed" "_law_feed" (defArgs sFeed) (defBody sFeed) (defScope sFeed) .none kV7 dc7 pm7 an7 cd7 ct7), sl7⟩)
    (c7 : PySem.W.codeIn K cd7 "_law_feed" = true)
    (k7 : PySem.W.keepIn K (.ref f7) = true)
    (a8 : PySem.W.nsIn K mainGlobals "_law_draw" = some (some (.ref f8)))
    (l8 : K.lookup f8 = some ⟨oc8, od8, .func (PySem.W.fnOf "_law_draw" "_law_draw" (defArgs sDraw) (defBody sDraw) (defScope sDraw) .none kV8 dc8 pm8 an8 cd8 ct8), sl8⟩)
    (c8 : PySem.W.codeIn K cd8 "_law_draw" = true)
    (k8 : PySem.W.keepIn K (.ref f8) = true)
    (a9 : PySem.W.nsIn K mainGlobals "_law_pick" = some (some (.ref f9)))
    (l9 : K.lookup f9 = some ⟨oc9, od9, .func (PySem.W.fnOf "_law_pick" "_law_pick" (defArgs sPick) (defBody sPick) (defScope sPick) .none kV9 dc9 pm9 an9 cd9 ct9), sl9⟩)
    (c9 : PySem.W.codeIn K cd9 "_law_pick" = true)
    (k9 : PySem.W.keepIn K (.ref f9) = true)
    (a10 : PySem.W.nsIn K mainGlobals "_law_same" = some (some (.ref f10)))
    (l10 : K.lookup f10 = some ⟨oc10, od10, .func (PySem.W.fnOf "_law_same" "_law_same" (defArgs sSame) (defBody sSame) (defScope sSame) .none kV10 dc10 pm10 an10 cd10 ct10), sl10⟩)
    (c10 : PySem.W.codeIn K cd10 "_law_same" = true)
    (k10 : PySem.W.keepIn K (.ref f10) = true)
    (a11 : PySem.W.nsIn K mainGlobals "_law_great" = some (some (.ref f11)))
    (l11 : K.lookup f11 = some ⟨oc11, od11, .func (PySem.W.fnOf "_law_great" "_law_great" (defArgs sGreat) (defBody sGreat) (defScope sGreat) .none kV11 dc11 pm11 an11 cd11 ct11), sl11⟩)
    (c11 : PySem.W.codeIn K cd11 "_law_great" = true)
    (k11 : PySem.W.keepIn K (.ref f11) = true)
    (a12 : PySem.W.nsIn K mainGlobals "_law_hold" = some (some (.ref f12)))
    (l12 : K.lookup f12 = some ⟨oc12, od12, .func (PySem.W.fnOf "_law_hold" "_law_hold" (defArgs sHold) (defBody sHold) (defScope sHold) .none kV12 dc12 pm12 an12 cd12 ct12), sl12⟩)
    (c12 : PySem.W.codeIn K cd12 "_law_hold" = true)
    (k12 : PySem.W.keepIn K (.ref f12) = true)
    (a13 : PySem.W.nsIn K mainGlobals "_law_lot" = some (some (.ref f13)))
    (l13 : K.lookup f13 = some ⟨oc13, od13, .func (PySem.W.fnOf "_law_lot" "_law_lot" (defArgs sLot) (defBody sLot) (defScope sLot) .none kV13 dc13 pm13 an13 cd13 ct13), sl13⟩)
    (c13 : PySem.W.codeIn K cd13 "_law_lot" = true)
    (k13 : PySem.W.keepIn K (.ref f13) = true)
    (a14 : PySem.W.nsIn K mainGlobals "_law_any_lot" = some (some (.ref f14)))
    (l14 : K.lookup f14 = some ⟨oc14, od14, .func (PySem.W.fnOf "_law_any_lot" "_law_any_lot" (defArgs sAny) (defBody sAny) (defScope sAny) .none kV14 dc14 pm14 an14 cd14 ct14), sl14⟩)
    (c14 : PySem.W.codeIn K cd14 "_law_any_lot" = true)
    (k14 : PySem.W.keepIn K (.ref f14) = true)
    (a15 : PySem.W.nsIn K mainGlobals "_law_plus" = some (some (.ref f15)))
    (l15 : K.lookup f15 = some ⟨oc15, od15, .func (PySem.W.fnOf "_law_plus" "_law_plus" (defArgs sPlus) (defBody sPlus) (defScope sPlus) .none kV15 dc15 pm15 an15 cd15 ct15), sl15⟩)
    (c15 : PySem.W.codeIn K cd15 "_law_plus" = true)
    (k15 : PySem.W.keepIn K (.ref f15) = true)
    (a16 : PySem.W.nsIn K mainGlobals "_law_good" = some (some (.ref f16)))
    (l16 : K.lookup f16 = some ⟨oc16, od16, .func (PySem.W.fnOf "_law_good" "_law_good" (defArgs sGood) (defBody sGood) (defScope sGood) .none kV16 dc16 pm16 an16 cd16 ct16), sl16⟩)
    (c16 : PySem.W.codeIn K cd16 "_law_good" = true)
    (k16 : PySem.W.keepIn K (.ref f16) = true)
    (a17 : PySem.W.nsIn K mainGlobals "_law_goods" = some (some (.ref f17)))
    (l17 : K.lookup f17 = some ⟨oc17, od17, .func (PySem.W.fnOf "_law_goods" "_law_goods" (defArgs sGoodsL) (defBody sGoodsL) (defScope sGoodsL) .none kV17 dc17 pm17 an17 cd17 ct17), sl17⟩)
    (c17 : PySem.W.codeIn K cd17 "_law_goods" = true)
    (k17 : PySem.W.keepIn K (.ref f17) = true)
    (a18 : PySem.W.nsIn K mainGlobals "_law_noughts" = some (some (.ref f18)))
    (l18 : K.lookup f18 = some ⟨oc18, od18, .func (PySem.W.fnOf "_law_noughts" "_law_noughts" (defArgs sNoughts) (defBody sNoughts) (defScope sNoughts) .none kV18 dc18 pm18 an18 cd18 ct18), sl18⟩)
    (c18 : PySem.W.codeIn K cd18 "_law_noughts" = true)
    (k18 : PySem.W.keepIn K (.ref f18) = true)
    (a19 : PySem.W.nsIn K mainGlobals "_law_flaw" = some (some (.ref f19)))
    (l19 : K.lookup f19 = some ⟨oc19, od19, .func (PySem.W.fnOf "_law_flaw" "_law_flaw" (defArgs sFlaw) (defBody sFlaw) (defScope sFlaw) .none kV19 dc19 pm19 an19 cd19 ct19), sl19⟩)
    (c19 : PySem.W.codeIn K cd19 "_law_flaw" = true)
    (k19 : PySem.W.keepIn K (.ref f19) = true)
    (a20 : PySem.W.nsIn K mainGlobals "_law_bent" = some (some (.ref f20)))
    (l20 : K.lookup f20 = some ⟨oc20, od20, .func (PySem.W.fnOf "_law_bent" "_law_bent" (defArgs sBent) (defBody sBent) (defScope sBent) .none kV20 dc20 pm20 an20 cd20 ct20), sl20⟩)
    (c20 : PySem.W.codeIn K cd20 "_law_bent" = true)
    (k20 : PySem.W.keepIn K (.ref f20) = true)
    (a21 : PySem.W.nsIn K mainGlobals "_law_told" = some (some (.ref f21)))
    (l21 : K.lookup f21 = some ⟨oc21, od21, .func (PySem.W.fnOf "_law_told" "_law_told" (defArgs sTold) (defBody sTold) (defScope sTold) .none kV21 dc21 pm21 an21 cd21 ct21), sl21⟩)
    (c21 : PySem.W.codeIn K cd21 "_law_told" = true)
    (k21 : PySem.W.keepIn K (.ref f21) = true)
    (aO : PySem.W.nsIn K mainGlobals "bill_of" = some (some (.ref fO)))
    (lO : K.lookup fO = some ⟨ocO, odO, .func (PySem.W.fnOf "bill_of" "bill_of" (defArgs sBillOf) (defBody sBillOf) (defScope sBillOf) .none (.ref DO) dcO pmO anO cdO ctO), slO⟩)
    (cO : PySem.W.codeIn K cdO "bill_of" = true)
    (kO : PySem.W.keepIn K (.ref fO) = true)
    (nD : PySem.W.nsIn K DO "loose" = some (some (.ref TO0)))
    (lT : K.lookup TO0 = some ⟨.type "tuple", ddT, .seq #[] nT, slT⟩)
    (aL : PySem.W.nsIn K mainGlobals "law" = some (some (.ref fL)))
    (lL : K.lookup fL = some ⟨ocL, odL, .func (PySem.W.fnOf "law" "law" (defArgs sLaw) (defBody sLaw) (defScope sLaw) .none kVL dcL pmL anL (.ref cL) ctL), slL⟩)
    (cdL : PySem.W.codeIn K (.ref cL) "law" = true)
    (nP : K.lookup Pt = none)
    (hd : PySem.W.codeHdIn K cL Pt = true)
    (aC1 : PySem.W.nsIn K mainGlobals "BadLot" = some (some (.ref C1)))
    (xL1 : K.lookup C1 = some (excClassObj nm1 q1 C1 N1 bs1 [.ref CE1, .type "ValueError", .type "Exception", .type "BaseException", .type "object"] true sn1 sub1 ab1 col1 dd1 m01 m11 m21 m31 m51 "ValueError.__new__"))
    (sa1 : PySem.W.findIn K (.ref C1) "__setattr__" = some (some (.builtin "object.__setattr__")))
    (ga1 : PySem.W.findIn K (.ref C1) "__getattribute__" = some (some (.builtin "BaseException.__getattribute__")))
    (gg1 : PySem.W.findIn K (.ref C1) "__getattr__" = some none)
    (nW1 : PySem.W.findIn K (.ref C1) "word" = some none)
    (nF1 : PySem.W.findIn K (.ref C1) "kind" = some none)
    (aI1 : PySem.W.findIn K (.ref C1) "__init__" = some (some (.ref fI1)))
    (tI1 : PySem.W.typeIn K (.ref fI1) = some (.type "function"))
    (lI1 : K.lookup fI1 = some ⟨ocI1, odI1, .func (PySem.W.fnOf "__init__" "BadLot.__init__" (defArgs sBadInit) (defBody sBadInit) (defScope sBadInit) .none kVI1 dcI1 pmI1 anI1 cdI1 ctI1), slI1⟩)
    (cI1 : PySem.W.codeIn K cdI1 "BadLot.__init__" = true)
    (kI1 : PySem.W.keepIn K (.ref fI1) = true)
    (kC1 : PySem.W.keepIn K (.ref C1) = true)
    (eC1 : PySem.W.subIn K (.ref C1) (.type "BaseException") = some true)
    (tC1 : PySem.W.typeIn K (.ref C1) = some (.type "type"))
    (hC1 : PySem.W.hasDictIn K C1 = true)
    (iC1 : PySem.W.isClsIn K C1 = true)
    (aC2 : PySem.W.nsIn K mainGlobals "BadBill" = some (some (.ref C2)))
    (xL2 : K.lookup C2 = some (excClassObj nm2 q2 C2 N2 bs2 [.ref CE2, .type "ValueError", .type "Exception", .type "BaseException", .type "object"] true sn2 sub2 ab2 col2 dd2 m02 m12 m22 m32 m52 "ValueError.__new__"))
    (sa2 : PySem.W.findIn K (.ref C2) "__setattr__" = some (some (.builtin "object.__setattr__")))
    (ga2 : PySem.W.findIn K (.ref C2) "__getattribute__" = some (some (.builtin "BaseException.__getattribute__")))
    (gg2 : PySem.W.findIn K (.ref C2) "__getattr__" = some none)
    (nW2 : PySem.W.findIn K (.ref C2) "word" = some none)
    (nF2 : PySem.W.findIn K (.ref C2) "good" = some none)
    (aI2 : PySem.W.findIn K (.ref C2) "__init__" = some (some (.ref fI2)))
    (tI2 : PySem.W.typeIn K (.ref fI2) = some (.type "function"))
    (lI2 : K.lookup fI2 = some ⟨ocI2, odI2, .func (PySem.W.fnOf "__init__" "BadBill.__init__" (defArgs sBillInit) (defBody sBillInit) (defScope sBillInit) .none kVI2 dcI2 pmI2 anI2 cdI2 ctI2), slI2⟩)
    (cI2 : PySem.W.codeIn K cdI2 "BadBill.__init__" = true)
    (kI2 : PySem.W.keepIn K (.ref fI2) = true)
    (kC2 : PySem.W.keepIn K (.ref C2) = true)
    (eC2 : PySem.W.subIn K (.ref C2) (.type "BaseException") = some true)
    (tC2 : PySem.W.typeIn K (.ref C2) = some (.type "type"))
    (hC2 : PySem.W.hasDictIn K C2 = true)
    (iC2 : PySem.W.isClsIn K C2 = true)
    (aC3 : PySem.W.nsIn K mainGlobals "BadCounts" = some (some (.ref C3)))
    (xL3 : K.lookup C3 = some (excClassObj nm3 q3 C3 N3 bs3 [.ref CE3, .type "ValueError", .type "Exception", .type "BaseException", .type "object"] true sn3 sub3 ab3 col3 dd3 m03 m13 m23 m33 m53 "ValueError.__new__"))
    (sa3 : PySem.W.findIn K (.ref C3) "__setattr__" = some (some (.builtin "object.__setattr__")))
    (ga3 : PySem.W.findIn K (.ref C3) "__getattribute__" = some (some (.builtin "BaseException.__getattribute__")))
    (gg3 : PySem.W.findIn K (.ref C3) "__getattr__" = some none)
    (nW3 : PySem.W.findIn K (.ref C3) "word" = some none)
    (nF3 : PySem.W.findIn K (.ref C3) "kind" = some none)
    (aI3 : PySem.W.findIn K (.ref C3) "__init__" = some (some (.ref fI3)))
    (tI3 : PySem.W.typeIn K (.ref fI3) = some (.type "function"))
    (lI3 : K.lookup fI3 = some ⟨ocI3, odI3, .func (PySem.W.fnOf "__init__" "BadCounts.__init__" (defArgs sCountsInit) (defBody sCountsInit) (defScope sCountsInit) .none kVI3 dcI3 pmI3 anI3 cdI3 ctI3), slI3⟩)
    (cI3 : PySem.W.codeIn K cdI3 "BadCounts.__init__" = true)
    (kI3 : PySem.W.keepIn K (.ref fI3) = true)
    (kC3 : PySem.W.keepIn K (.ref C3) = true)
    (eC3 : PySem.W.subIn K (.ref C3) (.type "BaseException") = some true)
    (tC3 : PySem.W.typeIn K (.ref C3) = some (.type "type"))
    (hC3 : PySem.W.hasDictIn K C3 = true)
    (iC3 : PySem.W.isClsIn K C3 = true)
    (s11 : PySem.W.subIn K (.ref C1) (.ref C1) = some true)
    (s22 : PySem.W.subIn K (.ref C2) (.ref C2) = some true)
    (s33 : PySem.W.subIn K (.ref C3) (.ref C3) = some true)
    (s32 : PySem.W.subIn K (.ref C3) (.ref C2) = some false)
    (s12 : PySem.W.subIn K (.ref C1) (.ref C2) = some false)
    (s13 : PySem.W.subIn K (.ref C1) (.ref C3) = some false)
    (z_len : PySem.W.nsIn K mainGlobals "len" = some none)
    (z_list : PySem.W.nsIn K mainGlobals "list" = some none)
    (z_tuple : PySem.W.nsIn K mainGlobals "tuple" = some none)
    (z_dict : PySem.W.nsIn K mainGlobals "dict" = some none)
    (z_str : PySem.W.nsIn K mainGlobals "str" = some none)
    (z_int : PySem.W.nsIn K mainGlobals "int" = some none)
    (z_bool : PySem.W.nsIn K mainGlobals "bool" = some none)
    (z_isinstance : PySem.W.nsIn K mainGlobals "isinstance" = some none)
    (z_all : PySem.W.nsIn K mainGlobals "all" = some none)
    (z_range : PySem.W.nsIn K mainGlobals "range" = some none)
    (z_sum : PySem.W.nsIn K mainGlobals "sum" = some none)
    (z_min : PySem.W.nsIn K mainGlobals "min" = some none)
    (z_max : PySem.W.nsIn K mainGlobals "max" = some none)
    (z_enumerate : PySem.W.nsIn K mainGlobals "enumerate" = some none)
    (z_zip : PySem.W.nsIn K mainGlobals "zip" = some none)
    (v6 : PySem.W.nsIn K mainGlobals "MOST_HOLD" = some (some (.int 6 t6)))
    (v5 : PySem.W.nsIn K mainGlobals "MOST_KINDS" = some (some (.int 5 t5)))
    (v3 : PySem.W.nsIn K mainGlobals "MOST_GOODS" = some (some (.int 3 t3)))
    (v30 : PySem.W.nsIn K mainGlobals "GREAT" = some (some (.int G30 t30)))
    : LawAtS l w K CX0 9 63 "_law_script" mg fa h := by
  have e := hfa.symm.trans (PySem.W.mg_of X G aL)
  cases e
  have F0 := fun_mk (st := sIsHold) l0 c0 k0
  have b0 := F0.binds (ps := ["hold", "goods"]) fun _ _ _ _ _ _ us hl => match us, hl with | [_, _], _ => rfl
  have g0 := PySem.W.mg_of X G a0
  have F1 := fun_mk (st := sLook) l1 c1 k1
  have b1 := F1.binds (ps := ["lot"]) fun _ _ _ _ _ _ us hl => match us, hl with | [_], _ => rfl
  have g1 := PySem.W.mg_of X G a1
  have F2 := fun_mk (st := sGoods) l2 c2 k2
  have b2 := F2.binds (ps := ["lot"]) fun _ _ _ _ _ _ us hl => match us, hl with | [_], _ => rfl
  have g2 := PySem.W.mg_of X G a2
  have F3 := fun_mk (st := sFirst) l3 c3 k3
  have b3 := F3.binds (ps := ["row", "many"]) fun _ _ _ _ _ _ us hl => match us, hl with | [_, _], _ => rfl
  have g3 := PySem.W.mg_of X G a3
  have F4 := fun_mk (st := sLookBill) l4 c4 k4
  have b4 := F4.binds (ps := ["lot", "bill"]) fun _ _ _ _ _ _ us hl => match us, hl with | [_, _], _ => rfl
  have g4 := PySem.W.mg_of X G a4
  have F5 := fun_mk (st := sLookCounts) l5 c5 k5
  have b5 := F5.binds (ps := ["lot", "counts"]) fun _ _ _ _ _ _ us hl => match us, hl with | [_, _], _ => rfl
  have g5 := PySem.W.mg_of X G a5
  have F6 := fun_mk (st := sPacked) l6 c6 k6
  have b6 := F6.binds (ps := ["lot", "counts", "good"]) fun _ _ _ _ _ _ us hl => match us, hl with | [_, _, _], _ => rfl
  have g6 := PySem.W.mg_of X G a6
  have F7 := fun_mk (st := sFeed) l7 c7 k7
  have b7 := F7.binds (ps := ["_law_script"]) fun _ _ _ _ _ _ us hl => match us, hl with | [_], _ => rfl
  have g7 := PySem.W.mg_of X G a7
  have F8 := fun_mk (st := sDraw) l8 c8 k8
  have b8 := F8.binds (ps := ["_law_feed_here", "_law_many"]) fun _ _ _ _ _ _ us hl => match us, hl with | [_, _], _ => rfl
  have g8 := PySem.W.mg_of X G a8
  have F9 := fun_mk (st := sPick) l9 c9 k9
  have b9 := F9.binds (ps := ["_law_feed_here", "_law_row"]) fun _ _ _ _ _ _ us hl => match us, hl with | [_, _], _ => rfl
  have g9 := PySem.W.mg_of X G a9
  have F10 := fun_mk (st := sSame) l10 c10 k10
  have b10 := F10.binds (ps := ["_law_found", "_law_due"]) fun _ _ _ _ _ _ us hl => match us, hl with | [_, _], _ => rfl
  have g10 := PySem.W.mg_of X G a10
  have F11 := fun_mk (st := sGreat) l11 c11 k11
  have b11 := F11.binds (ps := ["_law_feed_here"]) fun _ _ _ _ _ _ us hl => match us, hl with | [_], _ => rfl
  have g11 := PySem.W.mg_of X G a11
  have F12 := fun_mk (st := sHold) l12 c12 k12
  have b12 := F12.binds (ps := ["_law_feed_here", "_law_goods_here", "_law_most"]) fun _ _ _ _ _ _ us hl => match us, hl with | [_, _, _], _ => rfl
  have g12 := PySem.W.mg_of X G a12
  have F13 := fun_mk (st := sLot) l13 c13 k13
  have b13 := F13.binds (ps := ["_law_feed_here", "_law_goods_here", "_law_kinds", "_law_most"]) fun _ _ _ _ _ _ us hl => match us, hl with | [_, _, _, _], _ => rfl
  have g13 := PySem.W.mg_of X G a13
  have F14 := fun_mk (st := sAny) l14 c14 k14
  have b14 := F14.binds (ps := ["_law_feed_here"]) fun _ _ _ _ _ _ us hl => match us, hl with | [_], _ => rfl
  have g14 := PySem.W.mg_of X G a14
  have F15 := fun_mk (st := sPlus) l15 c15 k15
  have b15 := F15.binds (ps := ["_law_one", "_law_other"]) fun _ _ _ _ _ _ us hl => match us, hl with | [_, _], _ => rfl
  have g15 := PySem.W.mg_of X G a15
  have F16 := fun_mk (st := sGood) l16 c16 k16
  have b16 := F16.binds (ps := ["_law_mlot", "_law_mcounts", "_law_good_here"]) fun _ _ _ _ _ _ us hl => match us, hl with | [_, _, _], _ => rfl
  have g16 := PySem.W.mg_of X G a16
  have F17 := fun_mk (st := sGoodsL) l17 c17 k17
  have b17 := F17.binds (ps := ["_law_mlot", "_law_mcounts"]) fun _ _ _ _ _ _ us hl => match us, hl with | [_, _], _ => rfl
  have g17 := PySem.W.mg_of X G a17
  have F18 := fun_mk (st := sNoughts) l18 c18 k18
  have b18 := F18.binds (ps := ["_law_many"]) fun _ _ _ _ _ _ us hl => match us, hl with | [_], _ => rfl
  have g18 := PySem.W.mg_of X G a18
  have F19 := fun_mk (st := sFlaw) l19 c19 k19
  have b19 := F19.binds (ps := ["_law_row", "_law_many"]) fun _ _ _ _ _ _ us hl => match us, hl with | [_, _], _ => rfl
  have g19 := PySem.W.mg_of X G a19
  have F20 := fun_mk (st := sBent) l20 c20 k20
  have b20 := F20.binds (ps := ["_law_feed_here", "_law_row"]) fun _ _ _ _ _ _ us hl => match us, hl with | [_, _], _ => rfl
  have g20 := PySem.W.mg_of X G a20
  have F21 := fun_mk (st := sTold) l21 c21 k21
  have b21 := F21.binds (ps := ["_law_ask"]) fun _ _ _ _ _ _ us hl => match us, hl with | [_], _ => rfl
  have g21 := PySem.W.mg_of X G a21
  have FI1 := fun_mk (st := sBadInit) lI1 cI1 kI1
  have bI1 := FI1.binds (ps := ["self", "kind"]) fun _ _ _ _ _ _ us hl => match us, hl with | [_, _], _ => rfl
  have ox1 : OexC K C1 := ⟨⟨nm1, q1, N1, bs1, _, sn1, sub1, ab1, col1, dd1, m01, m11, m21, m31, m51, xL1, (show PySem.HandSPX.refsVE [.type "ValueError", .type "Exception", .type "BaseException", .type "object"] = true by decide +kernel)⟩, sa1, eC1, tC1, kC1⟩
  have kk1 : Cls2 K C1 "kind" := ⟨ox1, nW1, nF1⟩
  have FI2 := fun_mk (st := sBillInit) lI2 cI2 kI2
  have bI2 := FI2.binds (ps := ["self", "good"]) fun _ _ _ _ _ _ us hl => match us, hl with | [_, _], _ => rfl
  have ox2 : OexC K C2 := ⟨⟨nm2, q2, N2, bs2, _, sn2, sub2, ab2, col2, dd2, m02, m12, m22, m32, m52, xL2, (show PySem.HandSPX.refsVE [.type "ValueError", .type "Exception", .type "BaseException", .type "object"] = true by decide +kernel)⟩, sa2, eC2, tC2, kC2⟩
  have kk2 : Cls2 K C2 "good" := ⟨ox2, nW2, nF2⟩
  have FI3 := fun_mk (st := sCountsInit) lI3 cI3 kI3
  have bI3 := FI3.binds (ps := ["self", "kind"]) fun _ _ _ _ _ _ us hl => match us, hl with | [_, _], _ => rfl
  have ox3 : OexC K C3 := ⟨⟨nm3, q3, N3, bs3, _, sn3, sub3, ab3, col3, dd3, m03, m13, m23, m33, m53, xL3, (show PySem.HandSPX.refsVE [.type "ValueError", .type "Exception", .type "BaseException", .type "object"] = true by decide +kernel)⟩, sa3, eC3, tC3, kC3⟩
  have kk3 : Cls2 K C3 "kind" := ⟨ox3, nW3, nF3⟩
  have B : Bl mg := ⟨PySem.W.mg_none_of X G z_len, PySem.W.mg_none_of X G z_list, PySem.W.mg_none_of X G z_tuple, PySem.W.mg_none_of X G z_dict, PySem.W.mg_none_of X G z_str, PySem.W.mg_none_of X G z_int, PySem.W.mg_none_of X G z_bool, PySem.W.mg_none_of X G z_isinstance, PySem.W.mg_none_of X G z_all, PySem.W.mg_none_of X G z_range, PySem.W.mg_none_of X G z_sum, PySem.W.mg_none_of X G z_min, PySem.W.mg_none_of X G z_max, PySem.W.mg_none_of X G z_enumerate⟩
  have M : Consts mg := ⟨⟨_, PySem.W.mg_of X G v6⟩, ⟨_, PySem.W.mg_of X G v5⟩, ⟨_, PySem.W.mg_of X G v3⟩⟩
  have kwO : KwdV K (.ref DO) [("loose", .ref TO0)] := .inr ⟨DO, rfl, fun q hq => by
    rw [List.mem_singleton.mp hq]
    exact ⟨_, nD, rfl⟩⟩
  have FO : FunD K "bill_of" "bill_of" (defArgs sBillOf) (defBody sBillOf) (defScope sBillOf) [] [("loose", .ref TO0)] fO (PySem.W.fnOf "bill_of" "bill_of" (defArgs sBillOf) (defBody sBillOf) (defScope sBillOf) .none (.ref DO) dcO pmO anO cdO ctO) :=
    ⟨⟨ocO, odO, .none, .ref DO, dcO, pmO, anO, cdO, ctO, slO, rfl, lO, cO, .inl ⟨rfl, rfl⟩, kwO⟩, kO⟩
  obtain ⟨dsO, rdO, bO⟩ := FO.binds0 (ps := ["lot", "counts", "loose"]) 2 (by simp) rfl (fun D doc pm an cdv ct us ks h1 h2 => by
    match us, ks, h1, h2 with
    | [u1, u2], [k1], _, _ => exact ⟨_, _, _, _, _, _, rfl, rfl, rfl⟩)
  have edO : dsO = [.ref TO0] := Vals.ref1 rdO
  subst edO
  have kb1 : KBn K (PySem.W.fnOf "bill_of" "bill_of" (defArgs sBillOf) (defBody sBillOf) (defScope sBillOf) .none (.ref DO) dcO pmO anO cdO ctO) ["lot", "counts", "loose"] 2 ["loose"] (fun us ws => us ++ ws) (fun vs zs => vs ++ zs) := ⟨fun s us ws _ h1 h2 => by
    match us, ws, h1, h2 with
    | [u1, u2], [w1], _, _ => exact .of_eq rfl, fun r1 r2 => r1.append r2⟩
  have kb2 : KBn K (PySem.W.fnOf "bill_of" "bill_of" (defArgs sBillOf) (defBody sBillOf) (defScope sBillOf) .none (.ref DO) dcO pmO anO cdO ctO) ["lot", "counts", "loose"] 0 ["loose", "counts", "lot"] (fun _ ws => ws.reverse) (fun _ zs => zs.reverse) := ⟨fun s us ws _ h1 h2 => by
    match us, ws, h1, h2 with
    | [], [w1, w2, w3], _, _ => exact .of_eq rfl, fun _ r => rev_vals r⟩
  refine ⟨PySem.W.fnOf "law" "law" (defArgs sLaw) (defBody sLaw) (defScope sLaw) .none kVL dcL pmL anL (.ref cL) ctL, [(cL, Pt)], spLaw K Pt, fun p hp => ?_, fun p hp => ?_, fun p hp => ?_, fun s u => .of_eq rfl, fun H a ns hl _ hH hS => ⟨a, ns, rfl, hS, hl, fun p hp => ?_, fun _ => rfl⟩, fun base KB GB TB => ?_⟩
  · rw [List.mem_singleton.mp hp]; exact hTab
  · rw [List.mem_singleton.mp hp]; exact nP
  · rw [List.mem_singleton.mp hp]; exact PySem.W.codeHd_of_K X hd
  · rw [List.mem_singleton.mp hp]; exact TabS.nil (hH (cL, Pt) List.mem_cons_self)
  · have Tb := TB (cL, Pt) List.mem_cons_self
    have cDraw : Cal l.prog w K mg base CX0 1 "_law_draw" ["_law_feed_here", "_law_many"] spDraw := ⟨⟨f8, _, ok_draw F8 B.len, g8, k8, b8⟩⟩
    have cPick : Cal l.prog w K mg base CX0 2 "_law_pick" ["_law_feed_here", "_law_row"] spPick := ⟨⟨f9, _, ok_pick F9 B.len cDraw, g9, k9, b9⟩⟩
    have cHold : Cal l.prog w K mg base CX0 2 "_law_hold" ["_law_feed_here", "_law_goods_here", "_law_most"] spHold := ⟨⟨f12, _, ok_hold F12 B cDraw, g12, k12, b12⟩⟩
    have cLot : Cal l.prog w K mg base CX0 3 "_law_lot" ["_law_feed_here", "_law_goods_here", "_law_kinds", "_law_most"] spLot := ⟨⟨f13, _, ok_lot F13 B cDraw cHold, g13, k13, b13⟩⟩
    have cIH : Cal l.prog w K mg base CX0 1 "is_hold" ["hold", "goods"] spIsHold := ⟨⟨f0, _, ok_isHold F0 B M, g0, k0, b0⟩⟩
    have bad1 : BadTxt l.prog w K mg base "BadLot" C1 "kind" "bad lot" := ⟨kk1, PySem.W.mg_of X G aC1, fI1, _, aI1, tI1, ok_badInit FI1 kk1, bI1⟩
    have bad2 : BadTxt l.prog w K mg base "BadBill" C2 "good" "bad bill" := ⟨kk2, PySem.W.mg_of X G aC2, fI2, _, aI2, tI2, ok_billInit FI2 kk2, bI2⟩
    have bad3 : BadTxt l.prog w K mg base "BadCounts" C3 "kind" "bad counts" := ⟨kk3, PySem.W.mg_of X G aC3, fI3, _, aI3, tI3, ok_countsInit FI3 kk3, bI3⟩
    have cLk : Cal l.prog w K mg base (L2.CX l.prog w) 3 "look_lot" ["lot"] (spLook C1) := ⟨⟨f1, _, ok_look F1 B M bad1 cIH, g1, k1, b1⟩⟩
    have cGo : Cal l.prog w K mg base (L2.CX l.prog w) 4 "goods_of" ["lot"] (spGoods C1) := ⟨⟨f2, _, ok_goods F2 B cLk, g2, k2, b2⟩⟩
    have cFi : Cal l.prog w K mg base CX0 1 "first_wrong" ["row", "many"] (spFirst K) := ⟨⟨f3, _, ok_first F3 B ⟨_, PySem.W.mg_of X G v30⟩, g3, k3, b3⟩⟩
    have cLB : Cal l.prog w K mg base (L2.CX l.prog w) 5 "look_bill" ["lot", "bill"] (spLookBill K C1 C2) := ⟨⟨f4, _, ok_lookBill F4 bad2 cFi cGo, g4, k4, b4⟩⟩
    have cLC : Cal l.prog w K mg base (L2.CX l.prog w) 4 "look_counts" ["lot", "counts"] (spLookCounts K C1 C3) := ⟨⟨f5, _, ok_lookCounts F5 B bad3 cFi cLk, g5, k5, b5⟩⟩
    have cPk : Cal l.prog w K mg base CX0 1 "packed" ["lot", "counts", "good"] (spPacked K) := ⟨⟨f6, _, ok_packed F6 B (PySem.W.mg_none_of X G z_zip), g6, k6, b6⟩⟩
    have cGd : Cal l.prog w K mg base CX0 1 "_law_good" ["_law_mlot", "_law_mcounts", "_law_good_here"] spGood := ⟨⟨f16, _, ok_good F16 B, g16, k16, b16⟩⟩
    have T : Txt l.prog w K mg base C1 C2 C3 := {
        B := B
        feed := ⟨⟨f7, _, ok_feed F7 B.list, g7, k7, b7⟩⟩
        any := ⟨⟨f14, _, ok_any F14 cDraw cPick cLot, g14, k14, b14⟩⟩
        great := ⟨⟨f11, _, ok_great F11 cDraw cPick, g11, k11, b11⟩⟩
        be := ⟨⟨f20, _, ok_be F20 B cDraw cPick, g20, k20, b20⟩⟩
        fw := ⟨⟨f19, _, (ok_fw (K := K) F19 B).imp (fun vs H Q E ⟨a, m, row, e1, e2, e3, e4⟩ => ⟨a, m, row, e1, e2, e3, by rw [wrongV_opt]; exact e4⟩), g19, k19, b19⟩⟩
        no := ⟨⟨f18, _, ok_noughts F18, g18, k18, b18⟩⟩
        plus := ⟨⟨f15, _, ok_plus F15 B, g15, k15, b15⟩⟩
        goodsL := ⟨⟨f17, _, ok_goodsL F17 B cGd, g17, k17, b17⟩⟩
        same1 := ⟨⟨f10, _, ok_same F10 B g10 b10 1, g10, k10, b10⟩⟩
        same2 := ⟨⟨f10, _, ok_same F10 B g10 b10 2, g10, k10, b10⟩⟩
        lookB := cLB
        billO := ⟨fO, _, TO0, ok_billOf FO B cLC cGo cLB cPk, PySem.W.mg_of X G aO, kO, bO, fun H => .inr ⟨_, #[], nT, lT, rfl, rfl, by decide, .nil⟩, kb1, kb2⟩
        told := ⟨f21, oc21, od21, kV21, dc21, pm21, an21, cd21, ct21, sl21, g21, k21, l21, c21, b21⟩
        cls := {
          gC := PySem.W.mg_of X G aC1
          gB := PySem.W.mg_of X G aC2
          gCC := PySem.W.mg_of X G aC3
          xC := ⟨ga1, gg1, eC1, hC1⟩
          xB := ⟨ga2, gg2, eC2, hC2⟩
          xCC := ⟨ga3, gg3, eC3, hC3⟩
          nC := nF1
          nB := nF2
          nCC := nF3
          bb := exm_by eC2 iC2 tC2 s22
          cb := exm_by eC2 iC2 tC2 s32
          cc := exm_by eC3 iC3 tC3 s33
          lb := exm_by eC2 iC2 tC2 s12
          lc := exm_by eC3 iC3 tC3 s13
          ll := exm_by eC1 iC1 tC1 s11 } }
    exact ok_law lL cdL T Tb
end HL

open PySem PySem.W PyProof.Rows
set_option maxHeartbeats 0 in
theorem PySem.Challenge.cw_hamperlot_k02_bills_judged_holds : PySem.Challenge.rw_hamperlot_k02_bills_judged.Holds := by
  w_on; o_law; k_head; (case hw => w_witness2)
  k_fill
  refine LamX.walk_ofTs (l := PySem.Challenge.rw_hamperlot_k02_bills_judged) (n := 63) (k := 9) (x := "_law_script") (CX := fun _ => L2.CX0) rfl (by decide) rfl ⟨rfl, by decide, by decide⟩ (fun w h Y => PySem.W.km_in_of Y) ?F (fun _ _ _ _ _ h => h)
  case F =>
    intro w mg fa h Y KX G hmg
    refine' HL.all_mk KX G hmg (PySem.W.km_tabs_of Y _ List.mem_cons_self) ?a0 ?l0 ?c0 ?k0 ?a1 ?l1 ?c1 ?k1 ?a2 ?l2 ?c2 ?k2 ?a3 ?l3 ?c3 ?k3 ?a4 ?l4 ?c4 ?k4 ?a5 ?l5 ?c5 ?k5 ?a6 ?l6 ?c6 ?k6 ?a7 ?l7 ?c7 ?k7 ?a8 ?l8 ?c8 ?k8 ?a9 ?l9 ?c9 ?k9 ?a10 ?l10 ?c10 ?k10 ?a11 ?l11 ?c11 ?k11 ?a12 ?l12 ?c12 ?k12 ?a13 ?l13 ?c13 ?k13 ?a14 ?l14 ?c14 ?k14 ?a15 ?l15 ?c15 ?k15 ?a16 ?l16 ?c16 ?k16 ?a17 ?l17 ?c17 ?k17 ?a18 ?l18 ?c18 ?k18 ?a19 ?l19 ?c19 ?k19 ?a20 ?l20 ?c20 ?k20 ?a21 ?l21 ?c21 ?k21 ?aO ?lO ?cO ?kO ?nD ?lT ?aL ?lL ?cdL ?nP ?hd ?aC1 ?xL1 ?sa1 ?ga1 ?gg1 ?nW1 ?nF1 ?aI1 ?tI1 ?lI1 ?cI1 ?kI1 ?kC1 ?eC1 ?tC1 ?hC1 ?iC1 ?aC2 ?xL2 ?sa2 ?ga2 ?gg2 ?nW2 ?nF2 ?aI2 ?tI2 ?lI2 ?cI2 ?kI2 ?kC2 ?eC2 ?tC2 ?hC2 ?iC2 ?aC3 ?xL3 ?sa3 ?ga3 ?gg3 ?nW3 ?nF3 ?aI3 ?tI3 ?lI3 ?cI3 ?kI3 ?kC3 ?eC3 ?tC3 ?hC3 ?iC3 ?s11 ?s22 ?s33 ?s32 ?s12 ?s13 ?z_len ?z_list ?z_tuple ?z_dict ?z_str ?z_int ?z_bool ?z_isinstance ?z_all ?z_range ?z_sum ?z_min ?z_max ?z_enumerate ?z_zip ?v6 ?v5 ?v3 ?v30
    (case a0 => first | k_is | rfl)
    (case l0 => first | k_is | rfl)
    (case c0 => first | k_is | rfl)
    (case k0 => first | k_is | rfl)
    (case a1 => first | k_is | rfl)
    (case l1 => first | k_is | rfl)
    (case c1 => first | k_is | rfl)
    (case k1 => first | k_is | rfl)
    (case a2 => first | k_is | rfl)
    (case l2 => first | k_is | rfl)
    (case c2 => first | k_is | rfl)
    (case k2 => first | k_is | rfl)
    (case a3 => first | k_is | rfl)
    (case l3 => first | k_is | rfl)
    (case c3 => first | k_is | rfl)
    (case k3 => first | k_is | rfl)
    (case a4 => first | k_is | rfl)
    (case l4 => first | k_is | rfl)
    (case c4 => first | k_is | rfl)
    (case k4 => first | k_is | rfl)
    (case a5 => first | k_is | rfl)
    (case l5 => first | k_is | rfl)
    (case c5 => first | k_is | rfl)
    (case k5 => first | k_is | rfl)
    (case a6 => first | k_is | rfl)
    (case l6 => first | k_is | rfl)
    (case c6 => first | k_is | rfl)
    (case k6 => first | k_is | rfl)
    (case a7 => first | k_is | rfl)
    (case l7 => first | k_is | rfl)
    (case c7 => first | k_is | rfl)
    (case k7 => first | k_is | rfl)
    (case a8 => first | k_is | rfl)
    (case l8 => first | k_is | rfl)
    (case c8 => first | k_is | rfl)
    (case k8 => first | k_is | rfl)
    (case a9 => first | k_is | rfl)
    (case l9 => first | k_is | rfl)
    (case c9 => first | k_is | rfl)
    (case k9 => first | k_is | rfl)
    (case a10 => first | k_is | rfl)
    (case l10 => first | k_is | rfl)
    (case c10 => first | k_is | rfl)
    (case k10 => first | k_is | rfl)
    (case a11 => first | k_is | rfl)
    (case l11 => first | k_is | rfl)
    (case c11 => first | k_is | rfl)
    (case k11 => first | k_is | rfl)
    (case a12 => first | k_is | rfl)
    (case l12 => first | k_is | rfl)
    (case c12 => first | k_is | rfl)
    (case k12 => first | k_is | rfl)
    (case a13 => first | k_is | rfl)
    (case l13 => first | k_is | rfl)
    (case c13 => first | k_is | rfl)
    (case k13 => first | k_is | rfl)
    (case a14 => first | k_is | rfl)
    (case l14 => first | k_is | rfl)
    (case c14 => first | k_is | rfl)
    (case k14 => first | k_is | rfl)
    (case a15 => first | k_is | rfl)
    (case l15 => first | k_is | rfl)
    (case c15 => first | k_is | rfl)
    (case k15 => first | k_is | rfl)
    (case a16 => first | k_is | rfl)
    (case l16 => first | k_is | rfl)
    (case c16 => first | k_is | rfl)
    (case k16 => first | k_is | rfl)
    (case a17 => first | k_is | rfl)
    (case l17 => first | k_is | rfl)
    (case c17 => first | k_is | rfl)
    (case k17 => first | k_is | rfl)
    (case a18 => first | k_is | rfl)
    (case l18 => first | k_is | rfl)
    (case c18 => first | k_is | rfl)
    (case k18 => first | k_is | rfl)
    (case a19 => first | k_is | rfl)
    (case l19 => first | k_is | rfl)
    (case c19 => first | k_is | rfl)
    (case k19 => first | k_is | rfl)
    (case a20 => first | k_is | rfl)
    (case l20 => first | k_is | rfl)
    (case c20 => first | k_is | rfl)
    (case k20 => first | k_is | rfl)
    (case a21 => first | k_is | rfl)
    (case l21 => first | k_is | rfl)
    (case c21 => first | k_is | rfl)
    (case k21 => first | k_is | rfl)
    (case aO => first | k_is | rfl)
    (case lO => first | k_is | rfl)
    (case cO => first | k_is | rfl)
    (case kO => first | k_is | rfl)
    (case nD => first | k_is | rfl)
    (case lT => first | k_is | rfl)
    (case aL => first | k_is | rfl)
    (case lL => first | k_is | rfl)
    (case cdL => first | k_is | rfl)
    (case nP => first | k_is | rfl)
    (case hd => first | k_is | rfl)
    (case aC1 => first | k_is | rfl)
    (case xL1 => first | k_is | rfl)
    (case sa1 => first | k_is | rfl)
    (case ga1 => first | k_is | rfl)
    (case gg1 => first | k_is | rfl)
    (case nW1 => first | k_is | rfl)
    (case nF1 => first | k_is | rfl)
    (case aI1 => first | k_is | rfl)
    (case tI1 => first | k_is | rfl)
    (case lI1 => first | k_is | rfl)
    (case cI1 => first | k_is | rfl)
    (case kI1 => first | k_is | rfl)
    (case kC1 => first | k_is | rfl)
    (case eC1 => first | k_is | rfl)
    (case tC1 => first | k_is | rfl)
    (case hC1 => first | k_is | rfl)
    (case iC1 => first | k_is | rfl)
    (case aC2 => first | k_is | rfl)
    (case xL2 => first | k_is | rfl)
    (case sa2 => first | k_is | rfl)
    (case ga2 => first | k_is | rfl)
    (case gg2 => first | k_is | rfl)
    (case nW2 => first | k_is | rfl)
    (case nF2 => first | k_is | rfl)
    (case aI2 => first | k_is | rfl)
    (case tI2 => first | k_is | rfl)
    (case lI2 => first | k_is | rfl)
    (case cI2 => first | k_is | rfl)
    (case kI2 => first | k_is | rfl)
    (case kC2 => first | k_is | rfl)
    (case eC2 => first | k_is | rfl)
    (case tC2 => first | k_is | rfl)
    (case hC2 => first | k_is | rfl)
    (case iC2 => first | k_is | rfl)
    (case aC3 => first | k_is | rfl)
    (case xL3 => first | k_is | rfl)
    (case sa3 => first | k_is | rfl)
    (case ga3 => first | k_is | rfl)
    (case gg3 => first | k_is | rfl)
    (case nW3 => first | k_is | rfl)
    (case nF3 => first | k_is | rfl)
    (case aI3 => first | k_is | rfl)
    (case tI3 => first | k_is | rfl)
    (case lI3 => first | k_is | rfl)
    (case cI3 => first | k_is | rfl)
    (case kI3 => first | k_is | rfl)
    (case kC3 => first | k_is | rfl)
    (case eC3 => first | k_is | rfl)
    (case tC3 => first | k_is | rfl)
    (case hC3 => first | k_is | rfl)
    (case iC3 => first | k_is | rfl)
    (case s11 => first | k_is | rfl)
    (case s22 => first | k_is | rfl)
    (case s33 => first | k_is | rfl)
    (case s32 => first | k_is | rfl)
    (case s12 => first | k_is | rfl)
    (case s13 => first | k_is | rfl)
    (case z_len => first | k_is | rfl)
    (case z_list => first | k_is | rfl)
    (case z_tuple => first | k_is | rfl)
    (case z_dict => first | k_is | rfl)
    (case z_str => first | k_is | rfl)
    (case z_int => first | k_is | rfl)
    (case z_bool => first | k_is | rfl)
    (case z_isinstance => first | k_is | rfl)
    (case z_all => first | k_is | rfl)
    (case z_range => first | k_is | rfl)
    (case z_sum => first | k_is | rfl)
    (case z_min => first | k_is | rfl)
    (case z_max => first | k_is | rfl)
    (case z_enumerate => first | k_is | rfl)
    (case z_zip => first | k_is | rfl)
    (case v6 => first | k_is | rfl)
    (case v5 => first | k_is | rfl)
    (case v3 => first | k_is | rfl)
    (case v30 => first | k_is | rfl)

