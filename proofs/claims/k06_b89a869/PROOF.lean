import PyProof.Rows.All
import Wide.All
import OpenK.AllK
import Wide.FinOn
import PySem.Challenge.RW_hamperlot_k06_lots_written_and_read
import HandS.ForMost
import HandS.Exc
import HandS.TryOnly
import HandS.ExcInit
import HandS.ExcField
import HandS.WordsExc
import HandS.Lambda
import HandS.EndTab
import HandS.IsInst
import HandS.TupMul
import HandS.TupAny
import HandS.Walk
import HandS.Defaults
import KE.KTupSum
import KE.DatumOrd
import KE.GoesEnum
import HandS.TryMany
import HandS.Wide
import HandS.Zip
import HandS.SortInts
import HandS.Conv
import HandS.Text
import HandS.StrMore
import HandS.Codes
import KE.GoesComp
import KE.GoesRaise
import HandS.Comp
import HandS.Deep
import HandS.Style
import KE.KNestM
set_option Elab.async false
set_option linter.all false
set_option maxRecDepth 100000
set_option maxHeartbeats 4000000
/-! Rules of one's own beside the layer's: sum, max, min of a tuple of ints; enumerate of a tuple; a tuple times 1. -/
namespace HL
open PySem PySem.Spec PyProof.Rows L2
section
variable {X : Cx}
theorem tupI {pins : List (Addr × Obj)} {σ : L2.St} {H : Hp} {s : Shared} {a : Addr} {ns : List Int} (I : Inv X pins σ H s) (h : SqT X.K H a (ns.map V.int)) :
    ∃ its : List Value, IntsAre its ns ∧ s.heap.IsTuple a its.toArray := by
  obtain ⟨its, rv, ⟨o, ho, hc, n, hd⟩, _⟩ := I.tuple h
  exact ⟨its, rv.ints, o, ho, hc, n, hd⟩
/-- sum(t) -/
def rSumT (K : PySem.W.Frag) : List V → Hp → VK → Prop := fun vs H Q =>
  ∃ (a : Addr) (ns : List Int), vs = [V.ref a] ∧ SqT K H a (ns.map V.int) ∧ Q (.int ns.sum) H
theorem cr_sumT (hc : X.calm = true) : CallR X (.builtin "sum") (rSumT X.K) := by
  intro pins s σ H vs us Q I r h
  obtain ⟨a, ns, rfl, hs, q⟩ := h
  obtain ⟨its, hi, hl⟩ := tupI I hs
  rw [Vals.ref1 r]
  obtain ⟨xs, e⟩ := hi.allInts.items
  have hn : numsOf (intItems xs).toList = ns := by
    rw [← e]
    exact hi.numsOf
  rw [nums_intItems] at hn
  rw [e] at hl
  refine PySem.W.ktm_sumG (I.ok.hd hc) hl fun h' tk t' hk => ?_
  rw [preSum_eq]
  rw [List.take_of_length_le (by simp), hn]
  exact ⟨.int _, H, I.kept hk, ⟨_, rfl⟩, q⟩
theorem maxOf_le (x : Int) (xs : List Int) : PySem.W.maxOf x xs ∈ x :: xs ∧ ∀ y ∈ x :: xs, y ≤ PySem.W.maxOf x xs := by
  induction xs generalizing x with
  | nil => exact ⟨List.mem_cons_self, fun y hy => by simp at hy; subst hy; exact Int.le_refl _⟩
  | cons z zs ih =>
    have e : PySem.W.maxOf x (z :: zs) = PySem.W.maxOf (if PySem.W.DatumOrd.lt x z = true then z else x) zs := rfl
    have d : (PySem.W.DatumOrd.lt x z = true) ↔ x < z := by
      show decide (x < z) = true ↔ x < z
      exact decide_eq_true_iff
    rw [e]
    by_cases c : x < z
    · rw [if_pos (d.mpr c)]
      obtain ⟨h1, h2⟩ := ih z
      refine ⟨List.mem_cons_of_mem _ h1, fun y hy => ?_⟩
      rcases List.mem_cons.mp hy with r | r
      · have := h2 z List.mem_cons_self
        omega
      · exact h2 y r
    · rw [if_neg (fun q => c (d.mp q))]
      obtain ⟨h1, h2⟩ := ih x
      refine ⟨?_, fun y hy => ?_⟩
      · rcases List.mem_cons.mp h1 with r | r
        · rw [r]; exact List.mem_cons_self
        · exact List.mem_cons_of_mem _ (List.mem_cons_of_mem _ r)
      · rcases List.mem_cons.mp hy with r | r
        · have := h2 x List.mem_cons_self
          omega
        · rcases List.mem_cons.mp r with r | r
          · have := h2 x List.mem_cons_self
            omega
          · exact h2 y (List.mem_cons_of_mem _ r)
theorem minOf_le (x : Int) (xs : List Int) : PySem.W.minOf x xs ∈ x :: xs ∧ ∀ y ∈ x :: xs, PySem.W.minOf x xs ≤ y := by
  induction xs generalizing x with
  | nil => exact ⟨List.mem_cons_self, fun y hy => by simp at hy; subst hy; exact Int.le_refl _⟩
  | cons z zs ih =>
    have e : PySem.W.minOf x (z :: zs) = PySem.W.minOf (if PySem.W.DatumOrd.lt z x = true then z else x) zs := rfl
    have d : (PySem.W.DatumOrd.lt z x = true) ↔ z < x := by
      show decide (z < x) = true ↔ z < x
      exact decide_eq_true_iff
    rw [e]
    by_cases c : z < x
    · rw [if_pos (d.mpr c)]
      obtain ⟨h1, h2⟩ := ih z
      refine ⟨List.mem_cons_of_mem _ h1, fun y hy => ?_⟩
      rcases List.mem_cons.mp hy with r | r
      · have := h2 z List.mem_cons_self
        omega
      · exact h2 y r
    · rw [if_neg (fun q => c (d.mp q))]
      obtain ⟨h1, h2⟩ := ih x
      refine ⟨?_, fun y hy => ?_⟩
      · rcases List.mem_cons.mp h1 with r | r
        · rw [r]; exact List.mem_cons_self
        · exact List.mem_cons_of_mem _ (List.mem_cons_of_mem _ r)
      · rcases List.mem_cons.mp hy with r | r
        · have := h2 x List.mem_cons_self
          omega
        · rcases List.mem_cons.mp r with r | r
          · have := h2 x List.mem_cons_self
            omega
          · exact h2 y (List.mem_cons_of_mem _ r)
/-- max(t), min(t) of ints -/
def rMaxT (K : PySem.W.Frag) : List V → Hp → VK → Prop := fun vs H Q =>
  ∃ (a : Addr) (ns : List Int), vs = [V.ref a] ∧ SqT K H a (ns.map V.int) ∧ 0 < ns.length ∧ ∀ m, m ∈ ns → (∀ y ∈ ns, y ≤ m) → Q (.int m) H
def rMinT (K : PySem.W.Frag) : List V → Hp → VK → Prop := fun vs H Q =>
  ∃ (a : Addr) (ns : List Int), vs = [V.ref a] ∧ SqT K H a (ns.map V.int) ∧ 0 < ns.length ∧ ∀ m, m ∈ ns → (∀ y ∈ ns, m ≤ y) → Q (.int m) H
theorem int_of_holds {h : Heap} {v : Value} {x : Int} (H : PySem.W.Holds h v x) : ∃ t, v = Value.int x t := by
  have z := PySem.W.HoldAll.toInts (PySem.W.HoldAll.cons H PySem.W.HoldAll.nil)
  cases z with
  | cons n t z => exact ⟨t, rfl⟩
theorem cr_maxT (hc : X.calm = true) (hu : X.A.units + 64 < cLine) : CallR X (.builtin "max") (rMaxT X.K) := by
  intro pins s σ H vs us Q I r h
  obtain ⟨a, ns, rfl, hs, hne, q⟩ := h
  obtain ⟨its, hi, hl⟩ := tupI I hs
  rw [Vals.ref1 r]
  cases ns with
  | nil => simp at hne
  | cons x xs =>
    refine PySem.W.max_tuple_datum (x := x) (xs := xs) (I.ok.hd hc) hl (PySem.W.HoldAll.of_ints (by simpa using hi)) (by show X.A.units + 1 + 0 < cLine; omega) fun i v h' tk _ hv hk => ?_
    obtain ⟨t, rfl⟩ := int_of_holds hv
    obtain ⟨h1, h2⟩ := maxOf_le x xs
    exact ⟨.int _, H, I.kept hk, ⟨_, rfl⟩, q _ h1 h2⟩
theorem cr_minT (hc : X.calm = true) (hu : X.A.units + 64 < cLine) : CallR X (.builtin "min") (rMinT X.K) := by
  intro pins s σ H vs us Q I r h
  obtain ⟨a, ns, rfl, hs, hne, q⟩ := h
  obtain ⟨its, hi, hl⟩ := tupI I hs
  rw [Vals.ref1 r]
  cases ns with
  | nil => simp at hne
  | cons x xs =>
    refine PySem.W.min_tuple_datum (x := x) (xs := xs) (I.ok.hd hc) hl (PySem.W.HoldAll.of_ints (by simpa using hi)) (by show X.A.units + 1 + 0 < cLine; omega) fun i v h' tk _ hv hk => ?_
    obtain ⟨t, rfl⟩ := int_of_holds hv
    obtain ⟨h1, h2⟩ := minOf_le x xs
    exact ⟨.int _, H, I.kept hk, ⟨_, rfl⟩, q _ h1 h2⟩
end
end HL

namespace HL
open PySem PySem.Spec PyProof.Rows L2
open AutoSeq1 (wpAny_loadPart')
/-! enumerate(t), t a tuple -/
abbrev oIt (t : Addr) : Obj := { cls := .type "tuple_iterator", data := .fields #[.ref t, .int 0 0] }
abbrev oEn (i : Addr) : Obj := { cls := .type "enumerate", data := .fields #[.none, .bool false, .ref i, rawInt 0, .none, .none] }
theorem meets_enumT (t : Addr) (items : Array Value) (o : Obj) (tyE : ∀ h : Heap, h.get? t = some o → h.IsTuple t items) :
    Meets (Builtin.«enumerate.__new__» ⟨[.type "enumerate", .ref t], []⟩)
      (fun _ R s => s.heap.get? t = some o ∧ R (.ok (.ret (.ref (s.heap.push (oIt t)).objs.size))) { s with heap := (s.heap.push (oIt t)).push (oEn s.heap.objs.size) }) :=
  .of_wp fun prog w A R s h => by
    obtain ⟨hp, g, d, tk, os⟩ := s
    obtain ⟨hl, h⟩ := h
    have hsub := sub_enumerate
    have hL : Heap.IsTuple (Shared.heap ⟨hp, g, d, tk, os⟩) t items := tyE _ hl
    wp_walk using wpAny_loadPart' hl
    refine wpAny_stack_any fun stk => wpAny_pure ?_
    split
    · rename_i c _ _ _ _ _
      cases (c == Value.type "enumerate") <;> (wp_walk using wpAny_loadPart' hl, wpAny_pyIter_tuple hL; exact ⟨_, rfl, h⟩)
    · wp_walk using wpAny_loadPart' hl, wpAny_pyIter_tuple hL
      exact ⟨_, rfl, h⟩
theorem call_enumT {prog : Program} {w : World} {A : Around} {E : Value → Shared → Prop} {s : Shared} {t : Addr} {items : Array Value} {Q : Value → Shared → Prop} (hL : s.heap.IsTuple t items)
    (h : ∀ h', IsEnum h' (s.heap.objs.size + 1) s.heap.objs.size 0 .none → h'.IsTupleIter s.heap.objs.size t 0 →
      (∀ b o, s.heap.get? b = some o → h'.get? b = some o) → Q (.ref (s.heap.objs.size + 1)) { s with heap := h' }) :
    wpAny (model prog w) A (call (.type "enumerate") [.ref t]) Q E s := by
  obtain ⟨o, hl, hc, n, hd⟩ := hL
  refine callType_new F.called_enumerate (by decide) (F.typeCall_enumerate_1 _) (F.newCall_enumerate_1 _) (fun obj => F.args_object_init_2 obj _) F.entry_enumerate_new
    (meets_enumT t items o fun h' e => ⟨o, e, hc, n, hd⟩) ⟨hl, ?_⟩
  have hz : (s.heap.push (oIt t)).objs.size = s.heap.objs.size + 1 := Heap.size_push ..
  show _ ∧ _
  rw [hz]
  have hen : IsEnum ((s.heap.push (oIt t)).push (oEn s.heap.objs.size)) (s.heap.objs.size + 1) s.heap.objs.size 0 .none := by
    have q := Heap.get?_push_size (s.heap.push (oIt t)) (o := oEn s.heap.objs.size) rfl
    rw [hz] at q
    exact q
  exact ⟨⟨_, hen, rfl⟩, h _ hen ⟨_, Heap.get?_push_of_some _ (Heap.get?_push_size _ rfl), rfl, rfl⟩ fun b o x => Heap.get?_push_of_some _ (Heap.get?_push_of_some _ x)⟩
theorem enum_endT {prog : Program} {w : World} {A : Around} {E : Value → Shared → Prop} {s : Shared} {e it t : Addr} {i : Nat} {items : Array Value} {old : Value} {Q : Option Value → Shared → Prop}
    (hh : A.handled = none) (hen : IsEnum s.heap e it i old) (hit : s.heap.IsTupleIter it t i) (hl : s.heap.IsTuple t items) (hx : items[i]? = none)
    (wish : ∀ h', Heap.ExtBut it s.heap h' → Q none { s with heap := h' }) : wpAny (model prog w) A (pyNext (.ref e)) Q E s := by
  have tyE : s.TypeIs (.ref e) "enumerate" := ⟨_, hen, rfl⟩
  unfold pyNext
  refine wpAny_bind (wpAny_attempt (wpAny_callSpecial?_slot (name := Str.ofString "__next__") tyE F.slot_enumerate_next (wpAny_call_entry F.slot_enumerate_next tyE F.entry_enumerate_next ?_ (F.args_enumerate_next_1 _))))
  show wpAny _ _ (field (.ref e) 2 >>= _) _ _ _
  refine wpAny_bind (wpAny_field hen rfl (x := .ref it) rfl (wpAny_bind (wpAny_nextOf_tuple_end hh hit hl hx fun h' x hen' hx' => ?_)))
  obtain ⟨o, ho, hc⟩ := hx'
  exact wpAny_bind (wpAny_isInstance (T := "StopIteration") (b := true) ⟨o, ho, hc⟩ isSubtype_stop (wpAny_pure (wish _ hen')))
/-- the tuple at a, each item in a new pair -/
def IteT (K : PySem.W.Frag) (a : Addr) : It where
  go := fun i H => ∃ (xs : List V) (x : V), SqT K H a xs ∧ xs[i]? = some x
  yld := fun i H v H' => ∃ T x, v = .ref T ∧ H T = none ∧ H' = upd H T (.tup [.int (i : Nat), x]) ∧ ∀ xs, SqT K H a xs → xs[i]? = some x
  stop := fun i H => ∃ xs : List V, SqT K H a xs ∧ xs.length ≤ i
theorem turn_enumT {P : Program} {w : World} {K : PySem.W.Frag} {elts : List Expr} {kk : Nat} {tpos : Pos} (a e it : Addr) (hai : a ≠ it) :
    Turn P w K (.Tuple elts kk tpos) (IteT K a) [e, it] e (fun i h => (∃ old, IsEnum h e it ((i : Nat) : Int) old) ∧ h.IsTupleIter it a i ∧ e ≠ it ∧ e ≠ a) where
  mem := by simp
  obj := fun i h sta b hb => by
    obtain ⟨⟨old, hen⟩, ⟨o, ho, hc, hd⟩, _⟩ := sta
    have e' : b = e ∨ b = it := by simpa using hb
    rcases e' with z | z
    · rw [z]
      exact ⟨_, hen, fun v q => nomatch q⟩
    · rw [z]
      exact ⟨o, ho, fun v q => by rw [hd] at q; cases q⟩
  keep := fun i h h' sta k => by
    obtain ⟨⟨old, hen⟩, hi, hne⟩ := sta
    exact ⟨⟨old, k e (by simp) _ hen⟩, hi.at fun o q => k it (by simp) o q, hne⟩
  item := by
    intro X hP hw hK hc i pins s σ H E I fpk sta hg
    subst hP hw hK
    obtain ⟨⟨old, hen⟩, hit, hne, hea⟩ := sta
    obtain ⟨xs, x, hq, hx⟩ := hg
    obtain ⟨its, rv, ⟨ot, hot, hct, nt, hdt⟩, hz⟩ := I.tuple hq
    have tyE : s.heap.IsTuple a its.toArray := ⟨ot, hot, hct, nt, hdt⟩
    obtain ⟨u, hu, ru⟩ := rv.get hx
    have hlt : i < its.toArray.size := by
      have := (List.getElem?_eq_some_iff.mp hu).1
      simpa using this
    have elt : e < s.heap.objs.size := Heap.lt_size hen
    have hil : it < s.heap.objs.size := by
      obtain ⟨_, q, _⟩ := hit
      exact Heap.lt_size q
    refine wpAny_pyNext_enum_itemD (Draws.tuple (A := X.A.in1) (I.ok.hd hc) it a hai its.toArray) hen ⟨hit, tyE⟩ hlt hne (by simp [hne, hea]) fun z h' tk hz' ho hit' hTn hsz kep => ?_
    have ez : z = u := by
      have q : its[i]? = some z := by simpa using hz'
      rw [hu] at q
      exact (Option.some.inj q).symm
    subst ez
    refine ⟨_, rfl, wpAny_letOwnedTupleGo_enum (s := { s with heap := h', toks := tk + 1 }) ho fun h'' hen' smb => ?_⟩
    have hT2 : h''.get? s.heap.objs.size = some { cls := .type "tuple", data := .seq #[.int i tk, z] } := (smb.2 _ (Nat.ne_of_gt elt)).trans hTn
    have new : ObjOk X.prog X.w (upd H s.heap.objs.size (.tup [.int (i : Nat), x])) h'' s.heap.objs.size (.tup [.int (i : Nat), x]) :=
      ⟨by show 2 ≤ sizeLine; decide, [.int i tk, z], .cons ⟨_, rfl⟩ (.cons ru .nil), ⟨_, hT2, rfl, _, rfl⟩⟩
    have I1 : Inv X pins σ (upd H s.heap.objs.size (.tup [.int (i : Nat), x])) { s with heap := h'', toks := tk + 1 } :=
      I.turnedNew (ch := [e, it]) (fun b ob hb q => (smb.2 b (fun z => hb (by simp [z]))).trans (kep b ob (fun z => hb (by simp [z])) (fun z => hb (by simp [z])) q)) fpk (Nat.le_refl _) new
    refine ⟨.ref s.heap.objs.size, _, I1, rfl, ⟨_, x, rfl, I.hok.fresh (Nat.le_refl _), rfl, fun ys hy => ?_⟩, ⟨⟨z, ?_⟩, hit'.1.at fun o q => (smb.2 it (Ne.symm hne)).trans q, hne, hea⟩, fun b hb => ?_⟩
    · rw [I.tuple_inj hy hq]
      exact hx
    · have eqi : ((i + 1 : Nat) : Int) = (i : Int) + 1 := by omega
      rw [eqi]
      exact hen'
    · have hb' : b < s.heap.objs.size := by
        have e' : b = e ∨ b = it := by simpa using hb
        rcases e' with z | z
        · rw [z]
          exact elt
        · rw [z]
          exact hil
      rw [upd_ne (Nat.ne_of_lt hb')]
      exact (fpk b hb).1
  done := by
    intro X hP hw hK hc i pins s σ H E I fpk sta hg
    subst hP hw hK
    obtain ⟨⟨old, hen⟩, hit, hne, hea⟩ := sta
    obtain ⟨xs, hq, hx⟩ := hg
    obtain ⟨its, rv, ⟨ot, hot, hct, nt, hdt⟩, hz⟩ := I.tuple hq
    obtain ⟨p0, p1, p2, p3, p4, p5⟩ := fpk it (by simp)
    have hl := rv.length
    refine enum_endT (I.ok.hd hc) hen hit ⟨ot, hot, hct, nt, hdt⟩ (by simp; omega) fun h' eb => ⟨rfl, I.turned (t' := s.toks) (fun b o hb q => eb b o hb q) p0 p1 p3 p4 p5⟩
  self := fun A i s Q E sta h => let ⟨⟨_, hen⟩, _⟩ := sta; wpAny_pyIter_enum hen h
def iEnumT (K : PySem.W.Frag) (ta : TA) : TI := fun σ H R => ta σ H fun vs H1 => ∃ a xs, vs = [.ref a] ∧ SqT K H1 a xs ∧ R (IteT K a) H1
theorem pi_enumT {X : Cx} {e : Expr} {ta : TA} {p pos tpos : Pos} {elts : List Expr} {kk : Nat} (hg : Gl X "enumerate") (hm : X.mg "enumerate" = none) (ha : PA X [e] ta)
    (hs : starEach [e] X.env = [(false, eval e X.env)] := by rfl) : PI X (.Tuple elts kk tpos) (.Call (.Name "enumerate" p) [e] [] pos) (iEnumT X.K ta) := by
  refine ⟨fun pins s σ H R I h => ?_⟩
  refine Call_ (ld_blt I hg hm boot_enumerate (PyProof.Rows.callWith_type1 (thn (ha.run pos pins s σ H _ I h) fun us sA ⟨vs, H1, I1, r1, q1⟩ => ?_) hs rfl))
  obtain ⟨a, xs, ex, hq, q⟩ := q1
  subst ex
  rw [Vals.ref1 r1]
  obtain ⟨its, rv, ⟨ot, hot, hct, nt, hdt⟩, hz⟩ := I1.tuple hq
  have hla : a < sA.heap.objs.size := Heap.lt_size hot
  refine call_enumT (items := its.toArray) ⟨ot, hot, hct, nt, hdt⟩ fun h' hen hit kep => wpAny_pyIter_enum hen ?_
  have JB : Inv X pins σ H1 { sA with heap := h' } := I1.kept (t' := sA.toks) kep
  refine ⟨sA.heap.objs.size + 1, [sA.heap.objs.size + 1, sA.heap.objs.size], _, _, H1, rfl, JB, turn_enumT a (sA.heap.objs.size + 1) sA.heap.objs.size (Nat.ne_of_lt hla),
    ⟨⟨.none, hen⟩, hit, Nat.succ_ne_self _, Nat.ne_of_gt (Nat.lt_succ_of_lt hla)⟩, fun b hb => ?_, q⟩
  have e' : b = sA.heap.objs.size + 1 ∨ b = sA.heap.objs.size := by simpa using hb
  have hle : sA.heap.objs.size ≤ b := by
    rcases e' with z | z
    · rw [z]
      exact Nat.le_add_right _ _
    · rw [z]
      exact Nat.le_refl _
  exact I1.fpOk hle (I1.hok.fresh hle)
end HL

namespace HL
open PySem PySem.Spec PyProof.Rows L2
open AutoSeq1 (wpAny_loadPart')
/-! t * k, k from 1 on: once is the tuple itself -/
theorem tuple_mul1 (l : Addr) (items : Array Value) (n : Nat) (dd : Option Addr) (sl : Array (Option Value)) (u : Tok) :
    Meets (Builtin.«tuple.__mul__» ⟨[.ref l, .int 1 u], []⟩)
      (fun _ R s => s.heap.get? l = some { cls := .type "tuple", dict := dd, data := .seq items n, slots := sl } ∧ R (.ok (.ret (.ref l))) s) :=
  .of_wp fun prog w A R s h => by
    obtain ⟨hp, g, d, tk, os⟩ := s
    obtain ⟨hl, h⟩ := h
    have f1 := AutoSeq1.idx_int
    have ht : Shared.TypeIs ⟨hp, g, d, tk, os⟩ (.ref l) "tuple" := ⟨_, hl, rfl⟩
    wp_walk using wpAny_loadPart' hl
    repeat (first
      | (refine wpAny_ite_false (by decide) ?_; wp_walk using wpAny_loadPart' hl)
      | (refine wpAny_ite_true (by cases items.isEmpty <;> decide) ?_; wp_walk using wpAny_loadPart' hl)
      | (refine wpAny_typeOf ht ?_; wp_walk using wpAny_loadPart' hl)
      | (refine wpAny_bind (wpAny_typeOf ht ?_); wp_walk using wpAny_loadPart' hl))
    exact ⟨_, rfl, h⟩
def rRepA (K : PySem.W.Frag) : R2 := fun x y H Q => ∃ l k xs, x = .ref l ∧ y = .int k ∧ SqT K H l xs ∧ xs ≠ [] ∧ 1 ≤ k ∧ k ≤ 1000 ∧ xs.length ≤ 1000 ∧
  (k = 1 → Q (.ref l) H) ∧ (k ≠ 1 → ∀ p, H p = none → Q (.ref p) (upd H p (.tup (List.replicate k.toNat xs).flatten)))
theorem op_repA {X : Cx} : OpR X (binaryOp .Mult) (rRepA X.K) := by
  intro pins s σ H x y v u Q I rx ry h
  obtain ⟨l, k, xs, rfl, rfl, hT, hne, h1, h2, hz, q1, q2⟩ := h
  by_cases hk : k = 1
  · subst hk
    have rx' := rx
    cases rx
    obtain ⟨t, rfl⟩ := ry
    obtain ⟨its, r, ⟨⟨cl, dd, dat, sl⟩, ho, hc, n, hd⟩, _⟩ := I.tuple hT
    simp only at hc hd
    subst hc hd
    exact wpAny_binaryOp_repeat_ref (T := "tuple") (U := "int") (by decide) ⟨_, ho, rfl⟩ (fun s' => typeIs_int s' 1 t) noFill_tuple_mul F.fills_int_mul F.slot_int_rmul repeat_tuple F.slot_int_index.lookup
      (call_meets F.slot_int_rmul (typeIs_int s 1 t) F.entry_int_rmul (F.args_int_rmul_2 _ _) (int_rmul_tuple 1 t l its.toArray n dd sl)
        ⟨ho, rfl, ⟨_, ho, rfl⟩, call_meets F.slot_tuple_mul ⟨_, ho, rfl⟩ F.entry_tuple_mul (F.args_tuple_mul_2 _ _) (tuple_mul1 l its.toArray n dd sl t) ⟨ho, ⟨.ref l, H, I, rfl, q1 rfl⟩⟩⟩)
  · exact op_repT pins s σ H _ _ v u Q I rx ry ⟨l, k, xs, rfl, rfl, hT, hne, by omega, h2, hz, q2 hk⟩
end HL

namespace HL
open PySem PySem.Spec PyProof.Rows L2
/-! several except clauses, each with a name -/
/-- behind a suite the name's slot is empty -/
abbrev offE (i : Nat) (D : Ends) : Ends := { nx := fun σ' H' => D.nx (σ'.set i none) H', rt := D.rt, bk := fun σ' H' => D.bk (σ'.set i none) H', ct := fun σ' H' => D.ct (σ'.set i none) H' }
def wManyA (K : PySem.W.Frag) (i : Nat) (Wout : WX) (D : Ends) : List (Value × (Addr → Value → Option Addr → TS)) → WX
  | [] => Wout
  | (c, ts) :: r => fun cls d σ H => ∃ b, PySem.W.exmOne K cls c = some b ∧ (b = true → ∀ a, H a = none → ts a cls d (offE i D) (σ.set i (some (.ref a))) H) ∧ (b = false → wManyA K i Wout D r cls d σ H)
inductive HdsA (X : Cx) (n : Str) : List ExceptHandler → List (Value × (Addr → Value → Option Addr → TS)) → Prop
  | nil : HdsA X n [] []
  | cons {x : Str} {c : Value} {ts : Addr → Value → Option Addr → TS} {b₀ : Stmt} {suite : List Stmt} {np pos' : Pos} {hds : List ExceptHandler} {l : List (Value × (Addr → Value → Option Addr → TS))} (hc : Names X x c)
      (hsu : ∀ (a : Addr) (oe : Obj) (cls : Value) (d : Option Addr) (pn : List (Addr × Obj)), Zc cls d oe → (∃ vs, oe.data = .fields vs) → PSs (X.suite a ((a, oe) :: pn)) (b₀ :: suite) (ts a cls d)) (r : HdsA X n hds l) :
      HdsA X n (.ExceptHandler (some (.Name x np)) (some n) (b₀ :: suite) pos' :: hds) ((c, ts) :: l)
section
variable {X : Cx} {n : Str} {i : Nat} {body : List Stmt} {h₀ : ExceptHandler} {hds : List ExceptHandler} {l : List (Value × (Addr → Value → Option Addr → TS))} {pos : Pos} {tb : WX → TS} {Wout : WX}
theorem ps_try_manyA (hs : X.stack = X.env :: X.outer) (hf : X.env.frame = some X.env.locals) (hN : X.N.Nodup) (hi : X.N[i]? = some n) (hln : X.env.kindOf n = some .local) (tk : Takes X Wout)
    (hb : ∀ (W : WX) (pn : List (Addr × Obj)) (xe : Value → Shared → Prop), Takes (X.tr pn xe) W → PassesOwn (model X.prog X.w) X.A X.env xe → PSs (X.tr pn xe) body (tb W)) (hh : HdsA X n (h₀ :: hds) l) :
    PS X (.Try body (h₀ :: hds) [] [] pos) (fun D σ H => tb (wManyA X.K i Wout D l) D σ H) := by
  refine ⟨fun pins s σ H D I hTB => ?_⟩
  have okI := I.ok
  have frA : X.A.frames = some (X.env :: X.outer) := by rw [okI.frames, hs]
  have locN : Loc X.env.scope n := .inl hln
  refine wpAny_Try_except (wpAny_mono ((hb (wManyA X.K i Wout D l) (X.pn ++ pins) (fun e sa => wpAny (model X.prog X.w) X.A (noteFrame e X.env) (fun _ sb => wpAny (model X.prog X.w) X.A (setFlight e none) (fun _ sc =>
    wpAny (model X.prog X.w) X.A (handleBy e X.env (h₀ :: hds)) (SP X pins D) X.xe sc) X.xe sb) X.xe sa) (fun u s' xx => ?_) PassesOwn.looking).run [] s σ H D (I.toTry _) hTB) (fun f sq hsp => ?_) (fun e sq he => he))
  · obtain ⟨a, B, sI, pins', σ', H', cls, d, rfl, J', nb, up, sky, na, os, ag, wsh⟩ := xx
    have J : Inv X pins σ' H' sI := J'.ofTry okI
    have skyE : Sky B (X.env :: X.outer) a (Zc cls d) X.env.locals s'.heap := by rw [← hs]; exact sky
    show wpAny (model X.prog X.w) X.A (noteFrame (.ref a) X.env) _ _ _
    refine Sky.land Zc.steady frA hf skyE fun hC flC upC => ?_
    have JC : Inv X pins σ' H' { s' with heap := hC } := J.landed nb flC.1 (up.trans upC) os ag
    obtain ⟨oC, vC, heC, hzC, hdC⟩ := flC.there
    have notFr : a ∉ frs (X.env :: X.outer) := fun hm => by
      obtain ⟨_, o', e', hnf⟩ := flC.2.2.1.mem hm
      rw [heC] at e'
      cases e'
      exact hnf _ hdC
    have nL : a ≠ X.env.locals := fun z => notFr (List.mem_filterMap.mpr ⟨X.env, List.mem_cons_self, by rw [hf, z]⟩)
    have nF : a ∉ X.fs := fun hm => by
      obtain ⟨e, he, q⟩ := List.mem_filterMap.mp hm
      exact notFr (List.mem_filterMap.mpr ⟨e, List.mem_cons_of_mem _ he, q⟩)
    have SC := JC.suite heC hdC na nL nF
    have go : ∀ {hd2 : List ExceptHandler} {l2 : List (Value × (Addr → Value → Option Addr → TS))}, HdsA X n hd2 l2 → wManyA X.K i Wout D l2 cls d σ' H' → wpAny (model X.prog X.w) X.A (handleBy (.ref a) X.env hd2) (SP X pins D) X.xe { s' with heap := hC } := by
      intro hd2 l2 hk
      induction hk with
      | nil =>
        intro wn
        refine wpAny_handleBy_nil ?_
        obtain ⟨k1, k2, k3, oe, vs, T, oT, ts', he, hz, hd, h1, hr⟩ := id flC
        unfold PySem.passOn
        refine wpAny_bind (wpAny_field he hd h1 ?_)
        rw [if_neg (show ¬ ((Value.ref T == Value.none) = true) from by simp)]
        have fin : wpAny (model X.prog X.w) X.A (setFlight (.ref a) X.env.frame) (fun _ sd => wpAny (model X.prog X.w) X.A (throw (.ref a) : Sem Flow) (SP X pins D) X.xe sd) X.xe { s' with heap := hC } := by
          rw [hf]
          refine HandSPX.setFlight_upZ flC fun hD hhD upD => wpAny_throw (tk _ _ ?_)
          exact ⟨a, B, sI, pins, σ', H', cls, d, rfl, J, nb, (up.trans upC).trans upD, .inr (.inr (by rw [hs]; exact hhD)), na, os, ag, wn⟩
        first
          | exact wpAny_bind (wpAny_pure (wpAny_bind fin))
          | exact wpAny_bind fin
      | @cons x c ts b₀ suite np pos' hd3 l3 hc hsu r ih =>
        intro wn
        obtain ⟨b, hb1, hyes, hno⟩ := wn
        refine wpAny_handleBy_cons (codeAny_handlers_test ?_) (by intro q; cases q)
        have LT : PySem.W.Looks (model X.prog X.w) hC (typeOf (.ref a)) cls := fun A Q E s k q => wpAny_typeOf_ref (k _ _ heC) (by rw [hzC.1]; exact q)
        have LM := PySem.W.exm_one (M := model X.prog X.w) (JC.kIn) LT hb1
        have look : ∀ {Q : Value → Shared → Prop} {E : Value → Shared → Prop}, Q c { s' with heap := hC } → wpAny (model X.prog X.w) (X.A.mark (some (.ref a))) (eval (.Name x np) X.env) Q E { s' with heap := hC } := fun {Q E} q => by
          obtain ⟨hg, hdbg, hm | ⟨hm, hv, hnn⟩⟩ := hc
          · exact ld_glob (X := X.suite a ((a, oC) :: (X.pn ++ pins))) SC hg hm q hdbg
          · exact ld_blt (X := X.suite a ((a, oC) :: (X.pn ++ pins))) SC hg hm hv q hnn hdbg
        refine look (LM.here ?_)
        cases b with
        | false =>
          show wpAny _ X.A (handleBy (.ref a) X.env hd3) _ _ _
          exact ih (hno rfl)
        | true =>
          refine codeAny_handlers_suite_as (HandSPX.lands_againZ flC fun hD flD upD => ?_)
          have JD : Inv X pins σ' H' { s' with heap := hD } := J.landed nb flD.1 ((up.trans upC).trans upD) os ag
          obtain ⟨oD, vD, heD, hzD, hdD⟩ := flD.there
          have SD := JD.suite heD hdD na nL nF
          refine store_ok (X := X.suite a ((a, oD) :: (X.pn ++ pins))) (v := .ref a) SD hN hi locN rfl (fun sE SE => ?_) (.inr hln)
          refine wpAny_mono ((hsu a oD cls d (X.pn ++ pins) hzD ⟨_, hdD⟩).run [] sE _ H' _ SE (hyes rfl a na)) (fun f sG hsp => ?_) (fun _ _ z => False.elim z)
          have off : ∀ {σG : L2.St} {HG : Hp} {Q : Shared → Prop}, Inv (X.suite a ((a, oD) :: (X.pn ++ pins))) [] σG HG sG → (∀ sH, Inv X pins (σG.set i none) HG sH → Q sH) →
              wpAny (model X.prog X.w) X.A (do bindName X.env n .none; unbindBehindTheSuite X.env n pos') (fun _ sH => Q sH) X.xe sG := fun {σG HG Q} SG hq => gone_ok (SG.unsuite okI) hN hi hln hq
          cases f with
          | ret u =>
            obtain ⟨vG, σG, HG, SG, rG, qG⟩ := hsp
            exact off SG fun sH JH => ⟨_, _, _, JH, rG, qG⟩
          | next =>
            obtain ⟨σG, HG, SG, qG⟩ := hsp
            exact off SG fun sH JH => ⟨_, _, JH, qG⟩
          | brk =>
            obtain ⟨σG, HG, SG, qG⟩ := hsp
            exact off SG fun sH JH => ⟨_, _, JH, qG⟩
          | cont =>
            obtain ⟨σG, HG, SG, qG⟩ := hsp
            exact off SG fun sH JH => ⟨_, _, JH, qG⟩
    exact go hh wsh
  · cases f with
    | ret u =>
      obtain ⟨v, σ', H', J', r, q⟩ := hsp
      exact ⟨v, σ', H', J'.ofTry okI, r, q⟩
    | next =>
      obtain ⟨σ', H', J', q⟩ := hsp
      exact wpAny_execs_nil ⟨σ', H', J'.ofTry okI, q⟩
    | brk =>
      obtain ⟨σ', H', J', q⟩ := hsp
      exact ⟨σ', H', J'.ofTry okI, q⟩
    | cont =>
      obtain ⟨σ', H', J', q⟩ := hsp
      exact ⟨σ', H', J'.ofTry okI, q⟩
end
end HL

namespace HL
open PySem PySem.Spec PyProof.Rows L2
open LamX (CodeO Tabs TabB ExtN LamS lamEnv lamCx lam_start2 lam_make2 run_ofS tLam)
/-! what a def got is asked, its own slots known where that raises -/
/-- the asking def's context, entered at s -/
abbrev gCx (X : Cx) (Ng : List Str) (q : Str) (sg : Scope) (g : Addr) (cd : Value) (s : Shared) (H : Hp) : Cx := cxOf C8.CX0 X.prog X.w X.K X.mg X.base Ng q sg g cd X.A X.stack s H C8.E0
/-- the lambda that was made -/
abbrev lamO (X : Cx) (ps : Arguments) (b : Expr) (sc : Scope) (pm : Value) (c' : Addr) (ct : Value) : Obj := PySem.W.kla_obj "<lambda>" (X.env.qual ++ "<lambda>") ps b sc (cloFrom X.env.cells sc.names []) pm c' ct
theorem act_at {X : Cx} {pins : List (Addr × Obj)} {σ : L2.St} {H : Hp} {s : Shared} {Ng : List Str} {q : Str} {sg : Scope} {g f c' : Addr} {cd pm ct : Value} {ps : Arguments} {b : Expr} {sc : Scope} {k i : Nat} {a : Str} {pn : List (Addr × Obj)} {xe : Value → Shared → Prop} {W : WX} {E : XK} {tb : TE} {p1 p2 : Pos} {σ0 : L2.St}
    (I : Inv X pins σ H s) (L : LamS X.env.scope sc) (hf : s.heap.get? f = some (lamO X ps b sc pm c' ct)) (hn : H f = none) (hfr : f ∉ frs X.stack)
    (hb : bindArgs (PySem.W.kla_fn "<lambda>" (X.env.qual ++ "<lambda>") ps b sc (cloFrom X.env.cells sc.names []) pm (.ref c') ct) ⟨[], []⟩ = pure [])
    (tk : Takes ((gCx X Ng q sg g cd s H).tr pn xe) W) (hW : ∀ cls d H', E cls d H' → W cls d σ0 H') (hr : Room (k + 1) (X.A.deeper (envOfC q sg s.heap.objs.size g cd)))
    (hbody : ∀ (A : Around) (o : List Env) (s : Shared) (H : Hp), Room k (A.deeper (lamEnv X sc s.heap.objs.size f c')) → PE (lamCx X A o s H E sc f c') b tb)
    (hN : Ng[i]? = some a) (hv : Vis sg a) (d1 : (a == ("__debug__" : Str)) = false) (d2 : (a == ("__classdict__" : Str)) = false) :
    PE ((gCx X Ng q sg g cd s H).tr pn xe) (.Call (.Name a p1) [] [] p2) (fun σZ HZ Q => σZ = σ0 ∧ σZ[i]? = some (some (.ref f)) ∧ HZ c' = some (CodeO c' (X.env.qual ++ "<lambda>")) ∧ tb σ HZ Q) := by
  refine ⟨fun pz sz σz hz Qz J ⟨eσ, h1, h2, h3⟩ => ?_⟩
  have nm := (pe_var (pos := p1) (i := i) hN hv d1 d2).run pz sz σz hz (fun v H1 => v = .ref f ∧ H1 = hz) J ⟨_, h1, rfl, rfl⟩
  refine wpAny_Call_Name_kw (thn nm ?_)
  rintro u s1 ⟨v, H1, J1, r1, ⟨ev, eh⟩⟩
  subst ev
  rw [eh] at J1
  obtain rfl : u = Value.ref f := r1
  have o1 : s1.heap.get? f = some (lamO X ps b sc pm c' ct) := J1.base.keep f _ hf hn hfr (fun y => List.not_mem_nil (show f ∈ ([] : List Addr) from y))
  have go : codeAny (model X.prog X.w) (X.A.deeper (envOfC q sg s.heap.objs.size g cd)) (.call (.ref f) ⟨[], []⟩) (CR (L2.CX X.prog X.w) (envOfC q sg s.heap.objs.size g cd :: X.stack) X.prog X.w hz s1 Qz E) s1 := by
    obtain ⟨⟨oc, vs, t, ho, hd, hc⟩, _, _⟩ := J1.hok c' _ h2
    refine PySem.W.kla_callFunE hr.depth o1 rfl L.co L.gen rfl ⟨c', oc, vs, t, rfl, ho, hd, hc⟩ ?_
    rw [hb]
    refine wpAny_pure (wpAny_newFunctionEnv (fun y hy => (L.own y hy).2) (fun y hy => absurd hy (by simp)) (fun h1' hns hsb => ⟨J1.nolimit.fresh _ hsb, ?_⟩) L.kind)
    show codeAny _ _ (.expr b (lamEnv X sc s1.heap.objs.size f c')) _ _
    have st : Inv (lamCx X (X.A.deeper (envOfC q sg s.heap.objs.size g cd)) (envOfC q sg s.heap.objs.size g cd :: X.stack) s1 hz E sc f c') [] σ hz { s1 with heap := h1', toks := s1.toks + ([] : List (Str × Value)).length } :=
      lam_start2 I L J1.env0 hr.hd J1.base hns (fun b' o' e' => hsb.extBut b' o' (Nat.ne_of_lt (Heap.lt_size e')) (Heap.get?_push_of_some _ e'))
    refine PySem.W.kla_codeExpr (wpAny_mono ((hbody _ _ s1 hz (hr.deeper _)).run [] _ _ hz Qz st h3) ?_ (fun _ _ x => x))
    rintro v' s' ⟨w', H', J', rv, qv⟩
    exact ⟨w', H', J'.os, J'.bare, J'.base, J'.hok, rv, qv⟩
  refine PySem.W.callWith_F0 ⟨_, _, _, _, o1⟩ (wpAny_call (codeAny_mono go ?_))
  intro r s' hq
  cases r with
  | error e =>
    refine tk e s' (XE.of_call J1 (fun cls d H' hE => ?_) hq)
    rw [eσ]
    exact hW cls d H' hE
  | ok fl =>
    cases fl with
    | ret u => exact J1.after hq
    | next => cases hq
    | brk => cases hq
    | cont => cases hq
/-- the def that asks: σ0 its slots where it asks -/
def AsksOf (X : Cx) (Ng : List Str) (x : Str) (sg : Scope) (g : Addr) (cd : Value) (bg : List Stmt) (a : Str) (q : Str) (TT : (XK → Hp → VK → Prop) → Hp → VK → Prop) : Prop :=
  ∀ (f c' : Addr) (s : Shared) (H : Hp) (Q : VK) (tl : XK → Hp → VK → Prop),
    (∀ (σ0 : L2.St) (W : WX) (pn : List (Addr × Obj)) (xe : Value → Shared → Prop) (E : XK) (p1 p2 : Pos), Takes ((gCx X Ng x sg g cd s H).tr pn xe) W → (∀ cls d H', E cls d H' → W cls d σ0 H') →
      PE ((gCx X Ng x sg g cd s H).tr pn xe) (.Call (.Name a p1) [] [] p2) (fun σZ HZ Q => σZ = σ0 ∧ σZ[0]? = some (some (.ref f)) ∧ HZ c' = some (CodeO c' q) ∧ tl E HZ Q)) →
    H c' = some (CodeO c' q) → TT tl H Q → ∃ t, PSs (gCx X Ng x sg g cd s H).nox bg t ∧ t { nx := fun _ H' => Q .non H', rt := Q } (L2.start Ng [.ref f]) H
theorem pe_askcall {X : Cx} {T : List (Addr × Str)} {TT : (XK → Hp → VK → Prop) → Hp → VK → Prop} {x a : Str} {g c P : Addr} {k : Nat} {pg : Arguments} {bg : List Stmt} {sg : Scope} {dV kV doc pm cdv ct oc : Value} {an od : Option Addr} {osl : Array (Option Value)} {Ng : List Str}
    {ps : Arguments} {b : Expr} {sc : Scope} {t : XK → TE} {p lp pos : Pos} (hg : Gl X x) (hm : X.mg x = some (.ref g)) (hk : PySem.W.keepIn X.K (.ref g) = true)
    (lk : X.K.lookup g = some ⟨oc, od, .func (PySem.W.fnOf x x pg bg sg dV kV doc pm an cdv ct), osl⟩) (hcg : PySem.W.codeIn X.K cdv x = true) (hbi : L2.Binds X.K (PySem.W.fnOf x x pg bg sg dV kV doc pm an cdv ct) [a] []) (Sg : FnScope Ng [a] sg) (hN : Ng[0]? = some a) (hv : Vis sg a)
    (hG : AsksOf X Ng x sg g cdv bg a (X.env.qual ++ "<lambda>") TT) (TB : TabB X.base X.mg c P) (hcode : X.env.code = .ref c) (hT : (P, X.env.qual ++ "<lambda>") ∈ T) (hu : ∀ p ∈ T, p.1 = P → p.2 = X.env.qual ++ "<lambda>") (hr : Room (k + 2) X.A) (L : LamS X.env.scope sc) (hdef : defaultsOf ps X.env = ([], []))
    (hb : ∀ (q : Str) (cl : List (Str × Addr)) (pm cv ctv : Value), bindArgs (PySem.W.kla_fn "<lambda>" q ps b sc cl pm cv ctv) ⟨[], []⟩ = pure [])
    (hbody : ∀ (A : Around) (o : List Env) (s : Shared) (H : Hp) (E : XK) (f c' : Addr), Room k (A.deeper (lamEnv X sc s.heap.objs.size f c')) → PE (lamCx X A o s H E sc f c') b (t E))
    (d0 : (x == ("__debug__" : Str)) = false := by decide) (d1 : (a == ("__debug__" : Str)) = false := by decide) (d2 : (a == ("__classdict__" : Str)) = false := by decide) :
    PE X (.Call (.Name x p) [.Lambda ps b sc lp] [] pos) (tLam T TT t) := by
  refine ⟨fun pins s σ H Q I ⟨hTt, h⟩ => wpAny_Call_Name_kw (ld_glob I hg hm (PySem.W.callWith_K (h₀ := X.base) I.ok.mod.kin hk ?_ (by rfl) (by rfl)) d0)⟩
  show wpAny _ _ (spliced ((false, eval (.Lambda ps b sc lp) X.env) :: backTo pos (starEach [] X.env))) _ _ s
  refine Calls.spliced_cons (lam_make2 I TB hcode hT hu hTt hdef (L.has I.ok) fun f c' pm' ctv H1 s' J eN T1 hf hfn hfr hco => Calls.spliced_nil ⟨J.kIn, ?_⟩)
  refine wpAny_call (codeAny_mono (R := CR C8.CX0 X.stack X.prog X.w H1 s' Q C8.E0) (run_ofS (N := Ng) (ps := [a]) (us := [.ref f]) (vs := [.ref f]) lk hcg Sg hr J.env0 (hbi s' [.ref f] J.kIn rfl) (.cons rfl .nil) rfl fun hr' => ?_) fun r s2 hq => ?_)
  · obtain ⟨t', ht, hq⟩ := hG f c' s' H1 Q (fun E H' Q' => t E σ H' Q') (fun σ0 W pn xe E p1 p2 tk hW => act_at (i := 0) J L hf hfn hfr (hb _ _ _ _ _) tk hW hr' (fun A o s H hr2 => hbody A o s H E f c' hr2) hN hv d1 d2) hco (h H1 eN T1)
    exact ⟨t', ht.nox, hq⟩
  · cases r with
    | error e => exact (show False from hq).elim
    | ok fl =>
      cases fl with
      | ret u => exact J.after hq
      | next => cases hq
      | brk => cases hq
      | cont => cases hq
end HL

/-! own exceptions over any built-in base, their __init__ walked as a def; made with any count of arguments -/
namespace HL
open PySem PySem.Spec PyProof.Rows L2
open PySem.Builtin PySem.Builtin.ObjectAttr PySem.HandSPX
section
variable {prog : Program} {w : World} {A : Around} {R : Result → Shared → Prop} {hp : Heap} {g : Array GenState} {d : Drawn} {t : Nat} {os : OsState} {K : PySem.W.Frag} {f : Str} {tk : Tok} {v : Value} {x C : Addr} {fv : Array Value} {cd : ClassData}
/-- what a store on an instance looks up, told of its class alone -/
structure Mro (cd : ClassData) : Prop where
  pass : ∀ self, refuseLoop self "__setattr__" cd.mro = pure ()
  obj : cd.mro.contains (.type "object") = true
  ne : cd.mro.isEmpty = false
  hd : cd.hasDict = true
theorem osaG {o : Obj} {od : Option Obj} (X : K.In hp) (I : PySem.W.InstAt hp x o C od) (hcd : PySem.W.clsIn K C = some cd) (M : Mro cd) (ha : PySem.W.findIn K (.ref C) f = some none)
    (hq : wpAny (model prog w) A.in1 (storeInOwnDict (.ref x) (.ref C) (.str f tk) f v false) (fun r s' => match r with | .done fl => R (.ok fl) s' | .again c' => c'.quiet = true ∧ codeAny (model prog w) A c' R s') (fun e s' => R (.error e) s') ⟨hp, g, d, t, os⟩) :
    codeAny (model prog w) A (.call (.builtin "object.__setattr__") ⟨[.ref x, .str f tk, v], []⟩) R ⟨hp, g, d, t, os⟩ := by
  have SF := F.store_object
  have sub : PySem.W.Looks (model prog w) hp (isInstance (.ref x) (.type "object")) true := I.type.andThen (PySem.W.looks_mroIn X (by unfold PySem.W.mroIn; rw [hcd, Option.bind_some, if_neg (by rw [M.ne]; decide), M.obj]))
  refine codeAny_call_builtin SF.slot.plain SF.entry (@PySem.W.check_slot (model prog w) _ _ ⟨hp, g, d, t, os⟩ "object.__setattr__" "object" "__setattr__" (.ref x) [.str f tk, v] [] _ SF.kind SF.split sub (SF.args (.ref x) (.str f tk) v) ?_)
  have hmr : PySem.W.Looks (model prog w) hp (mroOf (.ref C)) cd.mro := (PySem.W.looks_clsIn X hcd).andThen .now
  have L3 : PySem.W.Looks (model prog w) hp (storeTaker? none) none := .now
  rw [PySem.W.osa_eq, refuse_eq]
  refine wpAny_bind (wpAny_bind (I.type.at (wpAny_bind (hmr.at ?_))))
  rw [M.pass]
  refine wpAny_pure (wpAny_bind (I.type.at (wpAny_bind ((PySem.W.looks_findIn X ha).at (wpAny_bind (L3.at ?_))))))
  exact hq
/-- the first field of an instance -/
theorem store1 (X : K.In hp) (hx : hp.get? x = some { cls := .ref C, data := .fields fv }) (hcd : PySem.W.clsIn K C = some cd) (M : Mro cd) (ha : PySem.W.findIn K (.ref C) f = some none)
    (hq : ∀ h' tk' dx, (∀ b o, b ≠ x → hp.get? b = some o → h'.get? b = some o) → hp.objs.size ≤ dx → dx ≠ x → h'.get? x = some { cls := .ref C, dict := some dx, data := .fields fv } → h'.Ns1 dx (fun y => if y = f then some v else none) → R (.ok (.ret .none)) ⟨h', g, d, tk', os⟩) :
    codeAny (model prog w) A (.call (.builtin "object.__setattr__") ⟨[.ref x, .str f tk, v], []⟩) R ⟨hp, g, d, t, os⟩ := by
  have hxs : x ≠ hp.objs.size := Nat.ne_of_lt (Heap.lt_size hx)
  refine osaG (od := none) X ⟨hx, rfl, rfl, trivial⟩ hcd M ha ?_
  have hc : PySem.W.Looks (model prog w) hp (classData C) cd := PySem.W.looks_clsIn X hcd
  obtain ⟨_, _, _, hdt⟩ := M
  obtain ⟨nm, bs, mro, ns, qn, hd, sn, sb, ab, col, del⟩ := cd
  cases hdt
  unfold storeInOwnDict ownDictForStores
  repeat (first | with_reducible refine store_in_new ?_ ?_ | with_reducible refine wpAny_loadPart_at hx ?_ | with_reducible refine hc.at ?_ | wp_step)
  · have nothing : ∀ e ∈ (#[] : Array DictEntry).toList, False := fun e he => by simp at he
    exact ⟨_, #[], _, (Heap.get?_update_ne _ _ _ _ hxs.symm).trans (Heap.get?_push_at rfl rfl),
      rfl, fun e he => absurd he (by simp), fun _ => rfl⟩
  · intro h' tk' hn' hs
    refine hq h' tk' hp.objs.size ?_ (Nat.le_refl _) hxs.symm ?_ hn'
    · intro b o hb ho
      rw [hs.2 b (Nat.ne_of_lt (Heap.lt_size ho)), Heap.get?_update_ne _ _ _ _ hb]
      exact Heap.get?_push_of_some _ ho
    · rw [hs.2 x hxs]
      exact Heap.get?_update_self _ (Heap.get?_push_of_some _ hx) rfl
/-- a further field -/
theorem store2 {dx : Addr} {m0 : Str → Option Value} {nl : List Str} (X : K.In hp) (hx : hp.get? x = some { cls := .ref C, dict := some dx, data := .fields fv }) (hns : hp.Ns1 dx m0) (hw : Within m0 nl) (hz : nl.length ≤ 1000) (hcd : PySem.W.clsIn K C = some cd) (M : Mro cd) (ha : PySem.W.findIn K (.ref C) f = some none)
    (hq : ∀ h' tk', (∀ b o, b ≠ dx → hp.get? b = some o → h'.get? b = some o) → h'.Ns1 dx (fun y => if y = f then some v else m0 y) → R (.ok (.ret .none)) ⟨h', g, d, tk', os⟩) :
    codeAny (model prog w) A (.call (.builtin "object.__setattr__") ⟨[.ref x, .str f tk, v], []⟩) R ⟨hp, g, d, t, os⟩ := by
  obtain ⟨oD, _, _, hoD, _, _⟩ := hns.count hw
  refine osaG (od := some oD) X ⟨hx, rfl, rfl, hoD⟩ hcd M ha ?_
  have hc : PySem.W.Looks (model prog w) hp (classData C) cd := PySem.W.looks_clsIn X hcd
  obtain ⟨_, _, _, hdt⟩ := M
  obtain ⟨nm, bs, mro, ns, qn, hd, sn, sb, ab, col, del⟩ := cd
  cases hdt
  unfold storeInOwnDict ownDictForStores
  repeat (first | with_reducible refine PySem.OEX.store_in_old hns hw hz ?_ | with_reducible refine wpAny_loadPart_at hx ?_ | with_reducible refine hc.at ?_ | wp_step)
  exact fun h' tk' hn' hs => hq h' tk' (fun b o hb ho => by rw [hs.2 b hb]; exact ho) hn'
end
/-- what the written part says of an own class over a built-in base -/
structure OexB (K : PySem.W.Frag) (C : Addr) (nid : String) (bmB : List Value) : Prop where
  cls : ∃ nm q N bs bm sn sub ab col dd k0 k1 k2 k3 k5, K.lookup C = some (excClassObj nm q C N bs bm true sn sub ab col dd k0 k1 k2 k3 k5 nid) ∧ (∀ X : String, bm.contains (.type X) = bmB.contains (.type X)) ∧ ∀ self, refuseLoop self "__setattr__" (.ref C :: bm) = pure ()
  ob : bmB.contains (.type "object") = true
  sa : PySem.W.findIn K (.ref C) "__setattr__" = some (some (.builtin "object.__setattr__"))
  exC : PySem.W.subIn K (.ref C) (.type "BaseException") = some true
  tyC : PySem.W.typeIn K (.ref C) = some (.type "type")
  kC : PySem.W.keepIn K (.ref C) = true
theorem OexB.mro {K : PySem.W.Frag} {C : Addr} {nid : String} {bmB : List Value} (T : OexB K C nid bmB) : ∃ cd, PySem.W.clsIn K C = some cd ∧ Mro cd := by
  obtain ⟨nm, q, N, bs, bm, sn, sub, ab, col, dd, k0, k1, k2, k3, k5, hC, h1, h2⟩ := T.cls
  refine ⟨{ name := nm, bases := bs, mro := .ref C :: bm, ns := N, qualname := q, hasDict := true, slotNames := sn, subclasses := sub, abstract := ab, collection := col, hasDel := false }, by unfold PySem.W.clsIn; rw [hC] <;> rfl, h2, ?_, rfl, rfl⟩
  show (Value.ref C :: bm).contains (.type "object") = true
  rw [List.contains_cons, h1, T.ob, Bool.or_true]
section
variable {X : Cx} {nid : String} {bmB : List Value} {pins : List (Addr × Obj)} {σ : L2.St} {H : Hp} {s : Shared} {a C dx : Addr} {f : Str} {y : V} {u : Value} {fs : List (Str × V)} {Q : Unit → Shared → Prop} {E : Value → Shared → Prop} {A : Around}
theorem ostN (T : OexB X.K C nid bmB) (I : Inv X pins σ H s) (e : H a = some (exo a C none)) (hno : PySem.W.findIn X.K (.ref C) f = some none) (ry : RelV y u)
    (h : ∀ dx s', H dx = none → dx ≠ a → Inv X pins σ (upd (upd H dx (exd dx [(f, y)])) a (exo a C (some dx))) s' → Q () s') : wpAny (model X.prog X.w) A (setAttr (.ref a) f u) Q E s := by
  obtain ⟨cd, hcl, M⟩ := T.mro
  obtain ⟨t1, ho⟩ := exo_at I.hok e
  obtain ⟨hp, g, d, t, os⟩ := s
  refine PySem.W.set_plain (od := none) I.kIn ⟨ho, rfl, rfl, trivial⟩ T.sa (store1 I.kIn ho hcl M hno fun h' tk' dx k dn dne hx hn => ?_)
  have nH : H dx = none := I.hok.fresh dn
  have old : ∀ {b : Addr} {o : Obj}, hp.get? b = some o → b ≠ dx := fun {b o} q => Nat.ne_of_lt (Nat.lt_of_lt_of_le (Heap.lt_size q) dn)
  have off : ∀ {b : Addr}, H b = none → b ≠ a := fun {b} n z => by rw [z, e] at n; cases n
  have two : ∀ {b : Addr} {o : HO}, H b = some o → exo a C none ≠ o → upd (upd H dx (exd dx [(f, y)])) a (exo a C (some dx)) b = some o := fun {b o} q ne => by
    rw [upd_ne (at_ne e q ne), upd_ne (ne_of_none q nH)]
    exact q
  refine h dx _ nH dne (I.un (t' := tk') { keep := fun b o q n _ _ => k b o (off n) q, slot := fun b o q n _ _ => ⟨o.slots, k b o (off n) q⟩, free := ?fr, there := ?th, tups := fun b xs q => two q exo_tup, frzs := fun b o v q => two q exo_frz, tbls := fun b ps q => ⟨#[], by rw [two q exo_tbl]; simp⟩ } fun b o q => ?ok)
  case fr =>
    intro b o q n _
    rw [upd_ne (off n), upd_ne (old q)]
    exact n
  case th =>
    intro b o q _
    by_cases hb : b = a
    · rw [hb]
      exact ⟨_, hx⟩
    · exact ⟨o, k b o hb q⟩
  case ok =>
    by_cases hb : b = a
    · subst hb
      rw [upd_same] at q
      cases q
      exact exo_ok hx
    rw [upd_ne hb] at q
    by_cases hd : b = dx
    · subst hd
      rw [upd_same] at q
      cases q
      exact exd_ok hn (relO_put (fs := []) ry fun g => True.intro)
    rw [upd_ne hd] at q
    refine (I.hok b o q).stay (fun c v hc z => k c v ?_ z) (fun c hc => two hc exo_own) (fun c xs hc => two hc exo_tup)
    rcases hc with hc | hc
    · rw [hc]; exact hb
    · exact at_ne e hc exo_own
theorem ostO (T : OexB X.K C nid bmB) (I : Inv X pins σ H s) (e : H a = some (exo a C (some dx))) (ed : H dx = some (exd dx fs)) (hl : fs.length ≤ 900) (hno : PySem.W.findIn X.K (.ref C) f = some none) (ry : RelV y u)
    (h : ∀ s', Inv X pins σ (upd H dx (exd dx ((f, y) :: fs))) s' → Q () s') : wpAny (model X.prog X.w) A (setAttr (.ref a) f u) Q E s := by
  obtain ⟨cd, hcl, M⟩ := T.mro
  obtain ⟨t1, ho⟩ := exo_at I.hok e
  obtain ⟨mA, hns, rel⟩ := exd_at I.hok ed
  have hw := within_of rel
  obtain ⟨hp, g, d, t, os⟩ := s
  obtain ⟨oD, _, _, hoD, _, _⟩ := hns.count hw
  refine PySem.W.set_plain (od := some oD) I.kIn ⟨ho, rfl, rfl, hoD⟩ T.sa (store2 I.kIn ho hns hw (by rw [List.length_map]; omega) hcl M hno fun h' tk' k hn => ?_)
  have hd : ∃ o, h'.get? dx = some o := let ⟨o, _, _, e', _⟩ := hn; ⟨o, e'⟩
  exact h _ (I.write (t' := tk') (x := dx) (e := dx) (o := exd dx ((f, y) :: fs)) (by rw [ed]; exact True.intro) (.inl rfl) k hd (exd_ok hn (relO_put ry rel)))
end
/-! ### readings and rules -/
/-- self.f = e -/
def tOstB (K : PySem.W.Frag) (nid : String) (bmB : List Value) (f : Str) (to te : TE) : TS := fun D σ H => te σ H fun y H1 => to σ H1 fun x H2 => ∃ a C : Addr, x = .ref a ∧ OexB K C nid bmB ∧ PySem.W.findIn K (.ref C) f = some none ∧
  ((H2 a = some (exo a C none) ∧ ∀ dx, H2 dx = none → dx ≠ a → D.nx σ (upd (upd H2 dx (exd dx [(f, y)])) a (exo a C (some dx)))) ∨
    ∃ (dx : Addr) (fs : List (Str × V)), H2 a = some (exo a C (some dx)) ∧ H2 dx = some (exd dx fs) ∧ fs.length ≤ 900 ∧ D.nx σ (upd H2 dx (exd dx ((f, y) :: fs))))
section
variable {X : Cx} {nid : String} {bmB : List Value} {o e : Expr} {es : List Expr} {to te : TE} {ta : TA} {f : Str} {p p' pos : Pos}
theorem ps_ostB (ho : PE X o to) (he : PE X e te) (hs : swapsWith e (some (.Attribute o f p')) pos.line X.env = pure false := by rfl) : PS X (.Assign [.Attribute o f p'] e pos) (tOstB X.K nid bmB f to te) := by
  refine ⟨fun pins s σ H D I h => plainObj_wpAny_Assign_Attribute (thn (he.run pins s σ H _ I h) fun v s1 ⟨y, H1, I1, r1, q1⟩ => thn (ho.run pins s1 σ H1 _ I1 q1) ?_) hs⟩
  rintro u s2 ⟨x, H2, I2, r2, a, C, ex, T, hno, q⟩
  subst ex
  obtain rfl : u = Value.ref a := r2
  rcases q with ⟨ea, q⟩ | ⟨dx, fs, ea, ed, hl, q⟩
  · exact ostN T I2 ea hno r1 fun dx s' n ne J => ⟨σ, _, J, q dx n ne⟩
  · exact ostO T I2 ea ed hl hno r1 fun s' J => ⟨σ, _, J, q⟩
/-- the making, the arguments at hand -/
theorem make_at {CX : CXT} {B initId : String} {C fI : Addr} {k : Nat} {fd : FuncData} {ps : List Str} {sp : Sp} (EF : ExcBaseFacts B nid initId bmB) (T : OexB X.K C nid bmB) (iC : PySem.W.findIn X.K (.ref C) "__init__" = some (some (.ref fI))) (tI : PySem.W.typeIn X.K (.ref fI) = some (.type "function"))
    (F1 : FnOk X.prog X.w X.K X.mg X.base CX k fI fd ps sp) (hr : Room (k + 1) X.A) (hb : Binds X.K fd ps []) (hx : Passes CX X (fun _ _ _ => False)) {pins : List (Addr × Obj)} {σ : L2.St} {H1 : Hp} {s1 : Shared} {vs : List V} {us : List Value} {Q : XK} (I1 : Inv X pins σ H1 s1) (r1 : Vals vs us) (hz : vs.length ≤ 1000)
    (q1 : ∀ a, H1 a = none → sp (.ref a :: vs) (upd H1 a (exo a C none)) (fun v H2 => v = .non ∧ ∃ (d : Addr) (fs : List (Str × V)), H2 a = some (exo a C (some d)) ∧ H2 d = some (exd d fs) ∧ H1 d = none ∧ Q (.ref C) (some d) (upd (del H2 a) d (.xd fs))) (fun _ _ _ => False)) :
    wpAny (model X.prog X.w) X.A (call (.ref C) us) (MkP X pins σ Q) X.xe s1 := by
  obtain ⟨nm, q, N, bs, bm, sn, sub, ab, col, dd, k0, k1, k2, k3, k5, hC, h1, h2⟩ := T.cls
  obtain ⟨hp, g, dr, tk, os⟩ := s1
  have le : hp.objs.size ≤ hp.objs.size + 1 := Nat.le_succ _
  have hq := q1 (hp.objs.size + 1) (I1.hok.fresh le)
  have up : ∀ b o, hp.get? b = some o → ((hp.push (PySem.W.kdv_tup us)).push (excO C hp.objs.size)).get? b = some o := fun b o z => Heap.get?_push_of_some _ (Heap.get?_push_of_some _ z)
  have at1 : ((hp.push (PySem.W.kdv_tup us)).push (excO C hp.objs.size)).get? (hp.objs.size + 1) = some (excO C hp.objs.size) := by heap_get
  have I2 : Inv X pins σ (upd H1 (hp.objs.size + 1) (exo (hp.objs.size + 1) C none)) ⟨(hp.push (PySem.W.kdv_tup us)).push (excO C hp.objs.size), g, dr, tk, os⟩ := I1.laid (t' := tk) up le (exo_ok at1)
  have r2 : Vals (V.ref (hp.objs.size + 1) :: vs) (Value.ref (hp.objs.size + 1) :: us) := .cons rfl r1
  have len : (Value.ref (hp.objs.size + 1) :: us ++ []).length = ps.length := by
    rw [List.append_nil, ← r2.length]
    exact F1.len _ _ _ _ hq
  have bi := hb _ (Value.ref (hp.objs.size + 1) :: us) I2.kIn len
  rw [List.append_nil] at bi
  have small : us.length ≤ sizeLine := by
    rw [← Paired.length r1, sizeLine_eq]
    omega
  have run := F1.run _ X.stack _ _ ⟨Value.ref (hp.objs.size + 1) :: us, []⟩ (Value.ref (hp.objs.size + 1) :: us) _ _ (fun _ _ _ => False) (hr.make C us []) (I2.env0.make C us []) bi r2 hq
  refine wpAny_call (call_own EF h1 (I1.kIn _ _ hC) (PySem.W.looks_findIn I1.kIn iC) (fun self => PySem.W.bind_fn I1.kIn self tI) small (codeAny_mono run ?_))
  rintro (er | fl) s' hq'
  · exact hx pins σ _ _ er s' I2 hq'
  · cases fl with
    | ret u =>
      obtain ⟨v, H2, os2, bare2, un2, hok2, rv, ev, d, fs, ea, ed, hd1, q2⟩ := hq'
      subst ev
      exact ⟨rv, mk_end (raises_own T.exC T.tyC) I1 le up un2 hok2 os2 bare2 ea ed hd1 q2⟩
    | next => cases hq'
    | brk => cases hq'
    | cont => cases hq'
def tMkB (C : Addr) (sp : Sp) (ta : TA) : L2.St → Hp → XK → Prop := fun σ H Q => ta σ H fun vs H1 => vs.length ≤ 1000 ∧ ∀ a, H1 a = none → sp (.ref a :: vs) (upd H1 a (exo a C none))
  (fun v H2 => v = .non ∧ ∃ (d : Addr) (fs : List (Str × V)), H2 a = some (exo a C (some d)) ∧ H2 d = some (exd d fs) ∧ H1 d = none ∧ Q (.ref C) (some d) (upd (del H2 a) d (.xd fs))) (fun _ _ _ => False)
theorem pmk_oexB {CX : CXT} {B initId : String} {x : Str} {C fI : Addr} {k : Nat} {fd : FuncData} {ps : List Str} {sp : Sp} (EF : ExcBaseFacts B nid initId bmB) (T : OexB X.K C nid bmB) (iC : PySem.W.findIn X.K (.ref C) "__init__" = some (some (.ref fI))) (tI : PySem.W.typeIn X.K (.ref fI) = some (.type "function"))
    (F1 : FnOk X.prog X.w X.K X.mg X.base CX k fI fd ps sp) (hr : Room (k + 1) X.A) (hb : Binds X.K fd ps []) (hx : Passes CX X (fun _ _ _ => False)) (hg : Gl X x) (hm : X.mg x = some (.ref C)) (ha : PA X (e :: es) ta)
    (hdb : (x == ("__debug__" : Str)) = false := by decide) (he : starEach (e :: es) X.env = (false, eval e X.env) :: starEach es X.env := by rfl) (hpl : (backTo pos (starEach es X.env)).any (·.1) = false := by rfl) :
    PMk X (.Call (.Name x p) (e :: es) [] pos) (tMkB C sp ta) := fun pins s σ H Q I h =>
  wpAny_Call_Name_kw (ld_glob I hg hm (PySem.W.callWith_K (h₀ := X.base) I.ok.mod.kin T.kC (thn (ha.run pos pins s σ H _ I h) fun us s1 ⟨vs, H1, I1, r1, hz, q1⟩ => ⟨I1.kIn, make_at EF T iC tI F1 hr hb hx I1 r1 hz q1⟩) he hpl) hdb)
theorem pmk_oexB0 {CX : CXT} {B initId : String} {x : Str} {C fI : Addr} {k : Nat} {fd : FuncData} {ps : List Str} {sp : Sp} (EF : ExcBaseFacts B nid initId bmB) (T : OexB X.K C nid bmB) (iC : PySem.W.findIn X.K (.ref C) "__init__" = some (some (.ref fI))) (tI : PySem.W.typeIn X.K (.ref fI) = some (.type "function"))
    (F1 : FnOk X.prog X.w X.K X.mg X.base CX k fI fd ps sp) (hr : Room (k + 1) X.A) (hb : Binds X.K fd ps []) (hx : Passes CX X (fun _ _ _ => False)) (hg : Gl X x) (hm : X.mg x = some (.ref C)) (hdb : (x == ("__debug__" : Str)) = false := by decide) :
    PMk X (.Call (.Name x p) [] [] pos) (tMkB C sp tNil) := fun pins s σ H Q I h =>
  wpAny_Call_Name_kw (ld_glob I hg hm (PySem.W.callWith_K0 I.kIn T.kC (make_at EF T iC tI F1 hr hb hx I .nil (Nat.zero_le _) h.2)) hdb)
end
end HL

namespace HL
open PySem PySem.Spec PyProof.Rows L2
/-! sorted(t), t a tuple of ints -/
def rSortedTup (K : PySem.W.Frag) : List V → Hp → VK → Prop := fun vs H Q => ∃ (a : Addr) (ns : List Int), vs = [V.ref a] ∧ SqT K H a (ns.map V.int) ∧ ∀ (ns' : List Int) (p : Addr), ns'.Perm ns → ns'.Pairwise (· ≤ ·) → H p = none → Q (.ref p) (upd H p (.lst (ns'.map V.int)))
theorem cr_sortedTup {X : Cx} : CallR X (.builtin "sorted") (rSortedTup X.K) := by
  intro pins s σ H vs us Q I r h
  obtain ⟨a, ns, rfl, hs, q⟩ := h
  obtain ⟨its, rv, ⟨o, ho, hc, n, hd⟩, hz⟩ := I.tuple hs
  rw [Vals.ref1 r]
  have hi := rv.ints
  have hz' : its.length ≤ sizeLine := by rw [← rv.length]; exact hz
  refine Calls.call_function_entry kind_sorted plain_sorted entry_sorted (args_sorted1 _) ?_
  unfold Builtin.«sorted»
  refine wpAny_bind (m := checkCount "sorted" 1 1 _) (wpAny_pure (wpAny_bind (wpAny_collect_seq (T := "tuple") a (.inr rfl) ho hc hd (fun h1 k1 => ?_) (by rw [List.size_toArray]; exact hz'))))
  rw [List.toList_toArray]
  refine wpAny_bind (wpAny_newList ?_ hz')
  have at1 : (h1.push (seqObj "list" its.toArray 0)).get? h1.objs.size = some (seqObj "list" its.toArray 0) := Heap.get?_push_size _ rfl
  have I1 := I.kept (t' := s.toks) k1
  refine wpAny_bind (wpAny_holding (wpAny_call_entry slot_list_sort ⟨_, at1, rfl⟩ entry_list_sort (SrtO.list_sort_ord SrtO.swo_int at1 hz' (fun h2 => SrtO.ints_sortable hi h2) fun out p1 p2 => ⟨_, rfl, ?_⟩) (args_list_sort _)))
  refine wpAny_pure ⟨_, rfl, ?_⟩
  obtain ⟨j1, j2, j3⟩ := SrtO.ints_out hi p1 p2
  obtain ⟨ep, he⟩ := sortedHeap_at (vs := its) (out := out.toArray) at1
  have hl : ((out.map SrtO.iv).map V.int).length ≤ sizeLine := by
    rw [List.length_map, j2.length_eq]
    rw [List.length_map] at hz
    exact hz
  refine ⟨.ref _, upd H h1.objs.size (.lst ((out.map SrtO.iv).map V.int)), I1.laid (t' := s.toks) (fun b o e => ?_) (Nat.le_refl _) ⟨hl, out, ep, vals_of_ints j1, he⟩, rfl, q _ _ j2 j3 (I1.hok.fresh (Nat.le_refl _))⟩
  have lb : b < h1.objs.size := Heap.lt_size e
  rw [sortedHeap_old (Nat.ne_of_lt lb) (by rw [Heap.size_push]; exact Nat.lt_succ_of_lt lb)]
  exact Heap.get?_push_of_some _ e
end HL

namespace HL
open PySem PySem.Spec PyProof.Rows L2
open AutoSeq1 (wpAny_loadPart')
/-! t * k, k from 0 on: no times is a new tuple of nothing -/
theorem tuple_mul0 (l : Addr) (items : Array Value) (n : Nat) (dd : Option Addr) (sl : Array (Option Value)) (u : Tok) (he : items.isEmpty = false) :
    Meets (Builtin.«tuple.__mul__» ⟨[.ref l, .int 0 u], []⟩)
      (fun _ R s => s.heap.get? l = some { cls := .type "tuple", dict := dd, data := .seq items n, slots := sl } ∧ R (.ok (.ret (.ref s.heap.objs.size))) { s with heap := s.heap.push { cls := .type "tuple", data := .seq #[] }, toks := s.toks }) :=
  .of_wp fun prog w A R s h => by
    obtain ⟨hp, g, d, tk, os⟩ := s
    obtain ⟨hl, h⟩ := h
    have f1 := AutoSeq1.idx_int
    have e1 : ¬ ((items.isEmpty || ((0 : Int) == 1)) = true) := by rw [he]; decide
    have e2 : (decide ((0 : Int) ≤ 0) || items.isEmpty) = true := by rw [he]; decide
    have e3 : ¬ ((#[] : Array Value).size > sizeLine) := by show ¬ (0 > sizeLine); decide
    wp_walk using wpAny_loadPart' hl
    repeat (first
      | (refine wpAny_ite_false (by decide) ?_; wp_walk using wpAny_loadPart' hl)
      | (refine wpAny_ite_false (decide_eq_false e1) ?_; wp_walk using wpAny_loadPart' hl)
      | (refine wpAny_ite_true (decide_eq_true e2) ?_; wp_walk using wpAny_loadPart' hl)
      | (refine wpAny_ite_true (by decide) ?_; wp_walk using wpAny_loadPart' hl)
      | (refine wpAny_ite_false (decide_eq_false e3) ?_; wp_walk using wpAny_loadPart' hl))
    exact ⟨_, rfl, h⟩
/-- no times, or as often as rRepA lets -/
def rRepN (K : PySem.W.Frag) : R2 := fun x y H Q => (∃ l xs, x = .ref l ∧ y = .int 0 ∧ SqT K H l xs ∧ xs ≠ [] ∧ ∀ p, H p = none → Q (.ref p) (upd H p (.tup []))) ∨ rRepA K x y H Q
theorem op_repN {X : Cx} : OpR X (binaryOp .Mult) (rRepN X.K) := by
  intro pins s σ H x y v u Q I rx ry h
  rcases h with ⟨l, xs, rfl, rfl, hT, hne, q⟩ | h
  · cases rx
    obtain ⟨t, rfl⟩ := ry
    obtain ⟨its, r, ⟨⟨cl, dd, dat, sl⟩, ho, hc, n, hd⟩, _⟩ := I.tuple hT
    simp only at hc hd
    subst hc hd
    have he : its.toArray.isEmpty = false := by
      cases its with
      | nil => exact absurd (List.eq_nil_of_length_eq_zero r.length) hne
      | cons a b => rfl
    refine wpAny_binaryOp_repeat_ref (T := "tuple") (U := "int") (by decide) ⟨_, ho, rfl⟩ (fun s' => typeIs_int s' 0 t) noFill_tuple_mul F.fills_int_mul F.slot_int_rmul repeat_tuple F.slot_int_index.lookup
      (call_meets F.slot_int_rmul (typeIs_int s 0 t) F.entry_int_rmul (F.args_int_rmul_2 _ _) (int_rmul_tuple 0 t l its.toArray n dd sl)
        ⟨ho, rfl, ⟨_, ho, rfl⟩, call_meets F.slot_tuple_mul ⟨_, ho, rfl⟩ F.entry_tuple_mul (F.args_tuple_mul_2 _ _) (tuple_mul0 l its.toArray n dd sl t he) ⟨ho, ?_⟩⟩)
    exact ⟨.ref s.heap.objs.size, _, I.laid (t' := s.toks) (o := .tup []) (fun b ob e => Heap.get?_push_of_some _ e) (Nat.le_refl _) ⟨Nat.zero_le _, [], .nil, IsTup.new _ _⟩, rfl, q _ (I.hok.fresh (Nat.le_refl _))⟩
  · exact op_repA pins s σ H x y v u Q I rx ry h
end HL

namespace HL
open PySem PySem.Spec PyProof.Rows L2 SX
open TL (tl)
/-! ### numbers in a text -/
abbrev ten : List Nat := [48, 49, 50, 51, 52, 53, 54, 55, 56, 57]
def figs : List Nat → List Nat
  | 45 :: r => r
  | z => z
def dig (c : Nat) : Bool := decide (c ∈ ten)
def hd0 (z : List Nat) : Bool := decide (z.head? = some 48)
def isNum (z : List Nat) : Bool := decide (1 ≤ (figs z).length ∧ (figs z).length ≤ 30) && ((figs z).all dig && (!hd0 (figs z) || decide (z = [48])))
def valW (z : List Nat) : Int := match z with
  | 45 :: r => -((NumText.digitsVal r : Nat) : Int)
  | z => ((NumText.digitsVal z : Nat) : Int)
def numV (z : List Nat) : V := if isNum z = true then .int (valW z) else .non
theorem dig_iff {c : Nat} : dig c = true ↔ 48 ≤ c ∧ c ≤ 57 := by
  unfold dig ten
  rw [decide_eq_true_iff]
  simp only [List.mem_cons, List.mem_nil_iff, or_false]
  omega
theorem figs_ne {z : List Nat} (h : z.head? ≠ some 45) : figs z = z := by
  unfold figs
  split
  · exact absurd rfl h
  · rfl
theorem figs_le (z : List Nat) : (figs z).length ≤ z.length := by
  unfold figs
  split
  · rw [List.length_cons]
    omega
  · exact Nat.le_refl _
theorem valW_ne {z : List Nat} (h : z.head? ≠ some 45) : valW z = ((NumText.digitsVal z : Nat) : Int) := by
  unfold valW
  split
  · exact absurd rfl h
  · rfl
theorem isNum_parts {z : List Nat} (h : isNum z = true) : 1 ≤ (figs z).length ∧ (figs z).length ≤ 30 ∧ NumText.AllDigits (figs z) := by
  unfold isNum at h
  rw [Bool.and_eq_true, Bool.and_eq_true, decide_eq_true_iff, List.all_eq_true] at h
  exact ⟨h.1.1, h.1.2, fun c hc => dig_iff.mp (h.2.1 c hc)⟩
theorem int_word {z : List Nat} (h : isNum z = true) : intText? (S z) = some (valW z) ∧ (S z).length ≤ 640 := by
  obtain ⟨h1, h2, h3⟩ := isNum_parts h
  have hz : z.length ≤ 31 := by
    unfold figs at h2
    split at h2
    · rw [List.length_cons]
      omega
    · omega
  have hl : (S z).length ≤ 640 := by
    rw [S_len]
    omega
  refine ⟨?_, hl⟩
  by_cases c : z.head? = some 45
  · cases z with
    | nil => cases c
    | cons x r =>
      have e : x = 45 := Option.some.inj c
      subst e
      have h3' : NumText.AllDigits r := h3
      have h1' : 1 ≤ r.length := h1
      have := intText_neg (x := S (45 :: r)) (cs := r) rfl h3' (fun e => by rw [e] at h1'; simp at h1') (by omega)
      exact this
  · rw [figs_ne c] at h1 h3
    have := intText_digits (x := S z) h3 (fun e => by rw [show z = [] from e] at h1; simp at h1) (by omega)
    rw [valW_ne c]
    exact this
/-! ### numbers written -/
def wr (n : Int) : List Nat := if 0 ≤ n then TL.numL n.toNat else 45 :: TL.numL n.natAbs
theorem tl_wr (n : Int) : Str.ofString (toString n) = S (wr n) := by
  refine TL.ext_tl ?_
  unfold wr
  by_cases h : 0 ≤ n
  · rw [if_pos h]
    have e : n = ((n.toNat : Nat) : Int) := by omega
    have := TL.tl_num n.toNat
    rw [← e] at this
    exact this
  · rw [if_neg h]
    obtain ⟨m, rfl⟩ : ∃ m : Nat, n = Int.negSucc m := by
      cases n with
      | ofNat m => exact absurd (Int.natCast_nonneg m) h
      | negSucc m => exact ⟨m, rfl⟩
    have e1 : toString (Int.negSucc m) = "-" ++ toString ((m + 1 : Nat) : Int) := rfl
    rw [e1]
    have e2 : Str.ofString ("-" ++ toString ((m + 1 : Nat) : Int)) = Str.ofString "-" ++ Str.ofString (toString ((m + 1 : Nat) : Int)) := by
      refine TL.ext_tl ?_
      rw [TL.tl_append, TL.tl_ofString, TL.tl_ofString, TL.tl_ofString, String.toList_append, List.map_append]
    rw [e2, TL.tl_append, TL.tl_num]
    rfl
theorem numL_head {n : Nat} (h : 0 < n) : (TL.numL n).head? ≠ some 48 := by
  induction n using Nat.strongRecOn with
  | _ n ih =>
    by_cases c : n < 10
    · rw [TL.numL_lt c]
      intro e
      have := Option.some.inj e
      omega
    · have i1 := ih (n / 10) (by omega) (by omega)
      rw [TL.numL_step (by omega)]
      cases e : TL.numL (n / 10) with
      | nil => exact absurd e (TL.numL_ne _)
      | cons x r =>
        rw [e] at i1
        exact i1
theorem numL_h45 (n : Nat) : (TL.numL n).head? ≠ some 45 := fun e => by
  have hm : 45 ∈ TL.numL n := List.mem_of_mem_head? e
  have := TL.numL_digits n 45 hm
  omega
theorem wr_free {n : Int} {s : Nat} (h : s < 48 ∨ 57 < s) (h2 : s ≠ 45) : s ∉ wr n := by
  unfold wr
  split
  · exact TL.numL_free h
  · intro hm
    rcases List.mem_cons.mp hm with e | e
    · exact h2 e
    · exact TL.numL_free h e
theorem wr_len {n : Int} (h : n.natAbs < 10 ^ 30) : (wr n).length ≤ 31 := by
  unfold wr
  split
  · have := TL.numL_len (n := n.toNat) (k := 30) (by decide) (by omega)
    omega
  · have := TL.numL_len (n := n.natAbs) (k := 30) (by decide) h
    rw [List.length_cons]
    omega
theorem wr_num {n : Int} (h : n.natAbs < 10 ^ 30) : isNum (wr n) = true ∧ valW (wr n) = n := by
  by_cases c : 0 ≤ n
  · have e : wr n = TL.numL n.toNat := by unfold wr; rw [if_pos c]
    have hf : figs (TL.numL n.toNat) = TL.numL n.toNat := figs_ne (numL_h45 _)
    have hl := TL.numL_len (n := n.toNat) (k := 30) (by decide) (by omega)
    have hn : 1 ≤ (TL.numL n.toNat).length := by
      cases z : TL.numL n.toNat with
      | nil => exact absurd z (TL.numL_ne _)
      | cons x r => rw [List.length_cons]; omega
    rw [e]
    refine ⟨?_, ?_⟩
    · unfold isNum
      rw [hf, Bool.and_eq_true, Bool.and_eq_true, decide_eq_true_iff, List.all_eq_true]
      refine ⟨⟨hn, hl⟩, fun x hx => dig_iff.mpr (TL.numL_digits _ x hx), ?_⟩
      by_cases z : n.toNat = 0
      · rw [z]
        decide
      · have : hd0 (TL.numL n.toNat) = false := decide_eq_false (numL_head (by omega))
        rw [this]
        rfl
    · rw [valW_ne (numL_h45 _), TL.numL_val]
      omega
  · have e : wr n = 45 :: TL.numL n.natAbs := by unfold wr; rw [if_neg c]
    have hl := TL.numL_len (n := n.natAbs) (k := 30) (by decide) h
    have hn : 1 ≤ (TL.numL n.natAbs).length := by
      cases z : TL.numL n.natAbs with
      | nil => exact absurd z (TL.numL_ne _)
      | cons x r => rw [List.length_cons]; omega
    rw [e]
    refine ⟨?_, ?_⟩
    · show (decide (1 ≤ (TL.numL n.natAbs).length ∧ (TL.numL n.natAbs).length ≤ 30) && ((TL.numL n.natAbs).all dig && (!hd0 (TL.numL n.natAbs) || decide (45 :: TL.numL n.natAbs = [48])))) = true
      rw [Bool.and_eq_true, Bool.and_eq_true, decide_eq_true_iff, List.all_eq_true]
      refine ⟨⟨hn, hl⟩, fun x hx => dig_iff.mpr (TL.numL_digits _ x hx), ?_⟩
      have : hd0 (TL.numL n.natAbs) = false := decide_eq_false (numL_head (by omega))
      rw [this]
      rfl
    · show -((NumText.digitsVal (TL.numL n.natAbs) : Nat) : Int) = n
      rw [TL.numL_val]
      omega
/-! ### rows in a text -/
def wordsOf (z : List Nat) : List (List Nat) := TL.spl [44] 0 [] z
theorem split_words (z : List Nat) : Txt.split (S z) (S [44]) = (wordsOf z).map S := split_S (by decide) (by decide)
def rowL (ns : List Int) : List Nat := TL.joinL [44] (ns.map wr)
theorem words_row {ns : List Int} (h : ns ≠ []) : wordsOf (rowL ns) = ns.map wr := by
  refine TL.spl_join (fun e => h (List.map_eq_nil_iff.mp e)) fun p hp => ?_
  obtain ⟨n, _, rfl⟩ := List.mem_map.mp hp
  exact wr_free (.inl (by decide)) (by decide)
theorem join_row (ns : List Int) : Txt.join (S [44]) ((ns.map wr).map S) = S (rowL ns) := join_S _ _
theorem joinL_len : ∀ {ps : List (List Nat)} {k : Nat}, (∀ p ∈ ps, p.length ≤ k) → (TL.joinL [44] ps).length ≤ ps.length * (k + 1)
  | [], k, _ => Nat.zero_le _
  | [p], k, h => by
    have := h p List.mem_cons_self
    show p.length ≤ 1 * (k + 1)
    omega
  | p :: q :: r, k, h => by
    have h1 := h p List.mem_cons_self
    have h2 := joinL_len (ps := q :: r) (k := k) fun z hz => h z (List.mem_cons_of_mem _ hz)
    show (p ++ ([44] ++ TL.joinL [44] (q :: r))).length ≤ (q :: r).length.succ * (k + 1)
    rw [List.length_append, List.length_append, List.length_singleton, Nat.succ_mul]
    omega
theorem rowL_len {ns : List Int} (h : ∀ n ∈ ns, n.natAbs < 10 ^ 30) : (rowL ns).length ≤ ns.length * 32 := by
  have := joinL_len (ps := ns.map wr) (k := 31) fun p hp => by
    obtain ⟨n, hn, rfl⟩ := List.mem_map.mp hp
    exact wr_len (h n hn)
  rw [List.length_map] at this
  exact this
theorem spl_len : ∀ (z acc : List Nat), (TL.spl [44] 0 acc z).length ≤ z.length + 1 ∧ ∀ p ∈ TL.spl [44] 0 acc z, p.length ≤ acc.length + z.length
  | [], acc => by
    rw [TL.spl_nil]
    exact ⟨Nat.le_refl _, fun p hp => by rw [List.mem_singleton.mp hp]; exact Nat.le_refl _⟩
  | c :: r, acc => by
    cases e : TL.pre [44] (c :: r) with
    | true =>
      rw [TL.spl_hit e]
      obtain ⟨h1, h2⟩ := spl_len r []
      refine ⟨by rw [List.length_cons, List.length_cons]; exact Nat.succ_le_succ h1, fun p hp => ?_⟩
      rcases List.mem_cons.mp hp with x | x
      · rw [x]; omega
      · have := h2 p x
        rw [List.length_cons]
        simp at this
        omega
    | false =>
      rw [TL.spl_miss e]
      obtain ⟨h1, h2⟩ := spl_len r (acc ++ [c])
      refine ⟨by rw [List.length_cons]; omega, fun p hp => ?_⟩
      have := h2 p hp
      rw [List.length_append, List.length_singleton] at this
      rw [List.length_cons]
      omega
theorem words_len (z : List Nat) : (wordsOf z).length ≤ z.length + 1 ∧ ∀ p ∈ wordsOf z, p.length ≤ z.length := by
  have := spl_len z []
  exact ⟨this.1, fun p hp => by have := this.2 p hp; simp at this; exact this⟩
/-- a prefix taken away -/
theorem rp_eq (z : List Nat) : Txt.removeprefix (S z) (S [45]) = S (figs z) := by
  rw [PySem.StrLaws.removeprefix_eq]
  have key := TL.at_iff (x := S z) (y := S [45]) (by decide) 0
  rw [List.drop_zero] at key
  have key2 : (decide (0 + (S [45]).length ≤ (S z).length) && Builtin.Str.subAt (S z) (S [45]) 0) = true ↔ TL.pre [45] z = true := by
    rw [Bool.and_eq_true, decide_eq_true_iff]
    exact key
  cases z with
  | nil =>
    rw [if_neg (fun h => by have := key2.mp h; cases this)]
    rfl
  | cons c r =>
    by_cases h : c = 45
    · subst h
      rw [if_pos (key2.mpr (TL.pre_self [45] r))]
      refine TL.ext_tl ?_
      show (List.drop 1 (45 :: r)).take _ = r
      rw [List.drop_succ_cons, List.drop_zero]
      refine List.take_of_length_le ?_
      rw [S_len, S_len, List.length_cons, List.length_singleton]
      omega
    · rw [if_neg (fun h2 => ?_)]
      · rw [figs_ne (z := c :: r) (fun e => h (Option.some.inj e))]
      · have := key2.mp h2
        rw [TL.pre_of_head [] r h] at this
        cases this
end HL

namespace HL
open PySem PySem.Spec PyProof.Rows L2
/-! a list comprehension whose element may raise: what a call in it lets out leaves the def -/
section
variable {X : Cx}
/-- what is in the air of the def goes on out of a comprehension's block -/
theorem xe_comp {W : WX} {ce : Env} {C : Addr} {u : Value} {s' : Shared} {m : Str → Option Value} (hs : X.stack = X.env :: X.outer) (hf : X.env.frame = some X.env.locals) (hcf : ce.frame = X.env.frame) (hL : ce.locals = C)
    (hn : s'.heap.Ns C m) (hst : C ∉ frs X.stack) (p1 : C ≠ X.env.locals) (p3 : C ∈ X.ex ∨ X.s_0.heap.objs.size ≤ C) (p4 : ∀ x c, X.env.cells.lookup x = some c → c ≠ C) (p5 : ∀ p ∈ X.pn, p.1 ≠ C) (tk : Takes X W) (x : XE X (fun cls d σ H => W cls d σ H ∧ H C = none) u s') :
    notedBy (model X.prog X.w) X.A ce (CompFails (model X.prog X.w) X.A X.xe ce) u s' := by
  obtain ⟨a, B, sI, pins, σ, H, cls, d, rfl, I0, nb, up, sky, na, os, ag, w, p0⟩ := x
  have I : Inv X [] σ H sI := ⟨I0.ok, I0.os, I0.bare, I0.base, I0.loc, I0.cell, I0.free, I0.freeC, fun p hp => I0.pin p (List.mem_append_left _ (by simpa using hp)), I0.hok, I0.len⟩
  have hfr : X.A.frames = some (X.env :: X.outer) := by rw [I.ok.frames, hs]
  have fin : ∀ h1, HandSPX.HeldZ B (X.env :: X.outer) a (Zc cls d) X.env.locals h1 → s'.heap.UpToSlots h1 → CompFails (model X.prog X.w) X.A X.xe ce (.ref a) { s' with heap := h1 } := fun h1 hh up1 => by
    obtain ⟨b1, b0, f1, t1⟩ := hh
    have hn1 : h1.Ns C m := hn.upToSlots up1
    refine ⟨m, by rw [hL]; exact hn1, fun h₂ m₂ hn₂ hs₂ => ?_⟩
    rw [hL] at hn₂ hs₂
    obtain ⟨oC, eC, epC, hoC, hdC, _⟩ := hn1
    obtain ⟨oe, vs, T, oT, ts, he, hz, hd, h1', hnT, hTe, hT, hdT, h3⟩ := t1
    have aC : a ≠ C := fun e => by
      rw [e, hoC] at he
      cases he
      rw [hdC] at hd
      cases hd
    have TC : T ≠ C := fun e => by
      rw [e, hoC] at hT
      cases hT
      rw [hdC] at hdT
      cases hdT
    have he2 : h₂.get? a = some oe := (hs₂.2 a aC).trans he
    have hT2 : h₂.get? T = some oT := (hs₂.2 T TC).trans hT
    have hB' : ∀ b o, (PySem.W.hideAll B [C]).get? b = some o → b ≠ C ∧ B.get? b = some o := fun b o e => by
      refine ⟨fun z => ?_, PySem.W.of_hideAll _ e⟩
      rw [z, PySem.W.hideAll_none _ List.mem_cons_self] at e
      cases e
    have hBn : ∀ b, B.get? b = none → (PySem.W.hideAll B [C]).get? b = none := fun b e => by
      cases q : (PySem.W.hideAll B [C]).get? b with
      | none => rfl
      | some o =>
        have := (hB' b o q).2
        rw [e] at this
        cases this
    have b2 : (PySem.W.hideAll B [C]).StaysIn h₂ := fun b o hb => by
      obtain ⟨n1, n2⟩ := hB' b o hb
      exact (hs₂.2 b n1).trans (b1 b o n2)
    have f2 : h₂.FunFrames (PySem.W.hideAll B [C]) (X.env :: X.outer) := by
      have f1' : h1.FunFrames (PySem.W.hideAll B [C]) (X.env :: X.outer) := funFrames_none f1 fun b hb => hBn b (f1.mem hb).1
      exact Heap.FunFrames.sameBut hs₂ hn₂ f1'
    have t2 : HandSPX.TracedZ h₂ (PySem.W.hideAll B [C]) a (Zc cls d) (rawInt X.env.locals) := ⟨oe, vs, T, oT, ts, he2, hz, hd, h1', hBn T hnT, hTe, hT2, hdT, h3⟩
    unfold PySem.passOn
    refine wpAny_bind (wpAny_field he2 hd h1' ?_)
    rw [if_neg (show ¬ ((Value.ref T == Value.none) = true) from by simp)]
    rw [hcf, hf]
    refine wpAny_bind (HandSPX.setFlight_onZ (s := { s' with heap := h₂ }) ⟨b2, hBn a b0, f2, t2⟩ fun h₃ hh3 up3 => ?_)
    refine wpAny_throw (tk _ _ ?_)
    refine ⟨a, PySem.W.hideAll B [C], { sI with heap := PySem.W.hideAll sI.heap [C], toks := sI.toks }, [], σ, H, cls, d, rfl, I.turned (t' := sI.toks) (it := C) (fun b o hb e => PySem.W.hideAll_get _ e (by simpa using hb)) p0 p1 p3 p4 (fun p hp => p5 p (by simpa using hp)), fun b o e hb => ?_, fun b o e hnf => ?_, ?_, na, os, ag, w⟩
    · have e' : (PySem.W.hideAll sI.heap [C]).get? b = some o := e
      have nC : b ≠ C := fun z => by
        rw [z, PySem.W.hideAll_none _ List.mem_cons_self] at e'
        cases e'
      exact PySem.W.hideAll_get _ (nb b o (PySem.W.of_hideAll _ e') hb) (by simpa using nC)
    · have e' : (PySem.W.hideAll sI.heap [C]).get? b = some o := e
      have nC : b ≠ C := fun z => by
        rw [z, PySem.W.hideAll_none _ List.mem_cons_self] at e'
        cases e'
      obtain ⟨sl1, q1⟩ := up b o (PySem.W.of_hideAll _ e') hnf
      obtain ⟨sl2, q2⟩ := up1 b _ q1 hnf
      obtain ⟨sl3, q3⟩ := up3 b _ ((hs₂.2 b nC).trans q2) hnf
      exact ⟨sl3, q3⟩
    · rw [hs]
      exact .inr (.inr hh3)
  show wpAny _ _ (noteFrame (.ref a) ce) _ _ s'
  rw [noteFrame_env _ hcf]
  rw [hs] at sky
  rcases sky with ⟨hB, hn', hl, oe, vs, he, hz, hd, h1⟩ | fl | hh
  · exact HandSPX.look_newZ Zc.steady hfr hl hf he hB hn' hd h1 hz fin
  · exact HandSPX.looks_onZ Zc.steady hfr hf fl fin
  · exact HandSPX.againZ hf hh.2.2.2 (fin s'.heap hh (Heap.UpToSlots.refl _))
/-- [elt for target in iter if ..], the element may raise -/
theorem pe_lcR {elt tg iter : Expr} {ifs : List Expr} {scope : Scope} {own : List (Str × Nat)} {pos : Pos} {wi : TI} {g : TG} {tt : TT} {te : TE} {E : XK} {W : WX} (hc : X.calm = true) (hN : X.N.Nodup) (hst : X.stack = X.env :: X.outer) (hfr : X.env.frame = some X.env.locals) (tk : Takes X W) (hW : ∀ cls d σ H, E cls d H → W cls d σ H)
    (hi : PI X tg iter wi) (ok : BlkOk X.N X.env.scope scope own)
    (hg : ∀ (s : Shared) (H : Hp) (C : Addr) (cl : List (Str × Addr)) (fp : List Addr), PG (X.blk s H scope (compEnvC scope cl C X.env) fp) tg g) (ht : ∀ (s : Shared) (H : Hp) (C : Addr) (cl : List (Str × Addr)) (fp : List Addr), PTs (X.blk s H scope (compEnvC scope cl C X.env) fp) ifs tt)
    (he : ∀ (s : Shared) (H : Hp) (C : Addr) (cl : List (Str × Addr)) (fp : List Addr) (R : Value → Shared → Prop), Passes (L2.CX X.prog X.w) ((X.blk s H scope (compEnvC scope cl C X.env) fp).wish R) E → PE ((X.blk s H scope (compEnvC scope cl C X.env) fp).wish R) elt te) (hs : ∀ x, foldedSetIterable iter X.env x = pure x := by intro _; rfl) :
    PE X (.ListComp elt [⟨tg, iter, ifs, 0⟩] scope pos) (tLc wi g tt te (own.map (·.2))) := by
  refine ⟨fun pins s σ H Q I h => ?_⟩
  rw [eval_ListComp]
  have hfree : ∀ y ∈ scope.names, y.2 = .free → ∃ c, X.env.cells.lookup y.1 = some c := fun y hy e => by
    rcases ok.free y hy e with k | k
    · exact I.ok.has _ (.inl k)
    · exact I.ok.has _ (.inr k)
  refine comprehension_at (use := none) rfl hs (closure_ok hfree) ok.kind (fun y hy e => by rw [ok.uniq y hy, e])
    (thn (hi.run pins s σ H _ I h) fun xv s1 hx => thn hx fun itv s2 h2 => ?_)
  obtain ⟨it, fp, tn, J, H2, e, I2, T, st2, f2, q⟩ := h2
  subst e
  refine wpAny_newObj_type (newEnv_comp ?_) (by show 0 ≤ sizeLine; decide)
  generalize hD : s2.heap.objs.size = D
  have hDn : H2 D = none := I2.hok.fresh (Nat.le_of_eq hD)
  obtain ⟨W', ⟨m0, w0⟩, turn⟩ := q D hDn
  generalize hs3 : ({ s2 with heap := s2.heap.push { cls := .type "list", data := .seq ([] : List Value).toArray } } : Shared) = s3
  have I3 : Inv X pins σ (upd H2 D (.lst [])) s3 := by
    rw [← hs3]
    refine I2.laid (t' := s2.toks) (fun b o e => Heap.get?_push_of_some _ e) (Nat.le_of_eq hD) ⟨Nat.zero_le _, [], 0, .nil, ?_⟩
    rw [← hD]
    exact Heap.get?_push_size _ rfl
  have h3 : s3.heap = s2.heap.push { cls := .type "list", data := .seq ([] : List Value).toArray } := by rw [← hs3]
  have sz : ∀ b ∈ fp, b < s2.heap.objs.size := fun b hb => by
    obtain ⟨o, e, _⟩ := T.obj _ _ st2 b hb
    exact Heap.lt_size e
  have f3 : ∀ b ∈ fp, FpOk X pins (upd H2 D (.lst [])) b ∧ b < s3.heap.objs.size := fun b hb => by
    have hlt := sz b hb
    refine ⟨⟨?_, (f2 b hb).2⟩, by rw [h3, Heap.size_push]; exact Nat.lt_succ_of_lt hlt⟩
    rw [upd_ne (by rw [← hD]; exact Nat.ne_of_lt hlt)]
    exact (f2 b hb).1
  have st3 : tn 0 s3.heap := T.keep _ _ _ st2 fun b _ o e => by rw [h3]; exact Heap.get?_push_of_some _ e
  have I4 := block_start I3 ok hN f3
  have pg := hg s3 (upd H2 D (.lst [])) s3.heap.objs.size (cellsFrom (s3.heap.objs.size + 1) scope.names (cloFrom X.env.cells scope.names [])) fp
  have pt := ht s3 (upd H2 D (.lst [])) s3.heap.objs.size (cellsFrom (s3.heap.objs.size + 1) scope.names (cloFrom X.env.cells scope.names [])) fp
  have pe := he s3 (upd H2 D (.lst [])) s3.heap.objs.size (cellsFrom (s3.heap.objs.size + 1) scope.names (cloFrom X.env.cells scope.names [])) fp
  show codeAny _ _ (.compStart (.ListComp elt [⟨tg, iter, ifs, 0⟩] scope pos) 0 (.ref it) (.ref D) (compEnvC scope (cellsFrom (s3.heap.objs.size + 1) scope.names (cloFrom X.env.cells scope.names [])) s3.heap.objs.size X.env)) (compEnds (model X.prog X.w) X.A X.xe none (EP X pins σ Q) (.ref D) (compEnvC scope (cellsFrom (s3.heap.objs.size + 1) scope.names (cloFrom X.env.cells scope.names [])) s3.heap.objs.size X.env)) { s3 with heap := pushCells (s3.heap.push { cls := .type "dict", data := .dict #[] }) scope.names }
  have nfp : ∀ b ∈ fp, (upd H2 D (.lst [])) b = none := fun b hb => (f3 b hb).1.1
  generalize hce : compEnvC scope (cellsFrom (s3.heap.objs.size + 1) scope.names (cloFrom X.env.cells scope.names [])) s3.heap.objs.size X.env = ce at I4 pg pt pe ⊢
  have cL : ce.locals = s3.heap.objs.size := by subst hce; rfl
  have cF : ce.frame = X.env.frame := by subst hce; rfl
  generalize hH3 : upd H2 D (.lst []) = H3 at I3 I4 pg pt pe w0 nfp f3
  generalize hs4 : ({ s3 with heap := pushCells (s3.heap.push { cls := .type "dict", data := .dict #[] }) scope.names } : Shared) = s4 at I4 ⊢
  have st4 : tn 0 s4.heap := T.keep _ _ _ st3 fun b _ o e => by rw [← hs4]; exact pushCells_keeps _ _ _ _ (Heap.get?_push_of_some _ e)
  have stat : ∀ {σ' : L2.St} {H' : Hp} {s' : Shared}, Inv (X.blk s3 H3 scope ce fp) [] σ' H' s' → (∀ b ∈ fp, H' b = none) → ∀ b ∈ fp, FpOk (X.blk s3 H3 scope ce fp) [] H' b := fun {σ' H' s'} I' hn b hb =>
    ⟨hn b hb, (I'.ok.exf b hb).1, I'.ok.exfs b hb, .inl hb, fun x c e => (I'.ok.exf b hb).2 x c e, fun p hp => absurd (show p ∈ ([] : List (Addr × Obj)) ++ [] from hp) (by simp)⟩
  have nstk : s3.heap.objs.size ∉ frs X.stack := fun hm => by
    obtain ⟨_, o, ho, _⟩ := I3.stack.mem hm
    exact absurd (Heap.lt_size ho) (Nat.lt_irrefl _)
  -- back in the def's context
  have back : ∀ {pins' : List (Addr × Obj)} {σ' : L2.St} {H' : Hp} {s' : Shared}, Inv (X.blk s3 H3 scope ce fp) pins' σ' H' s' → Inv X pins σ H' s' := fun {pins' σ' H' s'} I6 =>
    I3.call' (ch := fp) I6.os I6.base I6.hok I6.bare fun b hb => ⟨(f3 b hb).1.2.2.2.1, (f3 b hb).1.2.1, (f3 b hb).1.2.2.2.2.1, (f3 b hb).1.2.2.2.2.2⟩
  have pass : Passes (L2.CX X.prog X.w) ((X.blk s3 H3 scope ce fp).wish (notedBy (model X.prog X.w) X.A ce (CompFails (model X.prog X.w) X.A X.xe ce))) E := fun pins' σ' H' s5 e s6 Iw c => by
    have Ib := Iw.unwish
    have c : L2.CX X.prog X.w X.stack H' s5 E e s6 := c
    have I7 := back Ib
    obtain ⟨m, hn, _⟩ := Ib.loc
    have hn : s5.heap.Ns ce.locals m := hn
    rw [cL] at hn
    have nC : H' s3.heap.objs.size = none := by
      have z : H' ce.locals = none := Ib.free
      rw [cL] at z
      exact z
    have hn6 : s6.heap.Ns s3.heap.objs.size m := by
      obtain ⟨a, B, H'', cls, d, rfl, fl, hok, ub, na, os, ag, hE⟩ := c
      obtain ⟨o, es, ep, ho, r⟩ := hn
      exact ⟨o, es, ep, fl.1 _ _ (ub.keep _ o ho nC nstk), r⟩
    have c2 : L2.CX X.prog X.w X.stack H' s5 (fun cls d H'' => E cls d H'' ∧ H'' s3.heap.objs.size = none) e s6 := by
      obtain ⟨a, B, H'', cls, d, rfl, fl, hok, ub, na, os, ag, hE⟩ := c
      obtain ⟨o, es, ep, ho, r⟩ := hn
      exact ⟨a, B, H'', cls, d, rfl, fl, hok, ub, na, os, ag, hE, ub.free _ o ho nC⟩
    obtain ⟨f0, f1, f2', f3', f4, f5⟩ := I3.fpOk (Nat.le_refl _) nC
    exact xe_comp hst hfr cF cL hn6 nstk f1 f3' f4 (fun p hp => f5 p (List.mem_append_left _ hp)) tk (XE.of_call I7 (fun cls d H'' h => ⟨hW cls d σ H'' h.1, h.2⟩) c2)
  have loop : codeAny (model X.prog X.w) X.A (.compLoop (.ListComp elt [⟨tg, iter, ifs, 0⟩] scope pos) 0 (.ref it) (.ref D) ce) (compEnds (model X.prog X.w) X.A X.xe none (EP X pins σ Q) (.ref D) ce) s4 := by
    refine compLoop_any (fun n s' => ∃ i H', Inv (X.blk s3 H3 scope ce fp) [] (wipe σ (own.map (·.2))) H' s' ∧ tn i s'.heap ∧ (∀ b ∈ fp, H' b = none) ∧ W' i n H') ?_ m0 ⟨0, H3, I4, st4, nfp, w0⟩
    rintro n s5 ⟨i, H5, I5, st5, n5, w5⟩
    rcases turn i n H5 w5 with ⟨stop, qq⟩ | ⟨go, Nx, hNx, step⟩
    · have td := T.done (X.blk s3 H3 scope ce fp) rfl rfl rfl hc i [] s5 _ H5 (fun _ _ => False) I5 (stat I5 n5) st5 stop
      refine thnF td fun r s6 ⟨hr, I6⟩ => ?_
      subst hr
      have I7 : Inv X pins σ H5 s6 := back I6
      have nC : H5 s3.heap.objs.size = none := by
        have z : H5 ce.locals = none := I6.free
        rw [cL] at z
        exact z
      obtain ⟨m, hn, _⟩ := I6.loc
      have hn : s6.heap.Ns ce.locals m := hn
      refine ⟨m, hn, fun h'' sb => ?_⟩
      rw [cL] at sb
      obtain ⟨f0, f1, f2', f3', f4, f5⟩ := I3.fpOk (Nat.le_refl _) nC
      exact ⟨.ref D, H5, I7.turned (t' := s6.toks) (fun b o hb e => (sb.2 b hb).trans e) f0 f1 f3' f4 f5, rfl, qq⟩
    · have ti := T.item (X.blk s3 H3 scope ce fp) rfl rfl rfl hc i [] s5 _ H5 (fun _ _ => False) I5 (stat I5 n5) st5 go
      refine thnF ti fun r s6 ⟨u, hr, h6⟩ => ?_
      subst hr
      refine thnF h6 fun _ s7 ⟨x, H7, I7, r7, y7, st7, n7⟩ => ?_
      have I7' := I7.pinned (stat I7 n7) (T.obj _ _ st7)
      refine thnF (pg.run _ s7 _ H7 x u _ I7' r7 (step x H7 y7)) fun _ s8 ⟨σ8, H8, I8, hw8, q8⟩ => ?_
      refine thnF (pt.run _ s8 σ8 H8 _ I8 q8) fun b s9 ⟨H9, I9, q9⟩ => ?_
      have fin : ∀ {s' : Shared} {H' : Hp}, Inv (X.blk s3 H3 scope ce fp) ([] ++ pinsAt fp s7.heap) σ8 H' s' → Nx H' → ∃ m, m < n ∧ ∃ i H', Inv (X.blk s3 H3 scope ce fp) [] (wipe σ (own.map (·.2))) H' s' ∧ tn i s'.heap ∧ (∀ b ∈ fp, H' b = none) ∧ W' i m H' := fun {s' H'} I' nx => by
        obtain ⟨m', hm, w'⟩ := hNx H' nx
        have pin' : ∀ b ∈ fp, ∀ o, s7.heap.get? b = some o → s'.heap.get? b = some o ∧ H' b = none := fun b hb o e =>
          let z := I'.pin (b, o) (List.mem_append_right _ (List.mem_append_right _ (mem_pinsAt hb e)))
          ⟨z.1, z.2.1⟩
        have hl : (wipe σ (own.map (·.2))).length = σ8.length := by rw [← hw8, wipe_length]
        refine ⟨m', hm, i + 1, H', (I'.unpinned (pins := [])).weak hl (fun j v e => ?_), T.keep _ _ _ st7 fun b hb o e => (pin' b hb o e).1, fun b hb => ?_, w'⟩
        · rw [← hw8] at e
          exact (wipe_some e).1
        · obtain ⟨o, e, _⟩ := T.obj _ _ st7 b hb
          exact (pin' b hb o e).2
      cases b with
      | false =>
        simp only [Bool.false_eq_true, if_false] at q9 ⊢
        exact fin I9 q9
      | true =>
        simp only [if_true] at q9 ⊢
        refine wpAny_mono ((pe _ pass).run _ s9 σ8 H9 _ (I9.wish _) q9) (fun z s10 ⟨yv, H10, I10w, r10, acc, hD10, hz10, nx⟩ => ?_) fun _ _ z => z
        exact app_ok (X := X.blk s3 H3 scope ce fp) I10w.unwish hD10 hz10 r10 fun s11 I11 => fin I11 nx
  exact codeAny_compStart_list loop (T.self X.A 0 _ _ _ st4 loop)
end
end HL

namespace HL
open PySem PySem.Spec PyProof.Rows L2
open C8 (pss_cut)
/-! ### the text -/
def topS (i : Nat) : Stmt := PySem.Challenge.pw_hamperlot_k06_lots_written_and_read.main.body.getD i (.Pass ⟨0, 0, 0, 0⟩)
abbrev sIsHold : Stmt := topS 10
abbrev sLook : Stmt := topS 11
abbrev sRowText : Stmt := topS 15
abbrev sIsNum : Stmt := topS 16
abbrev sReadRow : Stmt := topS 17
abbrev sLotText : Stmt := topS 18
abbrev sReadLot : Stmt := topS 19
abbrev sFeed : Stmt := topS 21
abbrev sDraw : Stmt := topS 22
abbrev sPick : Stmt := topS 23
abbrev sSame : Stmt := topS 24
abbrev sWord : Stmt := topS 25
abbrev sHold : Stmt := topS 26
abbrev sLot : Stmt := topS 27
abbrev sAny : Stmt := topS 28
abbrev sRowTextL : Stmt := topS 29
abbrev sLotTextL : Stmt := topS 30
abbrev sNumIn : Stmt := topS 31
abbrev sRead : Stmt := topS 32
abbrev sFlaw : Stmt := topS 33
abbrev sKind : Stmt := topS 34
abbrev sLaw : Stmt := topS 35
/-! ### heaps -/
/-- all that stood but at f stands -/
def Kp (f : Addr) (H H' : Hp) : Prop := ∀ b o, b ≠ f → H b = some o → H' b = some o
theorem Kp.refl (f : Addr) (H : Hp) : Kp f H H := fun _ _ _ h => h
theorem Kp.trans {f : Addr} {H H1 H2 : Hp} (a : Kp f H H1) (b : Kp f H1 H2) : Kp f H H2 := fun c o n h => b c o n (a c o n h)
theorem Same.kp {f : Addr} {H H' : Hp} (a : Same H H') : Kp f H H' := fun b o _ h => a b o h
theorem Kp.put {f : Addr} {H : Hp} {o : HO} : Kp f H (upd H f o) := fun b _ n h => by
  rw [upd_ne n]
  exact h
theorem same_new {H : Hp} {p : Addr} {o : HO} (h : H p = none) : Same H (upd H p o) := fun b x e => by
  rw [upd_ne (ne_of_none e h)]
  exact e
theorem Kp.new {f : Addr} {H : Hp} {p : Addr} {o : HO} (h : H p = none) : Kp f H (upd H p o) := Same.kp (same_new h)
/-- the feed at f -/
def FeedAt (c : Addr) (H : Hp) (f : Addr) : Prop := ∃ (ns : List Int) (i b m n : Int),
  H f = some (.lst [.ref c, .int i, .int b, .int m, .int n]) ∧ H c = some (.lst (ns.map V.int)) ∧ 0 ≤ i ∧ 0 ≤ b ∧ 0 ≤ m ∧ m < 2147483647
theorem FeedAt.same {c : Addr} {H H' : Hp} {f : Addr} (F : FeedAt c H f) (s : Same H H') : FeedAt c H' f := by
  obtain ⟨ns, i, b, m, n, h1, h2, h3⟩ := F
  exact ⟨ns, i, b, m, n, s _ _ h1, s _ _ h2, h3⟩
theorem FeedAt.new {c : Addr} {H : Hp} {f p : Addr} {o : HO} (F : FeedAt c H f) (h : H p = none) : FeedAt c (upd H p o) f := F.same (same_new h)
theorem FeedAt.ne {c : Addr} {H : Hp} {f p : Addr} (F : FeedAt c H f) (h : H p = none) : p ≠ f := by
  obtain ⟨ns, i, b, m, n, h1, _⟩ := F
  exact fun e => by
    rw [e, h1] at h
    cases h
theorem FeedAt.neC {c : Addr} {H : Hp} {f p : Addr} (F : FeedAt c H f) (h : H p = none) : p ≠ c := by
  obtain ⟨ns, i, b, m, n, _, h1, _⟩ := F
  exact fun e => by
    rw [e, h1] at h
    cases h
theorem FeedAt.tup {c : Addr} {H : Hp} {f p : Addr} {xs : List V} (F : FeedAt c H f) (h : H p = some (.tup xs)) : p ≠ f := by
  obtain ⟨ns, i, b, m, n, h1, _⟩ := F
  exact ne_of h h1 (fun e => by cases e)
/-- another thing than the feed is written -/
theorem FeedAt.put {c : Addr} {H : Hp} {f D : Addr} {o : HO} (F : FeedAt c H f) (n1 : D ≠ f) (n2 : D ≠ c) : FeedAt c (upd H D o) f := by
  obtain ⟨ns, i, b, m, n, h1, h2, h3⟩ := F
  exact ⟨ns, i, b, m, n, by rw [upd_ne (Ne.symm n1)]; exact h1, by rw [upd_ne (Ne.symm n2)]; exact h2, h3⟩
/-- where nothing stood behind, nothing stood ahead -/
theorem Kp.free {f : Addr} {H H' : Hp} {p : Addr} (k : Kp f H H') (n : p ≠ f) (h : H' p = none) : H p = none := by
  cases e : H p with
  | none => rfl
  | some o =>
    rw [k _ _ n e] at h
    cases h
/-- what is new since H may be written -/
theorem Kp.late {f : Addr} {H H' : Hp} {D : Addr} {o : HO} (k : Kp f H H') (nD : H D = none) : Kp f H (upd H' D o) := fun b x n e => by
  rw [upd_ne (ne_of_none e nD)]
  exact k _ _ n e
theorem same_late {H H' : Hp} {D : Addr} {o : HO} (k : Same H H') (nD : H D = none) : Same H (upd H' D o) := fun b x e => by
  rw [upd_ne (ne_of_none e nD)]
  exact k _ _ e
theorem ref_ne {c : Addr} {ns : List Int} {r : List V} : (V.ref c :: r) ≠ ns.map V.int := by
  cases ns with
  | nil => exact fun e => by cases e
  | cons x xs => exact fun e => by simp at e
/-! ### the feed -/
theorem scFeed : FnScope ["_law_script"] ["_law_script"] (defScope sFeed) := ⟨rfl, rfl, rfl, by decide +kernel, rfl, by decide +kernel, by decide +kernel⟩
theorem scDraw : FnScope ["_law_feed_here", "_law_many", "_law_cell", "_law_digit", "_law_mix"] ["_law_feed_here", "_law_many"] (defScope sDraw) := ⟨rfl, rfl, rfl, by decide +kernel, rfl, by decide +kernel, by decide +kernel⟩
theorem scPick : FnScope ["_law_feed_here", "_law_row"] ["_law_feed_here", "_law_row"] (defScope sPick) := ⟨rfl, rfl, rfl, by decide +kernel, rfl, by decide +kernel, by decide +kernel⟩
section
variable {P : Program} {w : World} {K : PySem.W.Frag} {mg : Str → Option Value} {base : Heap}
def spFeed (K : PySem.W.Frag) : Sp := fun vs H Q _ => ∃ (a : Addr) (ns : List Int), vs = [.ref a] ∧ SqL K H a (ns.map V.int) ∧ ns.length ≤ 63 ∧
  ∀ H' f c, Same H H' → H f = none → FeedAt c H' f → Q (.ref f) H'
theorem cut_ints (ns : List Int) (lo hi : Option Int) : ∃ ms : List Int, cutV (ns.map V.int) lo hi = ms.map V.int := by
  refine ⟨(ns.drop (HT.sIx ns.length 0 lo)).take (HT.sIx ns.length ns.length hi - HT.sIx ns.length 0 lo), ?_⟩
  unfold cutV
  rw [List.length_map, List.map_take, List.map_drop]
theorem ok_feed {f : Addr} {fd : FuncData} {k : Nat} (F : Fun K "_law_feed" "_law_feed" sFeed f fd) (ml : mg "list" = none) : FnOk P w K mg base CX0 (k + 1) f fd ["_law_script"] (spFeed K) := by
  refine F.ok scFeed (fun vs H Q E h => ?_) (fun cdv A outer s H vs Q E hr h => ?_)
  · obtain ⟨a, ns, rfl, _⟩ := h
    rfl
  · obtain ⟨a, ns, rfl, hS, hlen, q⟩ := h
    refine ⟨_, pss_one (ps_ret (pe_lst (pa_cons (pe_callTy call_list_of (by rfl) ml (by decide +kernel) (pa_cons (pe_slice sl_list (pv 0) po_none (po_some pe_int)) pa_nil)) (pa_cons pe_int (pa_cons pe_int (pa_cons pe_int (pa_cons pe_int pa_nil))))))), ?_⟩
    obtain ⟨ms, hms⟩ := cut_ints ns none (some 63)
    refine ⟨.ref a, rfl, 63, rfl, a, ns.map V.int, rfl, hS, fun c nc => ?_⟩
    rw [hms]
    refine ⟨c, ms.map V.int, rfl, .inl (SqL.of upd_same), fun l nl => ?_⟩
    refine ⟨(by show 5 ≤ sizeLine; decide), fun g ng => ?_⟩
    refine q _ g l ?_ ?_ ⟨ms, 0, 0, 9132, 0, upd_same, ?_, by decide, by decide, by decide, by decide⟩
    · exact (same_new nc).trans ((same_new nl).trans (same_new ng))
    · exact (same_new nc).free ((same_new nl).free ng)
    · rw [upd_ne (fun e => by rw [← e, upd_same] at ng; cases ng), upd_same]

theorem atI_int {ns : List Int} {i : Int} (h0 : 0 ≤ i) (h1 : i < (ns.length : Nat)) : ∃ z, atI (ns.map V.int) i = some (.int z) := by
  have hl : i.toNat < ns.length := by omega
  refine ⟨ns[i.toNat], ?_⟩
  have e : ((i.toNat : Nat) : Int) = i := by omega
  refine (congrArg (atI (ns.map V.int)) e.symm).trans (atI_nat (j := i.toNat) ?_)
  rw [List.getElem?_map, List.getElem?_eq_getElem hl]
  rfl
def spDraw : Sp := fun vs H Q _ => ∃ (f c : Addr) (n : Int), vs = [.ref f, .int n] ∧ 1 ≤ n ∧ n ≤ 1000000000000000000000000000000 ∧ FeedAt c H f ∧
  ∀ d H', 0 ≤ d → d < n → Kp f H H' → FeedAt c H' f → Q (.int d) H'
theorem ok_draw {f : Addr} {fd : FuncData} {k : Nat} (F : Fun K "_law_draw" "_law_draw" sDraw f fd) (ml : mg "len" = none) : FnOk P w K mg base CX0 (k + 1) f fd ["_law_feed_here", "_law_many"] spDraw := by
  refine F.ok scDraw (fun vs H Q E h => ?_) (fun cdv A outer s H vs Q E hr h => ?_)
  · obtain ⟨a, c, n, rfl, _⟩ := h
    rfl
  · obtain ⟨a, c, n, rfl, n1, n2, ⟨ns, i, b, m, t, h1, h2, i0, b0, m0, m1⟩, q⟩ := h
    refine ⟨_, pss_cut (ps_if (PW.pt (pw_and (pt_cmpR op_lt (pe_ix ix_list (pv 0) pe_int (fun _ _ => rfl)) (pv 1) (nomark _))
          (pw_and1 (pt_cmpR op_lt (pe_ix ix_list (pv 0) pe_int (fun _ _ => rfl)) (pe_callB call_len_seq (by rfl) ml PySem.boot_len (pa_cons (pe_ix ix_list (pv 0) pe_int (fun _ _ => rfl)) pa_nil)) (nomark _)))))
        (pss_cons (ps_set (i := 2) scDraw.nd rfl (.inl rfl) (pe_ix ix_list (pe_ix ix_list (pv 0) pe_int (fun _ _ => rfl)) (pe_ix ix_list (pv 0) pe_int (fun _ _ => rfl)) (fun _ _ => rfl)))
        (pss_cons (ps_asg (pe_op op_add (pe_ix ix_list (pv 0) pe_int (fun _ _ => rfl)) pe_int) (pg_sub (pv 0) pe_int set_list))
        (pss_cons (ps_asg pe_int (pg_sub (pv 0) pe_int set_list))
        (pss_one (ps_if (pt_cmpR op_ge (pv 2) (pe_op op_pow pe_int pe_int) (nomark _))
          (pss_one (ps_asg (pv 2) (pg_sub (pv 0) pe_int set_list)))
          (pss_one (ps_asg (pe_op op_mod (pe_op op_add (pe_op op_add (pe_op op_mul (pe_ix ix_list (pv 0) pe_int (fun _ _ => rfl)) pe_int) (pe_op op_mul (pe_op op_mod (pv 2) pe_int) pe_int)) pe_int) pe_int) (pg_sub (pv 0) pe_int set_list))))))))
        pss_nil)
      (pss_cons (ps_if (pt_cmpR op_ge (pe_ix ix_list (pv 0) pe_int (fun _ _ => rfl)) (pv 1) (nomark _))
        (pss_cons (ps_set (i := 3) scDraw.nd rfl (.inl rfl) (pe_op op_mod (pe_ix ix_list (pv 0) pe_int (fun _ _ => rfl)) (pv 1)))
        (pss_cons (ps_asg (pe_op op_fdivW (pe_ix ix_list (pv 0) pe_int (fun _ _ => rfl)) (pv 1)) (pg_sub (pv 0) pe_int set_list))
        (pss_one (ps_ret (pv 3))))) pss_nil)
      (pss_cons (ps_asg (pe_op op_add (pe_ix ix_list (pv 0) pe_int (fun _ _ => rfl)) pe_int) (pg_sub (pv 0) pe_int set_list))
      (pss_cons (ps_set (i := 4) scDraw.nd rfl (.inl rfl) (pe_ix ix_list (pv 0) pe_int (fun _ _ => rfl)))
      (pss_cons (ps_set (i := 4) scDraw.nd rfl (.inl rfl) (pe_op op_add (pe_op op_add (pe_op op_add (pe_op op_mul (pe_op op_mod (pe_op op_mul (pv 4) (pv 4)) pe_int) pe_int) (pe_op op_mul (pv 4) pe_int)) (pe_op op_mul pe_int (pe_ix ix_list (pv 0) pe_int (fun _ _ => rfl)))) pe_int))
      (pss_cons (ps_asg (pe_op op_mod (pv 4) pe_int) (pg_sub (pv 0) pe_int set_list))
      (pss_one (ps_ret (pe_op op_mod (pe_op op_add (pe_op op_fdiv (pe_ix ix_list (pv 0) pe_int (fun _ _ => rfl)) pe_int) (pe_op op_mul (pe_op op_mod (pe_ix ix_list (pv 0) pe_int (fun _ _ => rfl)) pe_int) pe_int)) (pv 1))))))))), ?_⟩
    have hca : c ≠ a := fun e => by
      rw [e, h1] at h2
      exact ref_ne (HO.lst.inj (Option.some.inj h2))
    refine ⟨fun σ' H' => ∃ (y2 : Option V) (i b m t : Int), σ' = [some (.ref a), some (.int n), y2, none, none] ∧ Kp a H H' ∧ H' a = some (.lst [.ref c, .int i, .int b, .int m, .int t]) ∧ 0 ≤ i ∧ 0 ≤ b ∧ 0 ≤ m ∧ m < 2147483647, ?_, ?_⟩
    · refine ⟨.ref a, rfl, a, _, 2, .int b, rfl, rfl, SqL.of h1, atI_nat (j := 2) rfl, .int n, rfl, b, n, rfl, rfl, _, rfl, ite2 (fun c1 => ?_) (fun c1 => ?_)⟩
      · refine ⟨.ref a, rfl, a, _, 1, .int i, rfl, rfl, SqL.of h1, atI_nat (j := 1) rfl, .ref a, rfl, a, _, 0, .ref c, rfl, rfl, SqL.of h1, atI_nat (j := 0) rfl, c, _, rfl, .inl (SqL.of h2), i, _, rfl, rfl, _, rfl, ite2 (fun c2 => ?_) (fun c2 => ?_)⟩
        · have hi : i < (ns.length : Nat) := by
            have := of_decide_eq_true c2
            rw [List.length_map] at this
            exact this
          obtain ⟨z, hz⟩ := atI_int i0 hi
          refine ⟨.ref a, rfl, a, _, 0, .ref c, rfl, rfl, SqL.of h1, atI_nat (j := 0) rfl, .ref a, rfl, a, _, 1, .int i, rfl, rfl, SqL.of h1, atI_nat (j := 1) rfl, c, _, i, .int z, rfl, rfl, SqL.of h2, hz, ?_⟩
          refine ⟨.ref a, rfl, a, _, 1, .int i, rfl, rfl, SqL.of h1, atI_nat (j := 1) rfl, i, 1, rfl, rfl, .ref a, rfl, a, _, 1, 1, rfl, rfl, h1, rfl, ?_⟩
          refine ⟨.ref a, rfl, a, _, 2, 2, rfl, rfl, upd_same, rfl, ?_⟩
          refine ⟨.int z, rfl, 10, 18, rfl, rfl, ⟨by decide, by decide, by decide⟩, z, _, rfl, rfl, _, rfl, ite2 (fun c3 => ?_) (fun c3 => ?_)⟩
          · have z0 : (10 : Int) ^ (18 : Int).toNat ≤ z := of_decide_eq_true c3
            have z1 : (0 : Int) ≤ z := Int.le_trans (by decide) z0
            refine ⟨.int z, rfl, .ref a, rfl, a, _, 2, 2, rfl, rfl, upd_same, rfl, ?_⟩
            exact ⟨_, i + 1, z, m, t, rfl, Kp.put.trans (Kp.put.trans Kp.put), upd_same, by omega, z1, m0, m1⟩
          · refine ⟨.ref a, rfl, a, _, 3, .int m, rfl, rfl, SqL.of upd_same, atI_nat (j := 3) rfl, m, 48271, rfl, rfl, .inr ⟨by decide, by decide⟩, .int z, rfl, z, 1000000007, rfl, rfl, (by show (0 : Int) < 1000000007; decide), _, 69621, rfl, rfl, .inr ⟨by decide, by decide⟩, _, _, rfl, rfl, _, 11, rfl, rfl, _, 2147483647, rfl, rfl, (by show (0 : Int) < 2147483647; decide), .ref a, rfl, a, _, 3, 3, rfl, rfl, upd_same, rfl, ?_⟩
            exact ⟨_, i + 1, 0, _, t, rfl, Kp.put.trans (Kp.put.trans Kp.put), upd_same, by omega, by decide, Int.emod_nonneg _ (by decide), Int.emod_lt_of_pos _ (by decide)⟩
        · exact ⟨none, i, b, m, t, rfl, Kp.refl _ _, h1, i0, b0, m0, m1⟩
      · exact ⟨none, i, b, m, t, rfl, Kp.refl _ _, h1, i0, b0, m0, m1⟩
    · rintro σ' H' ⟨y2, i, b, m, t, rfl, kp, g1, i0, b0, m0, m1⟩
      have g2 : H' c = some (.lst (ns.map V.int)) := kp _ _ hca h2
      refine ⟨.ref a, rfl, a, _, 2, .int b, rfl, rfl, SqL.of g1, atI_nat (j := 2) rfl, .int n, rfl, b, n, rfl, rfl, _, rfl, ite2 (fun c1 => ?_) (fun c1 => ?_)⟩
      · refine ⟨.ref a, rfl, a, _, 2, .int b, rfl, rfl, SqL.of g1, atI_nat (j := 2) rfl, .int n, rfl, b, n, rfl, rfl, (by show (0 : Int) < n; omega), ?_⟩
        refine ⟨.ref a, rfl, a, _, 2, .int b, rfl, rfl, SqL.of g1, atI_nat (j := 2) rfl, .int n, rfl, b, n, rfl, rfl, wide_div (b := 100) (by omega) (by omega) (by decide) (by decide), .ref a, rfl, a, _, 2, 2, rfl, rfl, g1, rfl, ?_⟩
        refine ⟨_, rfl, q _ _ (Int.emod_nonneg _ (by omega)) (Int.emod_lt_of_pos _ (by omega)) (kp.trans Kp.put) ⟨ns, i, _, m, t, upd_same, ?_, i0, Int.ediv_nonneg b0 (by omega), m0, m1⟩⟩
        rw [upd_ne hca]
        exact g2
      · refine ⟨.ref a, rfl, a, _, 4, .int t, rfl, rfl, SqL.of g1, atI_nat (j := 4) rfl, t, 1, rfl, rfl, .ref a, rfl, a, _, 4, 4, rfl, rfl, g1, rfl, ?_⟩
        refine ⟨.ref a, rfl, a, _, 3, .int m, rfl, rfl, SqL.of upd_same, atI_nat (j := 3) rfl, ?_⟩
        refine ⟨.int m, rfl, .int m, rfl, m, m, rfl, rfl, .inl ⟨by omega, by omega⟩, _, 2147483587, rfl, rfl, (by show (0 : Int) < 2147483587; decide), _, 16807, rfl, rfl, .inr ⟨by decide, by decide⟩, .int m, rfl, m, 48271, rfl, rfl, .inr ⟨by decide, by decide⟩, _, _, rfl, rfl, .ref a, rfl, a, _, 4, .int (t + 1), rfl, rfl, SqL.of upd_same, atI_nat (j := 4) rfl, 97, t + 1, rfl, rfl, .inl ⟨by decide, by decide⟩, _, _, rfl, rfl, _, 12345, rfl, rfl, ?_⟩
        refine ⟨_, rfl, _, 2147483647, rfl, rfl, (by show (0 : Int) < 2147483647; decide), .ref a, rfl, a, _, 3, 3, rfl, rfl, upd_same, rfl, ?_⟩
        refine ⟨.ref a, rfl, a, _, 3, _, rfl, rfl, SqL.of upd_same, atI_nat (j := 3) rfl, _, 64, rfl, rfl, ⟨by decide, by decide⟩, .ref a, rfl, a, _, 3, _, rfl, rfl, SqL.of upd_same, atI_nat (j := 3) rfl, _, 4093, rfl, rfl, (by show (0 : Int) < 4093; decide), _, 31, rfl, rfl, .inr ⟨by decide, by decide⟩, _, _, rfl, rfl, .int n, rfl, _, n, rfl, rfl, (by show (0 : Int) < n; omega), ?_⟩
        refine q _ _ (Int.emod_nonneg _ (by omega)) (Int.emod_lt_of_pos _ (by omega)) (kp.trans (Kp.put.trans Kp.put)) ⟨ns, i, b, _, t + 1, upd_same, ?_, i0, b0, Int.emod_nonneg _ (by decide), Int.emod_lt_of_pos _ (by decide)⟩
        rw [upd_ne hca, upd_ne hca]
        exact g2
end
end HL

namespace HL
open PySem PySem.Spec PyProof.Rows L2
open C8 (pss_cut)
/-- a def of the module as its callers take it -/
structure Cal (P : Program) (w : World) (K : PySem.W.Frag) (mg : Str → Option Value) (base : Heap) (CX : CXT) (j : Nat) (x : Str) (ps : List Str) (sp : Sp) : Prop where
  ex : ∃ f fd, FnOk P w K mg base CX j f fd ps sp ∧ mg x = some (.ref f) ∧ PySem.W.keepIn K (.ref f) = true ∧ Binds K fd ps []
section
variable {P : Program} {w : World} {K : PySem.W.Frag} {mg : Str → Option Value} {base : Heap}
/-! ### pick -/
def spPick : Sp := fun vs H Q _ => ∃ (f c r : Addr) (xs : List V), vs = [.ref f, .ref r] ∧ H r = some (.lst xs) ∧ r ≠ f ∧ 1 ≤ xs.length ∧ xs.length ≤ 1000 ∧ FeedAt c H f ∧
  ∀ v H', v ∈ xs → Kp f H H' → FeedAt c H' f → Q v H'
theorem atI_mem {xs : List V} {i : Int} (h0 : 0 ≤ i) (h1 : i < (xs.length : Nat)) : ∃ z, atI xs i = some z ∧ z ∈ xs ∧ xs[i.toNat]? = some z := by
  have hl : i.toNat < xs.length := by omega
  have e : ((i.toNat : Nat) : Int) = i := by omega
  exact ⟨xs[i.toNat], (congrArg (atI xs) e.symm).trans (atI_nat (j := i.toNat) (List.getElem?_eq_getElem hl)), List.getElem_mem hl, List.getElem?_eq_getElem hl⟩
theorem ok_pick {f : Addr} {fd : FuncData} (F : Fun K "_law_pick" "_law_pick" sPick f fd) (ml : mg "len" = none) (CD : Cal P w K mg base CX0 1 "_law_draw" ["_law_feed_here", "_law_many"] spDraw) :
    FnOk P w K mg base CX0 2 f fd ["_law_feed_here", "_law_row"] spPick := by
  obtain ⟨fD, fdD, GD, gD, kD, bD⟩ := CD.ex
  refine F.ok scPick (fun vs H Q E h => ?_) (fun cdv A outer s H vs Q E hr h => ?_)
  · obtain ⟨a, c, r, xs, rfl, _⟩ := h
    rfl
  · obtain ⟨a, c, r, xs, rfl, hx, hne, l1, l2, Fd, q⟩ := h
    refine ⟨_, pss_one (ps_ret (pe_ix ix_list (pv 1) (pe_call GD hr (by rfl) gD kD bD .nil pass0 (pa_cons (pv 0) (pa_cons (pe_callB call_len_seq (by rfl) ml PySem.boot_len (pa_cons (pv 1) pa_nil)) pa_nil))) (fun _ _ => rfl))), ?_⟩
    refine ⟨.ref r, rfl, .ref a, rfl, .ref r, rfl, r, xs, rfl, .inl (SqL.of hx), a, c, (xs.length : Nat), rfl, by omega, by omega, Fd, fun d H' d0 d1 kp F' => ?_⟩
    obtain ⟨z, hz, hm, _⟩ := atI_mem d0 d1
    exact ⟨r, xs, d, z, rfl, rfl, SqL.of (kp _ _ hne hx), hz, q z H' hm kp F'⟩
/-! ### same -/
def leafV : V → Bool
  | .non => true
  | .bl _ => true
  | .int _ => true
  | .str _ => true
  | _ => false
/-- alike at depth d: leaves, or lists or tuples of such -/
def Eqd (H : Hp) : Nat → V → V → Prop
  | 0, x, y => x = y ∧ leafV x = true
  | d + 1, x, y => (x = y ∧ leafV x = true) ∨ ∃ (a b : Addr) (xs ys : List V), x = .ref a ∧ y = .ref b ∧ ((H a = some (.lst xs) ∧ H b = some (.lst ys)) ∨ (H a = some (.tup xs) ∧ H b = some (.tup ys))) ∧
      xs.length = ys.length ∧ xs.length ≤ 1000 ∧ ∀ (i : Nat) (x y : V), xs[i]? = some x → ys[i]? = some y → Eqd H d x y
theorem Eqd.same {H H' : Hp} (s : Same H H') : ∀ {d : Nat} {x y : V}, Eqd H d x y → Eqd H' d x y
  | 0, _, _, h => h
  | d + 1, _, _, .inl h => .inl h
  | d + 1, _, _, .inr ⟨a, b, xs, ys, ex, ey, hs, hl, hz, ih⟩ => .inr ⟨a, b, xs, ys, ex, ey, hs.imp (fun q => ⟨s _ _ q.1, s _ _ q.2⟩) (fun q => ⟨s _ _ q.1, s _ _ q.2⟩), hl, hz, fun i x y h1 h2 => Eqd.same s (ih i x y h1 h2)⟩
def spSame (d : Nat) : Sp := fun vs H Q _ => ∃ x y, vs = [x, y] ∧ Eqd H d x y ∧ ∀ H', Same H H' → Q (.bl true) H'
theorem scSame : FnScope ["_law_found", "_law_due", "_law_at"] ["_law_found", "_law_due"] (defScope sSame) := ⟨rfl, rfl, rfl, by decide +kernel, rfl, by decide +kernel, by decide +kernel⟩
structure Bl (mg : Str → Option Value) : Prop where
  len : mg "len" = none
  list : mg "list" = none
  tuple : mg "tuple" = none
  dict : mg "dict" = none
  str : mg "str" = none
  int : mg "int" = none
  bool : mg "bool" = none
  isinstance : mg "isinstance" = none
  all : mg "all" = none
  range : mg "range" = none
  sum : mg "sum" = none
  min : mg "min" = none
  max : mg "max" = none
  enumerate : mg "enumerate" = none
theorem ok_same_leaf {f : Addr} {fd : FuncData} {k : Nat} (F : Fun K "_law_same" "_law_same" sSame f fd) (B : Bl mg) : FnOk P w K mg base CX0 (k + 1) f fd ["_law_found", "_law_due"] (spSame 0) := by
  refine F.ok scSame (fun vs H Q E h => ?_) (fun cdv A outer s H vs Q E hr h => ?_)
  · obtain ⟨x, y, rfl, _⟩ := h
    rfl
  · obtain ⟨x, y, rfl, ⟨rfl, hlf⟩, q⟩ := h
    refine ⟨_, pss_cons (ps_if (pt_cmpR op_isN (pv 1) pe_non (nomark _)) (pss_one (ps_ret (pe_cmp (pc_isN (pv 0)) rfl))) pss_nil)
      (pss_cons (ps_if (pt_val (pe_callB call_isi (by rfl) B.isinstance (by decide +kernel) (pa_cons (pv 1) (pa_cons (pe_bltn (v := .ty "bool") (by rfl) B.bool (by decide +kernel) rfl) pa_nil))))
          (pss_one (ps_ret (pe_and (pe_callB call_isi (by rfl) B.isinstance (by decide +kernel) (pa_cons (pv 0) (pa_cons (pe_bltn (v := .ty "bool") (by rfl) B.bool (by decide +kernel) rfl) pa_nil))) (pe_one (pe_cmpR op_eq (pv 0) (pv 1) (nomark _)))))) pss_nil)
      (pss_cons (ps_if (pt_val (pe_callB call_isi (by rfl) B.isinstance (by decide +kernel) (pa_cons (pv 1) (pa_cons (pe_bltn (v := .ty "int") (by rfl) B.int (by decide +kernel) rfl) pa_nil))))
          (pss_one (ps_ret (pe_and (pe_callB call_isi (by rfl) B.isinstance (by decide +kernel) (pa_cons (pv 0) (pa_cons (pe_bltn (v := .ty "int") (by rfl) B.int (by decide +kernel) rfl) pa_nil)))
            (pe_and (pe_not (pe_callB call_isi (by rfl) B.isinstance (by decide +kernel) (pa_cons (pv 0) (pa_cons (pe_bltn (v := .ty "bool") (by rfl) B.bool (by decide +kernel) rfl) pa_nil)))) (pe_one (pe_cmpR op_eq (pv 0) (pv 1) (nomark _))))))) pss_nil)
      (pss_cons (ps_if (pt_val (pe_callB call_isi (by rfl) B.isinstance (by decide +kernel) (pa_cons (pv 1) (pa_cons (pe_bltn (v := .ty "str") (by rfl) B.str (by decide +kernel) rfl) pa_nil))))
          (pss_one (ps_ret (pe_and (pe_callB call_isi (by rfl) B.isinstance (by decide +kernel) (pa_cons (pv 0) (pa_cons (pe_bltn (v := .ty "str") (by rfl) B.str (by decide +kernel) rfl) pa_nil))) (pe_one (pe_cmpR op_eq (pv 0) (pv 1) (nomark _)))))) pss_nil)
      pss_never))), ?_⟩
    cases x with
    | non => exact ⟨_, rfl, rfl, _, rfl, iteT ⟨_, rfl, q _ (Same.refl _)⟩⟩
    | bl b =>
      refine ⟨_, rfl, rfl, _, rfl, iteF ?_⟩
      refine ⟨_, rfl, _, _, _, _, true, rfl, .ty "bool", .base (.bl b), kit_ty (by decide +kernel), _, rfl, iteT ?_⟩
      refine ⟨_, rfl, _, _, _, _, true, rfl, .ty "bool", .base (.bl b), kit_ty (by decide +kernel), _, rfl, iteT ?_⟩
      refine ⟨_, rfl, _, rfl, rfl, ?_⟩
      rw [decide_eq_true rfl]
      exact q _ (Same.refl _)
    | int i =>
      refine ⟨_, rfl, rfl, _, rfl, iteF ?_⟩
      refine ⟨_, rfl, _, _, _, _, false, rfl, .ty "bool", .base (.int i), kit_ty (by decide +kernel), _, rfl, iteF ?_⟩
      refine ⟨_, rfl, _, _, _, _, true, rfl, .ty "int", .base (.int i), kit_ty (by decide +kernel), _, rfl, iteT ?_⟩
      refine ⟨_, rfl, _, _, _, _, true, rfl, .ty "int", .base (.int i), kit_ty (by decide +kernel), _, rfl, iteT ?_⟩
      refine ⟨_, rfl, _, _, _, _, false, rfl, .ty "bool", .base (.int i), kit_ty (by decide +kernel), _, rfl, _, rfl, iteT ?_⟩
      refine ⟨_, rfl, _, rfl, rfl, ?_⟩
      rw [decide_eq_true rfl]
      exact q _ (Same.refl _)
    | str z =>
      refine ⟨_, rfl, rfl, _, rfl, iteF ?_⟩
      refine ⟨_, rfl, _, _, _, _, false, rfl, .ty "bool", .base (.str z), kit_ty (by decide +kernel), _, rfl, iteF ?_⟩
      refine ⟨_, rfl, _, _, _, _, false, rfl, .ty "int", .base (.str z), kit_ty (by decide +kernel), _, rfl, iteF ?_⟩
      refine ⟨_, rfl, _, _, _, _, true, rfl, .ty "str", .base (.str z), kit_ty (by decide +kernel), _, rfl, iteT ?_⟩
      refine ⟨_, rfl, _, _, _, _, true, rfl, .ty "str", .base (.str z), kit_ty (by decide +kernel), _, rfl, iteT ?_⟩
      refine ⟨_, rfl, _, rfl, rfl, ?_⟩
      rw [decide_eq_true rfl]
      exact q _ (Same.refl _)
    | byt b => cases hlf
    | flt b => cases hlf
    | ref a => cases hlf
    | ty n => cases hlf

theorem leaf_or {H : Hp} {d : Nat} {x y : V} (h : Eqd H d x y) (hx : leafV x = true) : x = y := by
  cases d with
  | zero => exact h.1
  | succ d =>
    rcases h with h | ⟨a, b, xs, ys, rfl, _⟩
    · exact h.1
    · cases hx
/-- what isinstance tells of a list or tuple that is tracked -/
theorem seq_ty {K : PySem.W.Frag} {H : Hp} {a b : Addr} {xs ys : List V} (h : (H a = some (.lst xs) ∧ H b = some (.lst ys)) ∨ (H a = some (.tup xs) ∧ H b = some (.tup ys))) :
    ∃ (T : String) (bt bl : Bool), TyX K H (.ref a) (.type T) ∧ TyX K H (.ref b) (.type T) ∧ kitB T "bool" = some false ∧ kitB T "int" = some false ∧ kitB T "str" = some false ∧ kitB T "dict" = some false ∧ kitB T "tuple" = some bt ∧ kitB T "list" = some bl := by
  rcases h with ⟨h1, h2⟩ | ⟨h1, h2⟩
  · exact ⟨"list", false, true, .base (.lst h1), .base (.lst h2), by decide +kernel, by decide +kernel, by decide +kernel, by decide +kernel, by decide +kernel, by decide +kernel⟩
  · exact ⟨"tuple", true, false, .base (.tup h1), .base (.tup h2), by decide +kernel, by decide +kernel, by decide +kernel, by decide +kernel, by decide +kernel, by decide +kernel⟩
theorem fnEither {CX : CXT} {k : Nat} {f : Addr} {fd : FuncData} {ps : List Str} {sp sp1 sp2 : Sp} (F1 : FnOk P w K mg base CX k f fd ps sp1) (F2 : FnOk P w K mg base CX k f fd ps sp2) (h : ∀ vs H Q E, sp vs H Q E → sp1 vs H Q E ∨ sp2 vs H Q E) : FnOk P w K mg base CX k f fd ps sp where
  len := fun vs H Q E q => (h vs H Q E q).elim (F1.len vs H Q E) (F2.len vs H Q E)
  run := fun A outer s H args us vs Q E hr e0 hb r q => (h vs H Q E q).elim (F1.run A outer s H args us vs Q E hr e0 hb r) (F2.run A outer s H args us vs Q E hr e0 hb r)
theorem yes {σ : L2.St} {H : Hp} {Q : Bool → Hp → Prop} (h : Q true H) : tYes σ H Q := h
theorem bl_self (b : Bool) : (!decide (V.bl b = V.bl b)) = false := by rw [decide_eq_true rfl]; rfl
theorem ok_same_step {f : Addr} {fd : FuncData} {d : Nat} (F : Fun K "_law_same" "_law_same" sSame f fd) (B : Bl mg) (gS : mg "_law_same" = some (.ref f)) (kS : PySem.W.keepIn K (.ref f) = true) (bS : Binds K fd ["_law_found", "_law_due"] [])
    (G : FnOk P w K mg base CX0 (d + 1) f fd ["_law_found", "_law_due"] (spSame d)) : FnOk P w K mg base CX0 (d + 2) f fd ["_law_found", "_law_due"] (spSame (d + 1)) := by
  have key : FnOk P w K mg base CX0 (d + 2) f fd ["_law_found", "_law_due"] (fun vs H Q _ => ∃ (a b : Addr) (xs ys : List V), vs = [.ref a, .ref b] ∧ ((H a = some (.lst xs) ∧ H b = some (.lst ys)) ∨ (H a = some (.tup xs) ∧ H b = some (.tup ys))) ∧
      xs.length = ys.length ∧ xs.length ≤ 1000 ∧ (∀ (i : Nat) (x y : V), xs[i]? = some x → ys[i]? = some y → Eqd H d x y) ∧ ∀ H', Same H H' → Q (.bl true) H') := by
    refine F.ok scSame (fun vs H Q E h => ?_) (fun cdv A outer s H vs Q E hr h => ?_)
    · obtain ⟨a, b, xs, ys, rfl, _⟩ := h
      rfl
    · obtain ⟨a, b, xs, ys, rfl, hs, hl, hz, hE, q⟩ := h
      refine ⟨_, pss_cons (ps_if (pt_cmpR op_isN (pv 1) pe_non (nomark _)) pss_never pss_nil)
        (pss_cons (ps_if (pt_val (pe_callB call_isi (by rfl) B.isinstance (by decide +kernel) (pa_cons (pv 1) (pa_cons (pe_bltn (v := .ty "bool") (by rfl) B.bool (by decide +kernel) rfl) pa_nil)))) pss_never pss_nil)
        (pss_cons (ps_if (pt_val (pe_callB call_isi (by rfl) B.isinstance (by decide +kernel) (pa_cons (pv 1) (pa_cons (pe_bltn (v := .ty "int") (by rfl) B.int (by decide +kernel) rfl) pa_nil)))) pss_never pss_nil)
        (pss_cons (ps_if (pt_val (pe_callB call_isi (by rfl) B.isinstance (by decide +kernel) (pa_cons (pv 1) (pa_cons (pe_bltn (v := .ty "str") (by rfl) B.str (by decide +kernel) rfl) pa_nil)))) pss_never pss_nil)
        (pss_cons (ps_if (pt_val (pe_callB call_isi (by rfl) B.isinstance (by decide +kernel) (pa_cons (pv 1) (pa_cons (pe_bltn (v := .ty "dict") (by rfl) B.dict (by decide +kernel) rfl) pa_nil)))) pss_never pss_nil)
        (pss_cons (ps_if (PW.pt (pw_or (pt_cmpR op_ne (pe_callB call_isi (by rfl) B.isinstance (by decide +kernel) (pa_cons (pv 1) (pa_cons (pe_bltn (v := .ty "tuple") (by rfl) B.tuple (by decide +kernel) rfl) pa_nil)))
              (pe_callB call_isi (by rfl) B.isinstance (by decide +kernel) (pa_cons (pv 0) (pa_cons (pe_bltn (v := .ty "tuple") (by rfl) B.tuple (by decide +kernel) rfl) pa_nil))) (nomark _))
            (pw_or1 (pt_cmpR op_ne (pe_callB call_isi (by rfl) B.isinstance (by decide +kernel) (pa_cons (pv 1) (pa_cons (pe_bltn (v := .ty "list") (by rfl) B.list (by decide +kernel) rfl) pa_nil)))
              (pe_callB call_isi (by rfl) B.isinstance (by decide +kernel) (pa_cons (pv 0) (pa_cons (pe_bltn (v := .ty "list") (by rfl) B.list (by decide +kernel) rfl) pa_nil))) (nomark _))))) pss_never pss_nil)
        (pss_cons (ps_if (pt_cmpR op_ne (pe_callB call_len_seq (by rfl) B.len PySem.boot_len (pa_cons (pv 0) pa_nil)) (pe_callB call_len_seq (by rfl) B.len PySem.boot_len (pa_cons (pv 1) pa_nil)) (nomark _)) pss_never pss_nil)
        (pss_one (ps_ret (pe_callB (cr_all rfl) (by rfl) B.all (by decide +kernel) (pa_cons
          (pe_lc (own := [("_law_at", 2)]) (g := gName 2) (tt := tYes) rfl scSame.nd (pi_range1 (by rfl) B.range (pa_cons (pe_callB call_len_seq (by rfl) B.len PySem.boot_len (pa_cons (pv 1) pa_nil)) pa_nil))
            (blkOk_by (own := [("_law_at", 2)]) (N := ["_law_found", "_law_due", "_law_at"]) (sc := defScope sSame) (by decide +kernel)) (fun _ _ _ _ _ => pg_name (i := 2) scSame.nd rfl (Or.inl rfl)) (fun _ _ _ _ _ => pts_nil)
            (fun _ _ _ _ _ => pe_call G hr (by rfl) gS kS bS .nil pass0 (pa_cons (pe_ix (r := rIx K) ix_seq (pv 0) (pv 2) (fun _ _ => rfl)) (pa_cons (pe_ix (r := rIx K) ix_seq (pv 1) (pv 2) (fun _ _ => rfl)) pa_nil)))) pa_nil)))))))))), ?_⟩
      obtain ⟨T, bt, bl, ta, tb, k1, k2, k3, k4, k5, k6⟩ := seq_ty (K := K) hs
      refine ⟨.ref b, rfl, rfl, _, rfl, iteF ?_⟩
      refine ⟨.ref b, rfl, _, _, _, _, false, rfl, .ty "bool", tb, kit_ty k1, _, rfl, iteF ?_⟩
      refine ⟨.ref b, rfl, _, _, _, _, false, rfl, .ty "int", tb, kit_ty k2, _, rfl, iteF ?_⟩
      refine ⟨.ref b, rfl, _, _, _, _, false, rfl, .ty "str", tb, kit_ty k3, _, rfl, iteF ?_⟩
      refine ⟨.ref b, rfl, _, _, _, _, false, rfl, .ty "dict", tb, kit_ty k4, _, rfl, iteF ?_⟩
      refine ⟨.ref b, rfl, _, _, _, _, bt, rfl, .ty "tuple", tb, kit_ty k5, .ref a, rfl, _, _, _, _, bt, rfl, .ty "tuple", ta, kit_ty k5, rfl, _, rfl, ?_⟩
      rw [bl_self]
      refine iteF ?_
      refine ⟨.ref b, rfl, _, _, _, _, bl, rfl, .ty "list", tb, kit_ty k6, .ref a, rfl, _, _, _, _, bl, rfl, .ty "list", ta, kit_ty k6, rfl, _, rfl, ?_⟩
      rw [bl_self]
      refine iteF ?_
      have sA : SqL K H a xs ∨ SqT K H a xs := hs.imp (fun q => SqL.of q.1) (fun q => SqT.of q.1)
      have sB : SqL K H b ys ∨ SqT K H b ys := hs.imp (fun q => SqL.of q.2) (fun q => SqT.of q.2)
      refine ⟨.ref a, rfl, a, xs, rfl, sA, .ref b, rfl, b, ys, rfl, sB, rfl, _, rfl, ?_⟩
      rw [hl, decide_eq_true rfl]
      refine iteF ?_
      refine ⟨.ref b, rfl, b, ys, rfl, sB, (ys.length : Nat), rfl, by omega, by omega, fun D nD => ?_⟩
      refine lc_range (lo := 0) (n := ((ys.length : Nat) : Int).toNat) (fun i H' => Same H H' ∧ H' D = some (.lst ((List.replicate i true).map V.bl))) ⟨same_new nD, upd_same⟩ (fun i H' hi ⟨sm, hD⟩ => ?_) (fun H' ⟨sm, hD⟩ => ?_)
      · have hi' : i < ys.length := by omega
        have hx : xs[i]? = some (xs[i]'(by omega)) := List.getElem?_eq_getElem (by omega)
        have hy : ys[i]? = some ys[i] := List.getElem?_eq_getElem hi'
        have ez : (0 : Int) + (i : Nat) = ((i : Nat) : Int) := by omega
        rw [ez]
        have sA' : rIx K (.ref a) (.int ((i : Nat) : Int)) H' = rIx K (.ref a) (.int ((i : Nat) : Int)) H' := rfl
        have rdA : ∀ Q : VK, Q (xs[i]'(by omega)) H' → rIx K (.ref a) (.int ((i : Nat) : Int)) H' Q := fun Q hQ => by
          rcases hs with ⟨h1, _⟩ | ⟨h1, _⟩
          · exact .inl ⟨a, xs, _, _, rfl, rfl, SqL.of (sm _ _ h1), atI_nat hx, hQ⟩
          · exact .inr (.inl ⟨a, xs, _, _, rfl, rfl, SqT.of (sm _ _ h1), atI_nat hx, hQ⟩)
        have rdB : ∀ Q : VK, Q ys[i] H' → rIx K (.ref b) (.int ((i : Nat) : Int)) H' Q := fun Q hQ => by
          rcases hs with ⟨_, h1⟩ | ⟨_, h1⟩
          · exact .inl ⟨b, ys, _, _, rfl, rfl, SqL.of (sm _ _ h1), atI_nat hy, hQ⟩
          · exact .inr (.inl ⟨b, ys, _, _, rfl, rfl, SqT.of (sm _ _ h1), atI_nat hy, hQ⟩)
        refine ⟨rfl, yes (iteT ?_)⟩
        refine ⟨.ref a, rfl, .int ((i : Nat) : Int), rfl, rdA _ ⟨.ref b, rfl, .int ((i : Nat) : Int), rfl, rdB _ ?_⟩⟩
        refine ⟨_, _, rfl, (hE i _ _ hx hy).same sm, fun H2 s2 => ⟨_, s2 _ _ hD, ?_, ?_, ?_⟩⟩
        · rw [List.length_map, List.length_replicate]
          exact small1000 (by omega)
        · exact fun c o e => by
            have nc : c ≠ D := fun z => by rw [z, nD] at e; cases e
            rw [upd_ne nc]
            exact s2 _ _ (sm _ _ e)
        · rw [upd_same, List.replicate_succ', List.map_append]
          rfl
      · refine ⟨D, _, rfl, SqL.of hD, ?_⟩
        have e : (List.replicate ((ys.length : Nat) : Int).toNat true).all id = true := by
          rw [List.all_eq_true]
          intro x hx
          exact (List.eq_of_mem_replicate hx)
        rw [e]
        exact q _ sm
  have leaf : FnOk P w K mg base CX0 (d + 2) f fd ["_law_found", "_law_due"] (spSame 0) := ok_same_leaf F B
  exact fnEither key leaf fun vs H Q E ⟨x, y, ev, h, q⟩ => by
    rcases h with h | ⟨a, b, xs, ys, rfl, rfl, hs, hl, hz, hE⟩
    · exact .inr ⟨x, y, ev, h, q⟩
    · exact .inl ⟨a, b, xs, ys, ev, hs, hl, hz, hE, q⟩
theorem ok_same {f : Addr} {fd : FuncData} (F : Fun K "_law_same" "_law_same" sSame f fd) (B : Bl mg) (gS : mg "_law_same" = some (.ref f)) (bS : Binds K fd ["_law_found", "_law_due"] []) :
    ∀ d : Nat, FnOk P w K mg base CX0 (d + 1) f fd ["_law_found", "_law_due"] (spSame d)
  | 0 => ok_same_leaf F B
  | d + 1 => ok_same_step F B gS F.kp bS (ok_same F B gS bS d)
end
end HL

namespace HL
open PySem PySem.Spec PyProof.Rows L2
open C8 (pss_cut)
/-! ### rows and lots in the heap -/
def Rows (H : Hp) : List Addr → List (List Int) → Prop
  | [], [] => True
  | a :: as, r :: rs => H a = some (.tup (r.map V.int)) ∧ Rows H as rs
  | _, _ => False
theorem Rows.len {H : Hp} : ∀ {as : List Addr} {ll : List (List Int)}, Rows H as ll → as.length = ll.length
  | [], [], _ => rfl
  | a :: as, r :: rs, h => by rw [List.length_cons, List.length_cons, Rows.len h.2]
  | [], _ :: _, h => h.elim
  | _ :: _, [], h => h.elim
theorem Rows.mono {H H' : Hp} : ∀ {as : List Addr} {ll : List (List Int)}, Rows H as ll → (∀ a xs, H a = some (.tup xs) → H' a = some (.tup xs)) → Rows H' as ll
  | [], [], _, _ => True.intro
  | a :: as, r :: rs, h, k => ⟨k _ _ h.1, Rows.mono h.2 k⟩
  | [], _ :: _, h, _ => h.elim
  | _ :: _, [], h, _ => h.elim
theorem Rows.same {H H' : Hp} {as : List Addr} {ll : List (List Int)} (h : Rows H as ll) (s : Same H H') : Rows H' as ll := h.mono fun a xs e => s _ _ e
theorem Rows.kp {H H' : Hp} {f c : Addr} {as : List Addr} {ll : List (List Int)} (h : Rows H as ll) (F : FeedAt c H f) (k : Kp f H H') : Rows H' as ll := h.mono fun a xs e => k _ _ (F.tup e) e
theorem Rows.app {H : Hp} : ∀ {as bs : List Addr} {ll mm : List (List Int)}, Rows H as ll → Rows H bs mm → Rows H (as ++ bs) (ll ++ mm)
  | [], _, [], _, _, h => h
  | a :: as, bs, r :: rs, mm, h, k => ⟨h.1, Rows.app h.2 k⟩
  | [], _, _ :: _, _, h, _ => h.elim
  | _ :: _, _, [], _, h, _ => h.elim
theorem Rows.take {H : Hp} : ∀ {as : List Addr} {ll : List (List Int)} (n : Nat), Rows H as ll → Rows H (as.take n) (ll.take n)
  | [], [], n, _ => by rw [List.take_nil, List.take_nil]; exact True.intro
  | _ :: _, _ :: _, 0, _ => True.intro
  | a :: as, r :: rs, n + 1, h => ⟨h.1, Rows.take n h.2⟩
  | [], _ :: _, _, h => h.elim
  | _ :: _, [], _, h => h.elim
theorem Rows.drop {H : Hp} : ∀ {as : List Addr} {ll : List (List Int)} (n : Nat), Rows H as ll → Rows H (as.drop n) (ll.drop n)
  | [], [], n, _ => by rw [List.drop_nil, List.drop_nil]; exact True.intro
  | _ :: _, _ :: _, 0, h => h
  | a :: as, r :: rs, n + 1, h => Rows.drop n h.2
  | [], _ :: _, _, h => h.elim
  | _ :: _, [], _, h => h.elim
theorem Rows.at {H : Hp} : ∀ {as : List Addr} {ll : List (List Int)} {i : Nat} {a : Addr}, Rows H as ll → as[i]? = some a → ∃ r, ll[i]? = some r ∧ H a = some (.tup (r.map V.int))
  | [], [], _, _, _, e => by simp at e
  | b :: as, r :: rs, 0, a, h, e => by
    have e' : b = a := Option.some.inj e
    subst e'
    exact ⟨r, rfl, h.1⟩
  | b :: as, r :: rs, i + 1, a, h, e => Rows.at (i := i) h.2 e
  | [], _ :: _, _, _, h, _ => h.elim
  | _ :: _, [], _, _, h, _ => h.elim
/-- a lot in the heap -/
def LotAt (H : Hp) (p : Addr) (ll : List (List Int)) : Prop := ∃ as : List Addr, H p = some (.tup (as.map V.ref)) ∧ Rows H as ll
theorem LotAt.same {H H' : Hp} {p : Addr} {ll : List (List Int)} (h : LotAt H p ll) (s : Same H H') : LotAt H' p ll := by
  obtain ⟨as, h1, h2⟩ := h
  exact ⟨as, s _ _ h1, h2.same s⟩
theorem LotAt.kp {H H' : Hp} {f c p : Addr} {ll : List (List Int)} (h : LotAt H p ll) (F : FeedAt c H f) (k : Kp f H H') : LotAt H' p ll := by
  obtain ⟨as, h1, h2⟩ := h
  exact ⟨as, k _ _ (F.tup h1) h1, h2.kp F k⟩
/-- a kind as it should be, of g amounts to m -/
def GoodRow (g m : Int) (r : List Int) : Prop := r.length = g.toNat ∧ (∀ n ∈ r, 0 ≤ n ∧ n ≤ m) ∧ ∃ n ∈ r, 0 < n
theorem pos_of_sum : ∀ {r : List Int}, (∀ n ∈ r, 0 ≤ n) → r.sum ≠ 0 → ∃ n ∈ r, 0 < n
  | [], _, h => absurd rfl h
  | x :: r, h0, h => by
    by_cases hx : 0 < x
    · exact ⟨x, List.mem_cons_self, hx⟩
    · have e : x = 0 := by
        have := h0 x List.mem_cons_self
        omega
      rw [List.sum_cons, e, Int.zero_add] at h
      obtain ⟨n, hn, hp⟩ := pos_of_sum (fun n hn => h0 n (List.mem_cons_of_mem _ hn)) h
      exact ⟨n, List.mem_cons_of_mem _ hn, hp⟩
/-! ### hold -/
theorem scHold : FnScope ["_law_feed_here", "_law_goods", "_law_most", "_law_hold_here", "_law_good"] ["_law_feed_here", "_law_goods", "_law_most"] (defScope sHold) := ⟨rfl, rfl, rfl, by decide +kernel, rfl, by decide +kernel, by decide +kernel⟩
theorem scLot : FnScope ["_law_feed_here", "_law_goods", "_law_kinds", "_law_most", "_law_kind_here"] ["_law_feed_here", "_law_goods", "_law_kinds", "_law_most"] (defScope sLot) := ⟨rfl, rfl, rfl, by decide +kernel, rfl, by decide +kernel, by decide +kernel⟩
theorem scAny : FnScope ["_law_feed_here"] ["_law_feed_here"] (defScope sAny) := ⟨rfl, rfl, rfl, by decide +kernel, rfl, by decide +kernel, by decide +kernel⟩
section
variable {P : Program} {w : World} {K : PySem.W.Frag} {mg : Str → Option Value} {base : Heap}
def spHold : Sp := fun vs H Q _ => ∃ (f c : Addr) (g m : Int), vs = [.ref f, .int g, .int m] ∧ FeedAt c H f ∧ 1 ≤ g ∧ g ≤ 100 ∧ 1 ≤ m ∧ m ≤ 100 ∧
  ∀ H' p ns, Kp f H H' → FeedAt c H' f → H p = none → H' p = some (.tup (ns.map V.int)) → GoodRow g m ns → Q (.ref p) H'
theorem ok_hold {f : Addr} {fd : FuncData} (F : Fun K "_law_hold" "_law_hold" sHold f fd) (B : Bl mg) (CD : Cal P w K mg base CX0 1 "_law_draw" ["_law_feed_here", "_law_many"] spDraw) :
    FnOk P w K mg base CX0 2 f fd ["_law_feed_here", "_law_goods", "_law_most"] spHold := by
  obtain ⟨fD, fdD, GD, gD, kD, bD⟩ := CD.ex
  refine F.ok scHold (fun vs H Q E h => ?_) (fun cdv A outer s H vs Q E hr h => ?_)
  · obtain ⟨a, c, g, m, rfl, _⟩ := h
    rfl
  · obtain ⟨a, c, g, m, rfl, Fd, g1, g2, m1, m2, q⟩ := h
    refine ⟨_, pss_cons (ps_setLc (i := 3) (own := [("_law_good", 4)]) (g := gName 4) (tt := tYes) rfl scHold.nd rfl rfl (sw_true rfl rfl rfl (by decide +kernel)) (pi_range1 (by rfl) B.range (pa_cons (pv 1) pa_nil))
          (blkOk_by (own := [("_law_good", 4)]) (N := ["_law_feed_here", "_law_goods", "_law_most", "_law_hold_here", "_law_good"]) (sc := defScope sHold) (by decide +kernel)) (fun _ _ _ _ _ => pg_name (i := 4) scHold.nd rfl (Or.inl rfl)) (fun _ _ _ _ _ => pts_nil)
          (fun _ _ _ _ _ => pe_ifExp (pt_cmpR op_gt (pe_call GD hr (by rfl) gD kD bD .nil pass0 (pa_cons (pv 0) (pa_cons pe_int pa_nil))) pe_int (nomark _)) (pe_call GD hr (by rfl) gD kD bD .nil pass0 (pa_cons (pv 0) (pa_cons (pe_op op_add (pv 2) pe_int) pa_nil))) pe_int))
      (pss_cut (ps_if (pt_cmpR op_eq (pe_callB (cr_sum rfl) (by rfl) B.sum (by decide +kernel) (pa_cons (pv 3) pa_nil)) pe_int (nomark _))
          (pss_one (ps_asg (pe_op op_add pe_int (pe_call GD hr (by rfl) gD kD bD .nil pass0 (pa_cons (pv 0) (pa_cons (pv 2) pa_nil)))) (pg_sub (pv 3) (pe_call GD hr (by rfl) gD kD bD .nil pass0 (pa_cons (pv 0) (pa_cons (pv 1) pa_nil))) set_list))) pss_nil)
        (pss_one (ps_ret (pe_callTy call_tuple_of (by rfl) B.tuple (by decide +kernel) (pa_cons (pv 3) pa_nil))))), ?_⟩
    refine ⟨.int g, rfl, g, rfl, by omega, by omega, fun D nD => ?_⟩
    have nDf : D ≠ a := Fd.ne nD
    have nDc : D ≠ c := Fd.neC nD
    refine lc_range (lo := 0) (n := g.toNat) (fun i H' => Kp a H H' ∧ FeedAt c H' a ∧ ∃ ns : List Int, H' D = some (.lst (ns.map V.int)) ∧ ns.length = i ∧ ∀ n ∈ ns, 0 ≤ n ∧ n ≤ m)
      ⟨Kp.new nD, Fd.new nD, [], upd_same, rfl, fun n hn => by cases hn⟩ (fun i H' hi ⟨kp, F', ns, hD, hl, hb⟩ => ?_) (fun H' ⟨kp, F', ns, hD, hl, hb⟩ => ?_)
    · refine ⟨rfl, yes (iteT ?_)⟩
      have more : ∀ (H2 : Hp) (d : Int), Kp a H' H2 → FeedAt c H2 a → 0 ≤ d → d ≤ m → ∃ acc, H2 D = some (.lst acc) ∧ acc.length < sizeLine ∧ Kp a H (upd H2 D (.lst (acc ++ [.int d]))) ∧ FeedAt c (upd H2 D (.lst (acc ++ [.int d]))) a ∧
          ∃ ns : List Int, upd H2 D (.lst (acc ++ [.int d])) D = some (.lst (ns.map V.int)) ∧ ns.length = i + 1 ∧ ∀ n ∈ ns, 0 ≤ n ∧ n ≤ m := fun H2 d k2 F2 d0 d1 => by
        have hD2 := k2 _ _ nDf hD
        refine ⟨_, hD2, ?_, ?_, ?_, ns ++ [d], ?_, ?_, ?_⟩
        · rw [List.length_map]
          exact small1000 (by omega)
        · exact (kp.trans k2).late nD
        · exact F2.put nDf nDc
        · rw [upd_same, List.map_append]
          rfl
        · rw [List.length_append, hl]
          rfl
        · intro n hn
          rcases List.mem_append.mp hn with h | h
          · exact hb n h
          · rw [List.mem_singleton.mp h]
            exact ⟨d0, d1⟩
      refine ⟨.ref a, rfl, a, c, 3, rfl, by decide, by decide, F', fun d1 H1 _ _ k1 F1 => ?_⟩
      refine ⟨d1, 0, rfl, rfl, _, rfl, ite2 (fun _ => ?_) (fun _ => ?_)⟩
      · refine ⟨.ref a, rfl, .int m, rfl, m, 1, rfl, rfl, a, c, m + 1, rfl, by omega, by omega, F1, fun d2 H2 e0 e1 k2 F2 => ?_⟩
        exact more H2 d2 (k1.trans k2) F2 e0 (by omega)
      · exact more H1 0 k1 F1 (by decide) (by omega)
    · -- behind the comprehension
      refine ⟨fun σ' H2 => ∃ ns : List Int, σ' = [some (.ref a), some (.int g), some (.int m), some (.ref D), none] ∧ Kp a H H2 ∧ FeedAt c H2 a ∧ H2 D = some (.lst (ns.map V.int)) ∧ GoodRow g m ns, ?_, ?_⟩
      · refine ⟨.ref D, rfl, D, ns, rfl, SqL.of hD, rfl, _, rfl, ite2 (fun cs => ?_) (fun cs => ?_)⟩
        · refine ⟨.ref a, rfl, .int m, rfl, a, c, m, rfl, by omega, by omega, F', fun d1 H1 e0 e1 k1 F1 => ?_⟩
          refine ⟨1, d1, rfl, rfl, .ref D, rfl, .ref a, rfl, .int g, rfl, a, c, g, rfl, by omega, by omega, F1, fun d2 H2 c0 c1 k2 F2 => ?_⟩
          have hD2 : H2 D = some (.lst (ns.map V.int)) := k2 _ _ nDf (k1 _ _ nDf hD)
          have hj : ixN (ns.map V.int).length d2 = some d2.toNat := by
            unfold ixN
            rw [if_pos c0, if_pos (by rw [List.length_map]; omega)]
          refine ⟨D, _, d2, d2.toNat, rfl, rfl, hD2, hj, ns.set d2.toNat (1 + d1), rfl, ?_, ?_, ?_, ?_, ?_, ?_⟩
          · exact (kp.trans (k1.trans k2)).late nD
          · exact F2.put nDf nDc
          · rw [upd_same, List.map_set]
          · rw [List.length_set]
            exact hl
          · intro n hn
            rcases List.mem_or_eq_of_mem_set hn with h | h
            · exact hb n h
            · rw [h]
              omega
          · exact ⟨1 + d1, List.mem_iff_getElem.mpr ⟨d2.toNat, by rw [List.length_set]; omega, by simp⟩, by omega⟩
        · have hs : ns.sum ≠ 0 := fun z => cs (decide_eq_true (by rw [z]))
          exact ⟨ns, rfl, kp, F', hD, hl, hb, pos_of_sum (fun n hn => (hb n hn).1) hs⟩
      · rintro σ' H2 ⟨ms, rfl, k2, F2, hD2, G2⟩
        refine ⟨.ref D, rfl, D, _, rfl, .inl ⟨SqL.of hD2, fun p np => ?_⟩⟩
        exact q _ p ms (k2.trans (Kp.new np)) (F2.new np) (k2.free (F2.ne np) np) upd_same G2
end
end HL

namespace HL
open PySem PySem.Spec PyProof.Rows L2
open C8 (pss_cut)
section
variable {P : Program} {w : World} {K : PySem.W.Frag} {mg : Str → Option Value} {base : Heap}
/-! ### lots -/
/-- a lot as it should be -/
def GoodLot (g m : Int) (n : Nat) (ll : List (List Int)) : Prop := 1 ≤ ll.length ∧ ll.length ≤ n ∧ ∀ r ∈ ll, GoodRow g m r
def spLot : Sp := fun vs H Q _ => ∃ (f c : Addr) (g kk m : Int), vs = [.ref f, .int g, .int kk, .int m] ∧ FeedAt c H f ∧ 1 ≤ g ∧ g ≤ 100 ∧ 1 ≤ kk ∧ kk ≤ 100 ∧ 1 ≤ m ∧ m ≤ 100 ∧
  ∀ H' p ll, Kp f H H' → FeedAt c H' f → H p = none → LotAt H' p ll → GoodLot g m kk.toNat ll → Q (.ref p) H'
theorem ok_lot {f : Addr} {fd : FuncData} (F : Fun K "_law_lot" "_law_lot" sLot f fd) (B : Bl mg) (CD : Cal P w K mg base CX0 1 "_law_draw" ["_law_feed_here", "_law_many"] spDraw)
    (CH : Cal P w K mg base CX0 2 "_law_hold" ["_law_feed_here", "_law_goods", "_law_most"] spHold) : FnOk P w K mg base CX0 3 f fd ["_law_feed_here", "_law_goods", "_law_kinds", "_law_most"] spLot := by
  obtain ⟨fD, fdD, GD, gD, kD, bD⟩ := CD.ex
  obtain ⟨fH, fdH, GH, gH, kH, bH⟩ := CH.ex
  refine F.ok scLot (fun vs H Q E h => ?_) (fun cdv A outer s H vs Q E hr h => ?_)
  · obtain ⟨a, c, g, kk, m, rfl, _⟩ := h
    rfl
  · obtain ⟨a, c, g, kk, m, rfl, Fd, g1, g2, n1, n2, m1, m2, q⟩ := h
    refine ⟨_, pss_one (ps_ret (pe_callTy call_tuple_of (by rfl) B.tuple (by decide +kernel) (pa_cons
      (pe_lc (own := [("_law_kind_here", 4)]) (g := gName 4) (tt := tYes) rfl scLot.nd (pi_range1 (by rfl) B.range (pa_cons (pe_op op_add pe_int (pe_call GD (hr.mono (by decide)) (by rfl) gD kD bD .nil pass0 (pa_cons (pv 0) (pa_cons (pv 2) pa_nil)))) pa_nil))
        (blkOk_by (own := [("_law_kind_here", 4)]) (N := ["_law_feed_here", "_law_goods", "_law_kinds", "_law_most", "_law_kind_here"]) (sc := defScope sLot) (by decide +kernel)) (fun _ _ _ _ _ => pg_name (i := 4) scLot.nd rfl (Or.inl rfl)) (fun _ _ _ _ _ => pts_nil)
        (fun _ _ _ _ _ => pe_call GH hr (by rfl) gH kH bH .nil pass0 (pa_cons (pv 0) (pa_cons (pv 1) (pa_cons (pv 3) pa_nil))))) pa_nil))), ?_⟩
    refine ⟨.ref a, rfl, .int kk, rfl, a, c, kk, rfl, by omega, by omega, Fd, fun d H1 d0 d1 k1 F1 => ?_⟩
    refine ⟨1, d, rfl, rfl, 1 + d, rfl, by omega, by omega, fun D nD => ?_⟩
    have nDf : D ≠ a := F1.ne nD
    have nDc : D ≠ c := F1.neC nD
    have nD0 : H D = none := k1.free nDf nD
    refine lc_range (lo := 0) (n := (1 + d).toNat) (fun i H' => Kp a H H' ∧ FeedAt c H' a ∧ ∃ (as : List Addr) (ll : List (List Int)), H' D = some (.lst (as.map V.ref)) ∧ Rows H' as ll ∧ ll.length = i ∧ ∀ r ∈ ll, GoodRow g m r)
      ⟨k1.late nD0, F1.new nD, [], [], upd_same, True.intro, rfl, fun n hn => by cases hn⟩ (fun i H' hi ⟨kp, F', as, ll, hD, hR, hl, hb⟩ => ?_) (fun H' ⟨kp, F', as, ll, hD, hR, hl, hb⟩ => ?_)
    · refine ⟨rfl, yes (iteT ?_)⟩
      refine ⟨.ref a, rfl, .int g, rfl, .int m, rfl, a, c, g, m, rfl, F', g1, g2, m1, m2, fun H2 p ns k2 F2 np hp gr => ?_⟩
      have hD2 := k2 _ _ nDf hD
      have nt : ∀ b xs, H2 b = some (.tup xs) → upd H2 D (.lst (as.map V.ref ++ [.ref p])) b = some (.tup xs) := fun b xs e => by
        rw [upd_ne (ne_of e hD2 (fun z => by cases z))]
        exact e
      refine ⟨_, hD2, ?_, (kp.trans k2).late nD0, F2.put nDf nDc, as ++ [p], ll ++ [ns], ?_, ?_, ?_, ?_⟩
      · rw [List.length_map, hR.len]
        exact small1000 (by omega)
      · rw [upd_same, List.map_append]
        rfl
      · exact ((hR.kp F' k2).mono nt).app ⟨nt _ _ hp, True.intro⟩
      · rw [List.length_append, hl]
        rfl
      · intro r hr
        rcases List.mem_append.mp hr with h | h
        · exact hb r h
        · rw [List.mem_singleton.mp h]
          exact gr
    · refine ⟨D, _, rfl, .inl ⟨SqL.of hD, fun p np => ?_⟩⟩
      exact q _ p ll (kp.trans (Kp.new np)) (F'.new np) (kp.free (F'.ne np) np) ⟨as, upd_same, hR.same (same_new np)⟩ ⟨by omega, by omega, hb⟩
def spAny : Sp := fun vs H Q _ => ∃ (f c : Addr), vs = [.ref f] ∧ FeedAt c H f ∧
  ∀ H' p ll g m, Kp f H H' → FeedAt c H' f → H p = none → LotAt H' p ll → 1 ≤ g → g ≤ 3 → 1 ≤ m → m ≤ 6 → GoodLot g m 5 ll → Q (.ref p) H'
theorem ok_any {f : Addr} {fd : FuncData} (F : Fun K "_law_any_lot" "_law_any_lot" sAny f fd) (CD : Cal P w K mg base CX0 1 "_law_draw" ["_law_feed_here", "_law_many"] spDraw)
    (CP : Cal P w K mg base CX0 2 "_law_pick" ["_law_feed_here", "_law_row"] spPick) (CL : Cal P w K mg base CX0 3 "_law_lot" ["_law_feed_here", "_law_goods", "_law_kinds", "_law_most"] spLot) : FnOk P w K mg base CX0 4 f fd ["_law_feed_here"] spAny := by
  obtain ⟨fD, fdD, GD, gD, kD, bD⟩ := CD.ex
  obtain ⟨fP, fdP, GP, gP, kP, bP⟩ := CP.ex
  obtain ⟨fL, fdL, GL, gL, kL, bL⟩ := CL.ex
  refine F.ok scAny (fun vs H Q E h => ?_) (fun cdv A outer s H vs Q E hr h => ?_)
  · obtain ⟨a, c, rfl, _⟩ := h
    rfl
  · obtain ⟨a, c, rfl, Fd, q⟩ := h
    refine ⟨_, pss_one (ps_ret (pe_call GL hr (by rfl) gL kL bL .nil pass0 (pa_cons (pv 0) (pa_cons (pe_op op_add pe_int (pe_call GD (hr.mono (by decide)) (by rfl) gD kD bD .nil pass0 (pa_cons (pv 0) (pa_cons pe_int pa_nil)))) (pa_cons pe_int
      (pa_cons (pe_call GP (hr.mono (by decide)) (by rfl) gP kP bP .nil pass0 (pa_cons (pv 0) (pa_cons (pe_lst (pa_cons pe_int (pa_cons pe_int (pa_cons pe_int (pa_cons pe_int pa_nil))))) pa_nil))) pa_nil)))))), ?_⟩
    refine ⟨.ref a, rfl, .ref a, rfl, a, c, 3, rfl, by decide, by decide, Fd, fun d H1 d0 d1 k1 F1 => ?_⟩
    refine ⟨1, d, rfl, rfl, .ref a, rfl, (by show 4 ≤ sizeLine; decide), fun r nr => ?_⟩
    refine ⟨a, c, r, _, rfl, upd_same, F1.ne nr, by decide, by decide, F1.new nr, fun v H2 hv k2 F2 => ?_⟩
    obtain ⟨m, rfl, m1, m2⟩ : ∃ m : Int, v = .int m ∧ 1 ≤ m ∧ m ≤ 6 := by
      simp only [List.mem_cons, List.mem_nil_iff, or_false] at hv
      rcases hv with h | h | h | h <;> exact ⟨_, h, by decide, by decide⟩
    refine ⟨a, c, 1 + d, 5, m, rfl, F2, by omega, by omega, by decide, by decide, m1, by omega, fun H3 p ll k3 F3 np hL gl => ?_⟩
    have k12 : Kp a H H2 := k1.trans ((Kp.new nr).trans k2)
    exact q H3 p ll (1 + d) m (k12.trans k3) F3 (k12.free (F2.ne np) np) hL (by omega) (by omega) m1 m2 gl
theorem rep_one (v : V) : ∀ n : Nat, (List.replicate n [v]).flatten = List.replicate n v
  | 0 => rfl
  | n + 1 => by
    rw [List.replicate_succ, List.flatten_cons, rep_one v n, List.replicate_succ]
    rfl
end
end HL

namespace HL
open PySem PySem.Spec PyProof.Rows L2
open C8 (pss_cut)
/-! ### what a lot must be -/
def okRow (g : Nat) (r : List Int) : Bool := decide (r.length = g) && (r.all (fun n => decide (0 ≤ n ∧ n ≤ 6)) && r.any (fun n => decide (0 < n)))
def flawIn (g : Nat) (ll : List (List Int)) : Option Int := (ll.findIdx? fun r => !okRow g r).map fun i => (i : Int)
def width (ll : List (List Int)) : Nat := (ll.headD []).length
def flaw (ll : List (List Int)) : Option Int := if 1 ≤ ll.length ∧ ll.length ≤ 5 ∧ 1 ≤ width ll ∧ width ll ≤ 3 then flawIn (width ll) ll else some (-1)
def flawV (ll : List (List Int)) : V := match flaw ll with
  | none => .non
  | some k => .int k
theorem flawIn_at {g : Nat} {ll : List (List Int)} {i : Nat} {r : List Int} (h : ll[i]? = some r) (hb : okRow g r = false) (ha : ∀ (j : Nat) (r' : List Int), j < i → ll[j]? = some r' → okRow g r' = true) : flawIn g ll = some (i : Int) := by
  unfold flawIn
  obtain ⟨hi, he⟩ := List.getElem?_eq_some_iff.mp h
  have e : ll.findIdx? (fun r => !okRow g r) = some i := by
    refine List.findIdx?_eq_some_iff_getElem.mpr ⟨hi, by rw [he, hb]; rfl, fun j hj => ?_⟩
    rw [ha j ll[j] hj (List.getElem?_eq_getElem (by omega))]
    decide
  rw [e]
  rfl
theorem flawIn_none {g : Nat} {ll : List (List Int)} (ha : ∀ (j : Nat) (r' : List Int), j < ll.length → ll[j]? = some r' → okRow g r' = true) : flawIn g ll = none := by
  unfold flawIn
  have e : ll.findIdx? (fun r => !okRow g r) = none := by
    refine List.findIdx?_eq_none_iff.mpr fun r hr => ?_
    obtain ⟨j, hj, hjr⟩ := List.mem_iff_getElem.mp hr
    rw [ha j r hj (by rw [List.getElem?_eq_getElem hj, hjr])]
    rfl
  rw [e]
  rfl
theorem all_in {r : List Int} : (r.all (fun n => decide (0 ≤ n ∧ n ≤ 6))) = true ↔ ∀ n ∈ r, 0 ≤ n ∧ n ≤ 6 := by
  rw [List.all_eq_true]
  exact ⟨fun h n hn => of_decide_eq_true (h n hn), fun h n hn => decide_eq_true (h n hn)⟩
theorem any_pos {r : List Int} : (r.any (fun n => decide (0 < n))) = true ↔ ∃ n ∈ r, 0 < n := by
  rw [List.any_eq_true]
  exact ⟨fun ⟨n, hn, h⟩ => ⟨n, hn, of_decide_eq_true h⟩, fun ⟨n, hn, h⟩ => ⟨n, hn, decide_eq_true h⟩⟩
theorem okRow_iff {g : Nat} {r : List Int} : okRow g r = true ↔ r.length = g ∧ (∀ n ∈ r, 0 ≤ n ∧ n ≤ 6) ∧ ∃ n ∈ r, 0 < n := by
  unfold okRow
  rw [Bool.and_eq_true, Bool.and_eq_true, decide_eq_true_iff, all_in, any_pos]
theorem sum_pos {r : List Int} (h0 : ∀ n ∈ r, 0 ≤ n) (h : ∃ n ∈ r, 0 < n) : 0 < r.sum := by
  induction r with
  | nil => obtain ⟨n, hn, _⟩ := h; cases hn
  | cons x r ih =>
    rw [List.sum_cons]
    have x0 := h0 x List.mem_cons_self
    have rest : 0 ≤ r.sum := by
      clear ih h
      induction r with
      | nil => exact Int.le_refl _
      | cons y r ih2 =>
        rw [List.sum_cons]
        have := h0 y (List.mem_cons_of_mem _ List.mem_cons_self)
        have := ih2 fun n hn => h0 n (by
          rcases List.mem_cons.mp hn with h | h
          · rw [h]; exact List.mem_cons_self
          · exact List.mem_cons_of_mem _ (List.mem_cons_of_mem _ h))
        omega
    obtain ⟨n, hn, hp⟩ := h
    rcases List.mem_cons.mp hn with h | h
    · omega
    · have := ih (fun n hn => h0 n (List.mem_cons_of_mem _ hn)) ⟨n, h, hp⟩
      omega
/-- 1 <= x <= 5 as a test -/
theorem chainI {i j L : Int} {H : Hp} {Q : Bool → Hp → Prop} (h : Q (decide (i ≤ L ∧ L ≤ j)) H) :
    if decide (i ≤ L) = true then (∃ a b : Int, V.int L = V.int a ∧ V.int j = V.int b ∧ ∃ k, V.bl (decide (a ≤ b)) = V.bl k ∧ Q k H) else ∃ k, V.bl false = V.bl k ∧ Q k H := by
  by_cases c : i ≤ L
  · rw [if_pos (decide_eq_true c)]
    refine ⟨L, j, rfl, rfl, _, rfl, ?_⟩
    rw [show decide (L ≤ j) = decide (i ≤ L ∧ L ≤ j) by simp [c]]
    exact h
  · rw [if_neg (fun z => c (of_decide_eq_true z))]
    refine ⟨false, rfl, ?_⟩
    rw [show false = decide (i ≤ L ∧ L ≤ j) by simp [c]]
    exact h
theorem Rows.head {H : Hp} {as : List Addr} {ll : List (List Int)} (h : Rows H as ll) (hl : 1 ≤ ll.length) : ∃ a, as[0]? = some a ∧ H a = some (.tup ((ll.headD []).map V.int)) ∧ (ll.headD []).length = width ll := by
  cases as with
  | nil =>
    cases ll with
    | nil => simp at hl
    | cons r rs => exact h.elim
  | cons a as =>
    cases ll with
    | nil => simp at hl
    | cons r rs => exact ⟨a, rfl, h.1, rfl⟩
end HL

namespace HL
open PySem PySem.Spec PyProof.Rows L2
open C8 (pss_cut)
/-! ### the refusal -/
abbrev sBadInit : Stmt := inClass (topS 2) 0
theorem scBI : FnScope ["self", "kind"] ["self", "kind"] (defScope sBadInit) := ⟨rfl, rfl, rfl, by decide +kernel, rfl, by decide +kernel, by decide +kernel⟩
/-- what is known of a refusal's class whose __init__ stores a word and a field -/
structure Cls2 (K : PySem.W.Frag) (C : Addr) (f : Str) : Prop where
  ox : OexC K C
  noW : PySem.W.findIn K (.ref C) "word" = some none
  noF : PySem.W.findIn K (.ref C) f = some none
abbrev exF (f wd : Str) (v : V) : List (Str × V) := [(f, v), ("word", .str wd)]
def spInit2 (C : Addr) (f wd : Str) : Sp := fun vs H Q _ => ∃ (a : Addr) (v : V), vs = [.ref a, v] ∧ H a = some (exo a C none) ∧
  ∀ dx, H dx = none → dx ≠ a → Q .non (upd (upd (upd H dx (exd dx [("word", .str wd)])) a (exo a C (some dx))) dx (exd dx (exF f wd v)))
section
variable {P : Program} {w : World} {K : PySem.W.Frag} {mg : Str → Option Value} {base : Heap}
theorem ok_badInit {f : Addr} {fd : FuncData} {k : Nat} {C : Addr} (F : Fun K "__init__" "BadLot.__init__" sBadInit f fd) (T : Cls2 K C "kind") : FnOk P w K mg base CX0 (k + 1) f fd ["self", "kind"] (spInit2 C "kind" "bad lot") := by
  refine F.ok scBI (fun vs H Q E h => ?_) (fun cdv A outer s H vs Q E hr h => ?_)
  · obtain ⟨a, v, rfl, _⟩ := h
    rfl
  · obtain ⟨a, v, rfl, ha, q⟩ := h
    refine ⟨_, pss_cons (ps_ost (pv 0) pe_str) (pss_one (ps_ost (pv 0) (pv 1))), ?_⟩
    refine ⟨.ref a, rfl, a, C, rfl, T.ox, T.noW, .inl ⟨ha, fun dx nd ne => ?_⟩⟩
    refine ⟨v, rfl, .ref a, rfl, a, C, rfl, T.ox, T.noF, .inr ⟨dx, _, upd_same, ?_, (by show 1 ≤ 900; decide), q dx nd ne⟩⟩
    rw [upd_ne ne, upd_same]
/-- the heap behind a refusal that was made -/
theorem xd_same {H : Hp} {a dx : Addr} {o1 o2 o3 o4 o5 : HO} (na : H a = none) (nd : H dx = none) : Same H (upd (del (upd (upd (upd (upd H a o1) dx o2) a o3) dx o4) a) dx o5) := fun b o e => by
  have n1 := ne_of_none e na
  have n2 := ne_of_none e nd
  rw [upd_ne n2, del_ne n1, upd_ne n2, upd_ne n1, upd_ne n2, upd_ne n1]
  exact e
/-- refused with the class at C, field f holding v -/
def Refd (C : Addr) (f wd : Str) (v : V) (H : Hp) (E : XK) : Prop := ∀ H' d, Same H H' → H d = none → H' d = some (.xd (exF f wd v)) → E (.ref C) (some d) H'
theorem Refd.same {C : Addr} {f wd : Str} {v : V} {H H1 : Hp} {E : XK} (h : Refd C f wd v H E) (s : Same H H1) : Refd C f wd v H1 E := fun H' d s' n e => h H' d (s.trans s') (s.free n) e
/-- raise C(v): its reading from what is wanted -/
theorem mk_refd {C : Addr} {f wd : Str} {v : V} {H : Hp} {E : XK} (h : Refd C f wd v H E) : [v].length ≤ 1000 ∧ ∀ a, H a = none → spInit2 C f wd (.ref a :: ([v] ++ [])) (upd H a (exo a C none))
    (fun u H2 => u = .non ∧ ∃ (d : Addr) (fs : List (Str × V)), H2 a = some (exo a C (some d)) ∧ H2 d = some (exd d fs) ∧ H d = none ∧ E (.ref C) (some d) (upd (del H2 a) d (.xd fs))) (fun _ _ _ => False) := by
  refine ⟨(by show 1 ≤ 1000; decide), fun a na => ⟨a, v, rfl, upd_same, fun dx nd ne => ⟨rfl, dx, exF f wd v, ?_, upd_same, ?_, ?_⟩⟩⟩
  · rw [upd_ne (Ne.symm ne), upd_same]
  · rw [upd_ne ne] at nd
    exact nd
  · rw [upd_ne ne] at nd
    exact h _ dx (xd_same na nd) nd upd_same
/-! ### is_hold -/
theorem scIH : FnScope ["hold", "goods", "amount"] ["hold", "goods"] (defScope sIsHold) := ⟨rfl, rfl, rfl, by decide +kernel, rfl, by decide +kernel, by decide +kernel⟩
theorem scLk : FnScope ["lot", "kind", "hold"] ["lot"] (defScope sLook) := ⟨rfl, rfl, rfl, by decide +kernel, rfl, by decide +kernel, by decide +kernel⟩
/-- 0 <= x <= 6 as a value -/
theorem chainV {i j L : Int} {H : Hp} {σ : L2.St} {Q : VK} (h : Q (.bl (decide (i ≤ L ∧ L ≤ j))) H) :
    if decide (i ≤ L) = true then tC (.int j) σ H (fun v H4 => rI0 (fun i j => V.bl (decide (i ≤ j))) (.int L) v H4 Q) else Q (.bl false) H := by
  by_cases c : i ≤ L
  · rw [if_pos (decide_eq_true c)]
    refine ⟨L, j, rfl, rfl, ?_⟩
    show Q (.bl (decide (L ≤ j))) H
    rw [show decide (L ≤ j) = decide (i ≤ L ∧ L ≤ j) by simp [c]]
    exact h
  · rw [if_neg (fun z => c (of_decide_eq_true z))]
    rw [show false = decide (i ≤ L ∧ L ≤ j) by simp [c]]
    exact h
def spIsHold : Sp := fun vs H Q _ => ∃ (a : Addr) (g : Nat) (r : List Int), vs = [.ref a, .int (g : Int)] ∧ H a = some (.tup (r.map V.int)) ∧ r.length ≤ 1000 ∧ 1 ≤ g ∧ ∀ H', Same H H' → Q (.bl (okRow g r)) H'
structure Consts (mg : Str → Option Value) : Prop where
  hold : ∃ t, mg "MOST_HOLD" = some (.int 6 t)
  kinds : ∃ t, mg "MOST_KINDS" = some (.int 5 t)
  goods : ∃ t, mg "MOST_GOODS" = some (.int 3 t)
theorem ok_isHold {f : Addr} {fd : FuncData} {k : Nat} (F : Fun K "is_hold" "is_hold" sIsHold f fd) (B : Bl mg) (M : Consts mg) : FnOk P w K mg base CX0 (k + 1) f fd ["hold", "goods"] spIsHold := by
  obtain ⟨t6, m6⟩ := M.hold
  refine F.ok scIH (fun vs H Q E h => ?_) (fun cdv A outer s H vs Q E hr h => ?_)
  · obtain ⟨a, g, r, rfl, _⟩ := h
    rfl
  · obtain ⟨a, g, r, rfl, ha, hz, g1, q⟩ := h
    refine ⟨_, pss_one (ps_ret (pe_and (pe_cmpR op_eq (pe_callB call_len_seq (by rfl) B.len PySem.boot_len (pa_cons (pv 0) pa_nil)) (pv 1) (nomark _))
      (pe_and (pe_callB (cr_all rfl) (by rfl) B.all (by decide +kernel) (pa_cons (pe_lc (own := [("amount", 2)]) (g := gName 2) (tt := tYes) rfl scIH.nd (pi_tup (pv 0))
          (blkOk_by (own := [("amount", 2)]) (N := ["hold", "goods", "amount"]) (sc := defScope sIsHold) (by decide +kernel)) (fun _ _ _ _ _ => pg_name (i := 2) scIH.nd rfl (Or.inl rfl)) (fun _ _ _ _ _ => pts_nil)
          (fun _ _ _ _ _ => pe_chain op_le op_le pe_int (pv 2) (pe_glob (v := .int 6) rfl m6 ⟨_, rfl⟩))) pa_nil))
        (pe_one (pe_cmpR op_gt (pe_callB (cr_maxT rfl hr.units) (by rfl) B.max (by decide +kernel) (pa_cons (pv 0) pa_nil)) pe_int (nomark _)))))), ?_⟩
    have sA : SqT K H a (r.map V.int) := SqT.of ha
    refine ⟨.ref a, rfl, a, _, rfl, .inr sA, .int (g : Int), rfl, rfl, _, rfl, ?_⟩
    rw [List.length_map]
    refine ite2 (fun c1 => ?_) (fun c1 => ?_)
    · have hl : r.length = g := by
        have := V.int.inj (of_decide_eq_true c1)
        omega
      refine ⟨.ref a, rfl, a, rfl, ⟨_, sA⟩, fun D nD => ?_⟩
      refine lc_tup (K := K) (a := a) (xs := r.map V.int) (fun i H' => Same H H' ∧ H' D = some (.lst (((r.take i).map fun n => decide (0 ≤ n ∧ n ≤ 6)).map V.bl))) ⟨same_new nD, upd_same⟩ (fun i H' _ ⟨sm, _⟩ => SqT.of (sm _ _ ha)) (fun i x H' hx ⟨sm, hD⟩ => ?_) (fun H' ⟨sm, hD⟩ => ?_)
      · obtain ⟨n, hn, rfl⟩ : ∃ n, r[i]? = some n ∧ x = V.int n := by
          rw [List.getElem?_map] at hx
          cases e : r[i]? with
          | none => rw [e] at hx; cases hx
          | some n => rw [e] at hx; exact ⟨n, rfl, (Option.some.inj hx).symm⟩
        refine ⟨rfl, yes (iteT ?_)⟩
        refine ⟨.int n, rfl, 0, n, rfl, rfl, _, rfl, chainV ?_⟩
        refine ⟨_, hD, ?_, same_late sm nD, ?_⟩
        · rw [List.length_map, List.length_map]
          exact small1000 (Nat.le_trans (List.length_take_le' _ _) hz)
        · rw [upd_same, List.take_add_one, hn, List.map_append, List.map_append]
          rfl
      · rw [List.length_map, List.take_length] at hD
        refine ⟨D, _, rfl, SqL.of hD, _, rfl, ?_⟩
        have eall : ((r.map fun n => decide (0 ≤ n ∧ n ≤ 6)).all id) = r.all (fun n => decide (0 ≤ n ∧ n ≤ 6)) := by
          rw [List.all_map]
          rfl
        rw [eall]
        refine ite2 (fun c2 => ?_) (fun c2 => ?_)
        · refine ⟨.ref a, rfl, a, r, rfl, SqT.of (sm _ _ ha), by omega, fun mx hmx hmax => ?_⟩
          refine ⟨mx, 0, rfl, rfl, ?_⟩
          have e : decide ((0 : Int) < mx) = okRow g r := by
            unfold okRow
            rw [decide_eq_true hl, c2, Bool.true_and, Bool.true_and]
            by_cases z : 0 < mx
            · rw [decide_eq_true z, any_pos.mpr ⟨mx, hmx, z⟩]
            · rw [decide_eq_false z]
              cases y : r.any (fun n => decide (0 < n)) with
              | false => rfl
              | true =>
                obtain ⟨n, hn, h0⟩ := any_pos.mp y
                have := hmax n hn
                omega
          have q1 := q H' sm
          rw [← e] at q1
          exact q1
        · have e : okRow g r = false := by
            unfold okRow
            rw [Bool.eq_false_iff.mpr c2, Bool.false_and, Bool.and_false]
          have q1 := q H' sm
          rw [e] at q1
          exact q1
    · have e : okRow g r = false := by
        unfold okRow
        rw [decide_eq_false (fun z => c1 (decide_eq_true (by rw [z]))), Bool.false_and]
      have q1 := q H (Same.refl _)
      rw [e] at q1
      exact q1
/-! ### look_lot -/
def spLook (C : Addr) : Sp := fun vs H Q E => ∃ (p : Addr) (ll : List (List Int)), vs = [.ref p] ∧ LotAt H p ll ∧ ll.length ≤ 200 ∧ (∀ r ∈ ll, r.length ≤ 200) ∧
  (flaw ll = none → ∀ H', Same H H' → Q .non H') ∧ ∀ k, flaw ll = some k → Refd C "kind" "bad lot" (.int k) H E
/-- BadLot as it stands: its class, its __init__ -/
structure BadTxt (P : Program) (w : World) (K : PySem.W.Frag) (mg : Str → Option Value) (base : Heap) (x : Str) (C : Addr) (f wd : Str) : Prop where
  c2 : Cls2 K C f
  gC : mg x = some (.ref C)
  ini : ∃ (fI : Addr) (fd : FuncData), PySem.W.findIn K (.ref C) "__init__" = some (some (.ref fI)) ∧ PySem.W.typeIn K (.ref fI) = some (.type "function") ∧
    FnOk P w K mg base CX0 1 fI fd ["self", f] (spInit2 C f wd) ∧ Binds K fd ["self", f] []
theorem ok_look {f : Addr} {fd : FuncData} {C : Addr} (F : Fun K "look_lot" "look_lot" sLook f fd) (B : Bl mg) (M : Consts mg) (T : BadTxt P w K mg base "BadLot" C "kind" "bad lot") (CH : Cal P w K mg base CX0 1 "is_hold" ["hold", "goods"] spIsHold) :
    FnOk P w K mg base (L2.CX P w) 3 f fd ["lot"] (spLook C) := by
  obtain ⟨t5, m5⟩ := M.kinds
  obtain ⟨t3, m3⟩ := M.goods
  obtain ⟨fH, fdH, GH, gH, kH, bH⟩ := CH.ex
  obtain ⟨fI, fdI, iC, tI, GI, bI⟩ := T.ini
  refine F.okX scLk (fun vs H Q E h => ?_) (fun cdv A outer s H vs Q E hr h => ?_)
  · obtain ⟨p, ll, rfl, _⟩ := h
    rfl
  · obtain ⟨p, ll, rfl, ⟨as, hp, hR⟩, hz, hz2, q0, q1⟩ := h
    have hlen := hR.len
    refine ⟨_, pss_cons (ps_if (PW.pt (pw_or (pt_not (pt_chain op_le op_le pe_int (pe_callB call_len_seq (by rfl) B.len PySem.boot_len (pa_cons (pv 0) pa_nil)) (pe_glob (v := .int 5) rfl m5 ⟨_, rfl⟩)))
          (pw_or1 (pt_not (pt_chain op_le op_le pe_int (pe_callB call_len_seq (by rfl) B.len PySem.boot_len (pa_cons (pe_ix ix_tup (pv 0) pe_int (fun _ _ => rfl)) pa_nil)) (pe_glob (v := .int 3) rfl m3 ⟨_, rfl⟩))))))
          (pss_one (ps_raise rfl (takes_of rfl rfl rfl rfl) (pmk_oex T.c2.ox iC tI GI hr bI .nil pass0 (by rfl) T.gC (pa_cons (pe_un un_neg pe_int) pa_nil)))) pss_nil)
      (pss_one (ps_for (passes_of rfl) rfl (pi_enumT (by rfl) B.enumerate (pa_cons (pv 0) pa_nil)) (pg_tup rfl (pgs_cons (pg_name (i := 1) scLk.nd rfl (.inl rfl)) (pgs_cons (pg_name (i := 2) scLk.nd rfl (.inl rfl)) pgs_nil)))
        (pss_one (ps_if (pt_not (pt_val (pe_call GH (hr.mono (by decide)) (by rfl) gH kH bH .nil pass0 (pa_cons (pv 2) (pa_cons (pe_callB call_len_seq (by rfl) B.len PySem.boot_len (pa_cons (pe_ix ix_tup (pv 0) pe_int (fun _ _ => rfl)) pa_nil)) pa_nil)))))
          (pss_one (ps_raise rfl (takes_of rfl rfl rfl rfl) (pmk_oex T.c2.ox iC tI GI hr bI .nil pass0 (by rfl) T.gC (pa_cons (pv 1) pa_nil)))) pss_nil)))), ?_⟩
    have sP : SqT K H p (as.map V.ref) := SqT.of hp
    refine ⟨.ref p, rfl, p, _, rfl, .inr sP, 1, _, rfl, rfl, _, rfl, chainI ?_⟩
    rw [List.length_map, hlen]
    refine ite2 (fun c1 => iteT ?_) (fun c1 => ?_)
    · have e : flaw ll = some (-1) := by
        unfold flaw
        rw [if_neg (fun z => ?_)]
        simp at c1
        omega
      exact ⟨1, rfl, mk_refd (q1 _ e)⟩
    · have c1' : 1 ≤ ll.length ∧ ll.length ≤ 5 := by
        simp at c1
        omega
      obtain ⟨a0, ha0, hh0, hw⟩ := hR.head c1'.1
      have at0 : atI (as.map V.ref) 0 = some (.ref a0) := atI_nat (j := 0) (by rw [List.getElem?_map, ha0]; rfl)
      refine ⟨.ref p, rfl, p, _, 0, .ref a0, rfl, rfl, sP, at0, a0, _, rfl, .inr (SqT.of hh0), 1, _, rfl, rfl, _, rfl, chainI ?_⟩
      rw [List.length_map, hw]
      refine ite2 (fun c2 => ?_) (fun c2 => ?_)
      · have e : flaw ll = some (-1) := by
          unfold flaw
          rw [if_neg (fun z => ?_)]
          simp at c2
          omega
        exact ⟨1, rfl, mk_refd (q1 _ e)⟩
      · have c2' : 1 ≤ width ll ∧ width ll ≤ 3 := by
          simp at c2
          omega
        have eF : flaw ll = flawIn (width ll) ll := by
          unfold flaw
          rw [if_pos ⟨c1'.1, c1'.2, c2'.1, c2'.2⟩]
        refine ⟨.ref p, rfl, p, _, rfl, sP, ?_⟩
        refine ⟨fun i m σ H' => i + m = as.length ∧ Same H H' ∧ (∃ y1 y2, σ = [some (.ref p), y1, y2]) ∧ ∀ (j : Nat) (r' : List Int), j < i → ll[j]? = some r' → okRow (width ll) r' = true,
          ⟨as.length, by omega, Same.refl _, ⟨none, none, rfl⟩, fun j r' hj => absurd hj (Nat.not_lt_zero j)⟩, fun i m σ H' hW => ?_⟩
        obtain ⟨em, sm, ⟨y1, y2, rfl⟩, ih⟩ := hW
        have sP' : SqT K H' p (as.map V.ref) := SqT.of (sm _ _ hp)
        by_cases hi : i < as.length
        · have hai : as[i]? = some as[i] := List.getElem?_eq_getElem hi
          obtain ⟨r, hr1, hr2⟩ := hR.at hai
          have g1 : (as.map V.ref)[i]? = some (.ref as[i]) := by rw [List.getElem?_map, hai]; rfl
          refine .inr ⟨⟨_, _, sP', g1⟩, fun σ' H2 => Same H H2 ∧ (∃ y1 y2, σ' = [some (.ref p), y1, y2]) ∧ okRow (width ll) r = true, fun σ' H2 hN => ?_, fun x H2 hy => ?_⟩
          · obtain ⟨s2, hσ, hk⟩ := hN
            refine ⟨m - 1, by omega, by omega, s2, hσ, fun j r' hj hjr => ?_⟩
            by_cases hji : j < i
            · exact ih j r' hji hjr
            · have e : j = i := by omega
              subst e
              rw [hr1] at hjr
              cases hjr
              exact hk
          · obtain ⟨T2, x2, rfl, nT, rfl, f2⟩ := hy
            have ex2 : x2 = .ref as[i] := Option.some.inj ((f2 _ sP').symm.trans g1)
            subst ex2
            have s3 : Same H (upd H' T2 (.tup [.int (i : Nat), .ref as[i]])) := sm.trans (same_new nT)
            refine ⟨T2, _, rfl, SqT.of upd_same, rfl, _, _, rfl, _, _, rfl, rfl, ?_⟩
            refine ⟨.ref as[i], rfl, .ref p, rfl, p, _, 0, .ref a0, rfl, rfl, SqT.of (s3 _ _ hp), at0, a0, _, rfl, .inr (SqT.of (s3 _ _ hh0)), as[i], width ll, r, ?_, s3 _ _ hr2, Nat.le_trans (hz2 r (List.mem_of_getElem? hr1)) (by decide), c2'.1, fun H4 s4 => ⟨_, rfl, ?_⟩⟩
            · rw [List.length_map, hw]
              rfl
            · refine ite2 (fun d1 => ?_) (fun d1 => ?_)
              · have hb : okRow (width ll) r = false := by
                  cases e : okRow (width ll) r with
                  | false => rfl
                  | true => rw [e] at d1; cases d1
                refine ⟨_, rfl, mk_refd ?_⟩
                exact (q1 _ (eF.trans (flawIn_at hr1 hb ih))).same (s3.trans s4)
              · refine ⟨s3.trans s4, ⟨_, _, rfl⟩, ?_⟩
                cases e : okRow (width ll) r with
                | true => rfl
                | false => rw [e] at d1; exact absurd rfl d1
        · refine .inl ⟨⟨_, sP', ?_⟩, ?_⟩
          · rw [List.length_map]
            omega
          · exact q0 (eF.trans (flawIn_none fun j r' hj => ih j r' (by omega))) H' sm
theorem flaw_ok {ll : List (List Int)} (h : flaw ll = none) : 1 ≤ ll.length ∧ ll.length ≤ 5 ∧ 1 ≤ width ll ∧ width ll ≤ 3 := by
  unfold flaw at h
  by_cases c : 1 ≤ ll.length ∧ ll.length ≤ 5 ∧ 1 ≤ width ll ∧ width ll ≤ 3
  · exact c
  · rw [if_neg c] at h
    cases h
end
end HL

namespace HL
open PySem PySem.Spec PyProof.Rows L2
open C8 (pss_cut)
/-! ### tuples cut and joined -/
theorem sz1000 {n : Nat} (h : n ≤ 1000) : n ≤ sizeLine := Nat.le_of_lt (small1000 h)
theorem cat_read {K : PySem.W.Frag} {H : Hp} {a b : Addr} {xs ys : List V} {Q : VK} (ha : H a = some (.tup xs)) (hb : H b = some (.tup ys)) (hz : xs.length + ys.length ≤ 1000)
    (q : ∀ p H', Same H H' → H' p = some (.tup (xs ++ ys)) → Q (.ref p) H') : rCatA K (.ref a) (.ref b) H Q := by
  refine ⟨a, b, xs, ys, rfl, rfl, SqT.of ha, SqT.of hb, sz1000 hz, fun e => ?_, fun _ e => ?_, fun _ _ p np => q p _ (same_new np) upd_same⟩
  · subst e
    exact q b H (Same.refl _) hb
  · subst e
    exact q a H (Same.refl _) (by rw [List.append_nil]; exact ha)
theorem slice_read {K : PySem.W.Frag} {H : Hp} {a : Addr} {xs : List V} {lo hi : Option Int} {Q : VK} (ha : H a = some (.tup xs)) (q : ∀ p H', Same H H' → H' p = some (.tup (cutV xs lo hi)) → Q (.ref p) H') : rSlA K (.ref a) lo hi H Q := by
  refine ⟨a, xs, rfl, SqT.of ha, fun e => ?_, fun _ p np => q p _ (same_new np) upd_same⟩
  refine q a H (Same.refl _) ?_
  unfold cutV
  rw [e.1, e.2, List.drop_zero, Nat.sub_zero, List.take_length]
  exact ha
theorem cut_ex (L : Nat) (lo hi : Option Int) : ∃ n m : Nat, ∀ {α : Type} (f : α → V) (l : List α), l.length = L → cutV (l.map f) lo hi = ((l.drop n).take m).map f :=
  ⟨HT.sIx L 0 lo, HT.sIx L L hi - HT.sIx L 0 lo, fun f l h => by
    unfold cutV
    rw [List.length_map, h, List.map_take, List.map_drop]⟩
/-- a tuple of ints, a tuple of rows -/
def IntsAt (H : Hp) (p : Addr) (ns : List Int) : Prop := H p = some (.tup (ns.map V.int))
def RowsAt (H : Hp) (p : Addr) (as : List Addr) (ll : List (List Int)) : Prop := H p = some (.tup (as.map V.ref)) ∧ Rows H as ll
theorem IntsAt.same {H H' : Hp} {p : Addr} {ns : List Int} (h : IntsAt H p ns) (s : Same H H') : IntsAt H' p ns := s _ _ h
theorem RowsAt.same {H H' : Hp} {p : Addr} {as : List Addr} {ll : List (List Int)} (h : RowsAt H p as ll) (s : Same H H') : RowsAt H' p as ll := ⟨s _ _ h.1, h.2.same s⟩
theorem RowsAt.kp {H H' : Hp} {f c p : Addr} {as : List Addr} {ll : List (List Int)} (h : RowsAt H p as ll) (F : FeedAt c H f) (k : Kp f H H') : RowsAt H' p as ll := ⟨k _ _ (F.tup h.1) h.1, h.2.kp F k⟩
theorem RowsAt.lot {H : Hp} {p : Addr} {as : List Addr} {ll : List (List Int)} (h : RowsAt H p as ll) : LotAt H p ll := ⟨as, h.1, h.2⟩
theorem IntsAt.kp {H H' : Hp} {f c p : Addr} {ns : List Int} (h : IntsAt H p ns) (F : FeedAt c H f) (k : Kp f H H') : IntsAt H' p ns := k _ _ (F.tup h) h
theorem cat_ints {K : PySem.W.Frag} {H : Hp} {a b : Addr} {xs ys : List Int} {Q : VK} (ha : IntsAt H a xs) (hb : IntsAt H b ys) (hz : xs.length + ys.length ≤ 1000)
    (q : ∀ p H', Same H H' → IntsAt H' p (xs ++ ys) → Q (.ref p) H') : rCatA K (.ref a) (.ref b) H Q :=
  cat_read ha hb (by rw [List.length_map, List.length_map]; exact hz) fun p H' s h => q p H' s (by unfold IntsAt; rw [List.map_append]; exact h)
theorem cat_rows {K : PySem.W.Frag} {H : Hp} {a b : Addr} {as bs : List Addr} {ll mm : List (List Int)} {Q : VK} (ha : RowsAt H a as ll) (hb : RowsAt H b bs mm) (hz : ll.length + mm.length ≤ 1000)
    (q : ∀ p H', Same H H' → RowsAt H' p (as ++ bs) (ll ++ mm) → Q (.ref p) H') : rCatA K (.ref a) (.ref b) H Q :=
  cat_read ha.1 hb.1 (by rw [List.length_map, List.length_map, ha.2.len, hb.2.len]; exact hz) fun p H' s h => q p H' s ⟨by rw [List.map_append]; exact h, (ha.2.same s).app (hb.2.same s)⟩
theorem slice_ints {K : PySem.W.Frag} {H : Hp} {a : Addr} {xs : List Int} {lo hi : Option Int} {Q : VK} (ha : IntsAt H a xs) (q : ∀ p H' n m, Same H H' → IntsAt H' p ((xs.drop n).take m) → Q (.ref p) H') : rSlA K (.ref a) lo hi H Q := by
  obtain ⟨n, m, e⟩ := cut_ex xs.length lo hi
  exact slice_read ha fun p H' s h => q p H' n m s (by unfold IntsAt; rw [← e V.int xs rfl]; exact h)
theorem slice_rows {K : PySem.W.Frag} {H : Hp} {a : Addr} {as : List Addr} {ll : List (List Int)} {lo hi : Option Int} {Q : VK} (ha : RowsAt H a as ll)
    (q : ∀ p H' n m, Same H H' → RowsAt H' p ((as.drop n).take m) ((ll.drop n).take m) → Q (.ref p) H') : rSlA K (.ref a) lo hi H Q := by
  obtain ⟨n, m, e⟩ := cut_ex as.length lo hi
  exact slice_read ha.1 fun p H' s h => q p H' n m s ⟨by rw [← e V.ref as rfl]; exact h, ((ha.2.same s).drop n).take m⟩
theorem len_cut {α : Type} (l : List α) (n m : Nat) : ((l.drop n).take m).length ≤ l.length := by
  rw [List.length_take, List.length_drop]
  omega
theorem mem_cut {α : Type} {l : List α} {n m : Nat} {x : α} (h : x ∈ (l.drop n).take m) : x ∈ l := List.mem_of_mem_drop (List.mem_of_mem_take h)
theorem one_row {H : Hp} {t r : Addr} {row : List Int} (h : IntsAt H r row) (nt : H t = none) : RowsAt (upd H t (.tup [.ref r])) t [r] [row] := ⟨upd_same, ⟨(same_new nt) _ _ h, True.intro⟩⟩
theorem sz_1 (v : V) : [v].length ≤ sizeLine := by
  show 1 ≤ sizeLine
  decide
theorem noPart {σ : L2.St} {H : Hp} {Q : Option Int → Hp → Prop} (h : Q none H) : tNoPart σ H Q := h
end HL

set_option pp.maxSteps 3000
namespace HL
open PySem PySem.Spec PyProof.Rows L2
open C8 (pss_cut)
open SX (S S_len)
open SX (S S_len)
abbrev sTextInit : Stmt := inClass (topS 3) 0
theorem scBT : FnScope ["self", "at"] ["self", "at"] (defScope sTextInit) := ⟨rfl, rfl, rfl, by decide +kernel, rfl, by decide +kernel, by decide +kernel⟩
section
variable {P : Program} {w : World} {K : PySem.W.Frag} {mg : Str → Option Value} {base : Heap}
theorem ok_textInit {f : Addr} {fd : FuncData} {k : Nat} {C : Addr} (F : Fun K "__init__" "BadText.__init__" sTextInit f fd) (T : Cls2 K C "at") : FnOk P w K mg base CX0 (k + 1) f fd ["self", "at"] (spInit2 C "at" "bad text") := by
  refine F.ok scBT (fun vs H Q E h => ?_) (fun cdv A outer s H vs Q E hr h => ?_)
  · obtain ⟨a, v, rfl, _⟩ := h
    rfl
  · obtain ⟨a, v, rfl, ha, q⟩ := h
    refine ⟨_, pss_cons (ps_ost (pv 0) pe_str) (pss_one (ps_ost (pv 0) (pv 1))), ?_⟩
    refine ⟨.ref a, rfl, a, C, rfl, T.ox, T.noW, .inl ⟨ha, fun dx nd ne => ?_⟩⟩
    refine ⟨v, rfl, .ref a, rfl, a, C, rfl, T.ox, T.noF, .inr ⟨dx, _, upd_same, ?_, (by show 1 ≤ 900; decide), q dx nd ne⟩⟩
    rw [upd_ne ne, upd_same]
end
theorem nilA {σ : L2.St} {H : Hp} {Q : List V → Hp → Prop} (h : Q [] H) : tNil σ H Q := h
theorem scIN : FnScope ["word", "figures", "figure"] ["word"] (defScope sIsNum) := ⟨rfl, rfl, rfl, by decide +kernel, rfl, by decide +kernel, by decide +kernel⟩
theorem scRT : FnScope ["row", "number"] ["row"] (defScope sRowText) := ⟨rfl, rfl, rfl, by decide +kernel, rfl, by decide +kernel, by decide +kernel⟩
theorem scRR : FnScope ["text", "words", "word"] ["text"] (defScope sReadRow) := ⟨rfl, rfl, rfl, by decide +kernel, rfl, by decide +kernel, by decide +kernel⟩
theorem st_dash : (Str.ofString "-" : Str) = S [45] := TL.ext_tl (by rw [TL.tl_ofString]; rfl)
theorem st_comma : (Str.ofString "," : Str) = S [44] := TL.ext_tl (by rw [TL.tl_ofString]; rfl)
theorem st_zero : (Str.ofString "0" : Str) = S [48] := TL.ext_tl (by rw [TL.tl_ofString]; rfl)
theorem st_ten : (Str.ofString "0123456789" : Str) = S ten := TL.ext_tl (by rw [TL.tl_ofString]; rfl)
theorem rp_dash (z : List Nat) : Txt.removeprefix (S z) (Str.ofString "-") = S (figs z) := by rw [st_dash]; exact rp_eq z
section
variable {P : Program} {w : World} {K : PySem.W.Frag} {mg : Str → Option Value} {base : Heap}
structure ConstsT (mg : Str → Option Value) : Prop where
  figures : ∃ t, mg "FIGURES" = some (.str "0123456789" t)
  most : ∃ t, mg "MOST_FIGURES" = some (.int 30 t)
def spIsNum : Sp := fun vs H Q _ => ∃ z : List Nat, vs = [.str (S z)] ∧ z.length ≤ 1000 ∧ ∀ H', Same H H' → Q (.bl (isNum z)) H'
theorem ok_isNum {f : Addr} {fd : FuncData} {k : Nat} (F : Fun K "is_number" "is_number" sIsNum f fd) (B : Bl mg) (M : ConstsT mg) : FnOk P w K mg base CX0 (k + 1) f fd ["word"] spIsNum := by
  obtain ⟨tF, mF⟩ := M.figures
  obtain ⟨t3, m3⟩ := M.most
  refine F.ok scIN (fun vs H Q E h => ?_) (fun cdv A outer s H vs Q E hr h => ?_)
  · obtain ⟨z, rfl, _⟩ := h
    rfl
  · obtain ⟨z, rfl, hz, q⟩ := h
    refine ⟨_, pss_cons (ps_set (i := 1) scIN.nd rfl (.inl rfl) (pe_m1 PySem.F.slot_str_removeprefix PySem.F.type_str_removeprefix mt_removeprefix (pv 0) pe_str))
      (pss_cons (ps_if (pt_not (pt_chain op_le op_le pe_int (pe_callB call_len_str (by rfl) B.len PySem.boot_len (pa_cons (pv 1) pa_nil)) (pe_glob (v := .int 30) rfl m3 ⟨_, rfl⟩))) (pss_one (ps_ret pe_bl)) pss_nil)
      (pss_cons (ps_if (pt_not (pt_val (pe_callB (cr_all rfl) (by rfl) B.all (by decide +kernel) (pa_cons (pe_lc (own := [("figure", 2)]) (g := gName 2) (tt := tYes) rfl scIN.nd (pi_str (pv 1))
          (blkOk_by (own := [("figure", 2)]) (N := ["word", "figures", "figure"]) (sc := defScope sIsNum) (by decide +kernel)) (fun _ _ _ _ _ => pg_name (i := 2) scIN.nd rfl (Or.inl rfl)) (fun _ _ _ _ _ => pts_nil)
          (fun _ _ _ _ _ => pe_cmpR op_in_sign (pv 2) (pe_glob (v := .str "0123456789") rfl mF ⟨_, rfl⟩) (by rfl))) pa_nil)))) (pss_one (ps_ret pe_bl)) pss_nil)
      (pss_one (ps_ret (pe_or (pe_cmpR op_ne (pe_ix ix_str (pv 1) pe_int (fun _ _ => rfl)) pe_str (nomark _)) (pe_one (pe_cmpR op_eq (pv 0) pe_str (nomark _)))))))), ?_⟩
    have lf : (S (figs z)).length ≤ sizeLine := by
      rw [S_len]
      exact sz1000 (Nat.le_trans (figs_le z) hz)
    refine ⟨.str (S z), rfl, ⟨_, rfl⟩, S z, _, rfl, rfl, by rw [S_len]; exact sz1000 hz, ?_⟩
    rw [rp_dash]
    refine ⟨.str (S (figs z)), rfl, S (figs z), rfl, lf, 1, _, rfl, rfl, _, rfl, chainI ?_⟩
    rw [S_len]
    refine ite2 (fun c1 => ?_) (fun c1 => ?_)
    · have e : isNum z = false := by
        unfold isNum
        have : decide (1 ≤ (figs z).length ∧ (figs z).length ≤ 30) = false := decide_eq_false (fun y => by simp at c1; omega)
        rw [this]
        rfl
      have q1 := q H (Same.refl _)
      rw [e] at q1
      exact q1
    · have c1' : 1 ≤ (figs z).length ∧ (figs z).length ≤ 30 := by
        simp at c1
        omega
      have ed : decide (1 ≤ (figs z).length ∧ (figs z).length ≤ 30) = true := decide_eq_true c1'
      refine ⟨.str (S (figs z)), rfl, S (figs z), rfl, fun D nD => ?_⟩
      refine lc_it walk_str (fun i H' => Same H H' ∧ H' D = some (.lst ((((figs z).take i).map dig).map V.bl))) ⟨same_new nD, upd_same⟩ (fun _ _ _ _ => True.intro) (fun i x H' H2 hi ⟨sm, hD⟩ ⟨eH, c, hc, ex⟩ => ?_) (fun H' ⟨sm, hD⟩ => ?_)
      · subst eH ex
        have hc' : (figs z)[i]? = some c := by simpa using hc
        refine ⟨rfl, yes (iteT ?_)⟩
        refine ⟨_, rfl, c, _, rfl, rfl, _, hD, ?_, same_late sm nD, ?_⟩
        · rw [List.length_map, List.length_map]
          exact small1000 (Nat.le_trans (List.length_take_le' _ _) (Nat.le_trans (figs_le z) hz))
        · rw [upd_same, List.take_add_one, hc', List.map_append, List.map_append]
          rfl
      · have e0 : (S (figs z)).cps.size = (figs z).length := S_len (figs z)
        rw [e0, List.take_length] at hD
        refine ⟨D, _, rfl, SqL.of hD, _, rfl, ?_⟩
        have eall : (((figs z).map dig).all id) = (figs z).all dig := by
          rw [List.all_map]
          rfl
        rw [eall]
        refine ite2 (fun c2 => ?_) (fun c2 => ?_)
        · have e : isNum z = false := by
            unfold isNum
            cases y : (figs z).all dig with
            | false => rw [Bool.false_and, Bool.and_false]
            | true => rw [y] at c2; cases c2
          have q1 := q H' sm
          rw [e] at q1
          exact q1
        · have y : (figs z).all dig = true := by
            cases y : (figs z).all dig with
            | true => rfl
            | false => rw [y] at c2; exact absurd rfl c2
          obtain ⟨c, r, ef⟩ : ∃ c r, figs z = c :: r := by
            cases e : figs z with
            | nil => rw [e] at c1'; exact absurd c1'.1 (by decide)
            | cons c r => exact ⟨c, r, rfl⟩
          refine ⟨.str (S (figs z)), rfl, S (figs z), 0, c, rfl, rfl, lf, atI_nat (j := 0) (by show (figs z)[0]? = some c; rw [ef]; rfl), rfl, _, rfl, ?_⟩
          have e1 : decide (V.str (⟨#[c]⟩ : Str) = V.str (Str.ofString "0")) = hd0 (figs z) := by
            unfold hd0
            rw [ef, st_zero]
            by_cases h : c = 48
            · rw [h, decide_eq_true rfl]
              rfl
            · show _ = decide (some c = some 48)
              rw [decide_eq_false (fun e => h ?_), decide_eq_false (fun e => h (Option.some.inj e))]
              have e2 := SX.S_inj (a := [c]) (b := [48]) (V.str.inj e)
              exact (List.cons.inj e2).1
          have e3 : decide (V.str (S z) = V.str (Str.ofString "0")) = decide (z = [48]) := by
            rw [st_zero]
            by_cases h : z = [48]
            · rw [h, decide_eq_true rfl, decide_eq_true rfl]
            · rw [decide_eq_false h, decide_eq_false (fun e => h (SX.S_inj (V.str.inj e)))]
          have ei : isNum z = (!hd0 (figs z) || decide (z = [48])) := by
            unfold isNum
            rw [ed, y, Bool.true_and, Bool.true_and]
          have q1 := q H' sm
          rw [ei] at q1
          rw [e1]
          refine ite2 (fun c3 => ?_) (fun c3 => ?_)
          · rw [show (!hd0 (figs z)) = true from c3] at q1
            exact q1
          · rw [Bool.eq_false_iff.mpr c3] at q1
            refine ⟨.str (S z), rfl, rfl, ?_⟩
            rw [e3]
            exact q1
end
open SX (S S_len)
theorem scRTL : FnScope ["_law_row", "_law_number"] ["_law_row"] (defScope sRowTextL) := ⟨rfl, rfl, rfl, by decide +kernel, rfl, by decide +kernel, by decide +kernel⟩
theorem scNI : FnScope ["_law_word_here", "_law_figures", "_law_sign"] ["_law_word_here"] (defScope sNumIn) := ⟨rfl, rfl, rfl, by decide +kernel, rfl, by decide +kernel, by decide +kernel⟩
def SmallN (ns : List Int) : Prop := ∀ n ∈ ns, n.natAbs < 10 ^ 30
theorem log_small {n : Int} (h : n.natAbs < 10 ^ 30) : n.natAbs.log2 < 1920 := by
  by_cases z : n.natAbs = 0
  · rw [z]
    decide
  · refine (Nat.log2_lt z).mpr (Nat.lt_of_lt_of_le h ?_)
    exact Nat.le_trans (show 10 ^ 30 ≤ 2 ^ 100 by decide) (Nat.pow_le_pow_right (by decide) (by decide))
theorem sum_lens {ns : List Int} (h : SmallN ns) (hz : ns.length ≤ 100) : (((ns.map wr).map S).map (·.length)).sum + ((ns.map wr).map S).length * (Str.ofString ",").length ≤ 16777216 := by
  have e1 : (Str.ofString ",").length = 1 := by rw [st_comma, S_len]; rfl
  rw [e1, List.length_map, List.length_map]
  have key : ∀ ms : List Int, SmallN ms → (((ms.map wr).map S).map (·.length)).sum ≤ ms.length * 31 := by
    intro ms
    induction ms with
    | nil => intro _; exact Nat.le_refl _
    | cons m ms ih =>
      intro hm
      have h1 := wr_len (hm m List.mem_cons_self)
      have h2 := ih fun n hn => hm n (List.mem_cons_of_mem _ hn)
      rw [List.map_cons, List.map_cons, List.map_cons, List.sum_cons, List.length_cons, S_len, Nat.succ_mul]
      omega
  have := key ns h
  omega
section
variable {P : Program} {w : World} {K : PySem.W.Frag} {mg : Str → Option Value} {base : Heap}
def spRowText (K : PySem.W.Frag) : Sp := fun vs H Q _ => ∃ (p : Addr) (ns : List Int), vs = [.ref p] ∧ SqT K H p (ns.map V.int) ∧ ns.length ≤ 100 ∧ SmallN ns ∧ ∀ H', Same H H' → Q (.str (S (rowL ns))) H'
theorem sqT_same {K : PySem.W.Frag} {H H' : Hp} {a : Addr} {xs : List V} (h : SqT K H a xs) (s : Same H H') : SqT K H' a xs := by
  rcases h with (h | ⟨o, h⟩) | h
  · exact .inl (.inl (s _ _ h))
  · exact .inl (.inr ⟨o, s _ _ h⟩)
  · exact .inr h
theorem ok_rowText {f : Addr} {fd : FuncData} {k : Nat} (F : Fun K "row_text" "row_text" sRowText f fd) (B : Bl mg) : FnOk P w K mg base CX0 (k + 1) f fd ["row"] (spRowText K) := by
  refine F.ok scRT (fun vs H Q E h => ?_) (fun cdv A outer s H vs Q E hr h => ?_)
  · obtain ⟨p, ns, rfl, _⟩ := h
    rfl
  · obtain ⟨p, ns, rfl, hp, hz, hs, q⟩ := h
    refine ⟨_, pss_one (ps_ret (pe_join pe_str (pe_lc (own := [("number", 1)]) (g := gName 1) (tt := tYes) rfl scRT.nd (pi_tup (pv 0))
          (blkOk_by (own := [("number", 1)]) (N := ["row", "number"]) (sc := defScope sRowText) (by decide +kernel)) (fun _ _ _ _ _ => pg_name (i := 1) scRT.nd rfl (Or.inl rfl)) (fun _ _ _ _ _ => pts_nil)
          (fun _ _ _ _ _ => pe_callTy call_str_int (by rfl) B.str (by decide +kernel) (pa_cons (pv 1) pa_nil))))), ?_⟩
    refine ⟨⟨_, rfl⟩, .ref p, rfl, p, rfl, ⟨_, hp⟩, fun D nD => ?_⟩
    refine lc_tup (K := K) (a := p) (xs := ns.map V.int) (fun i H' => Same H H' ∧ H' D = some (.lst ((((ns.map wr).map S).take i).map V.str))) ⟨same_new nD, upd_same⟩ (fun i H' _ ⟨sm, _⟩ => sqT_same hp sm) (fun i x H' hx ⟨sm, hD⟩ => ?_) (fun H' ⟨sm, hD⟩ => ?_)
    · obtain ⟨n, hn, rfl⟩ : ∃ n, ns[i]? = some n ∧ x = V.int n := by
        rw [List.getElem?_map] at hx
        cases e : ns[i]? with
        | none => rw [e] at hx; cases hx
        | some n => rw [e] at hx; exact ⟨n, rfl, (Option.some.inj hx).symm⟩
      refine ⟨rfl, yes (iteT ?_)⟩
      refine ⟨_, rfl, n, rfl, log_small (hs n (List.mem_of_getElem? hn)), _, hD, ?_, same_late sm nD, ?_⟩
      · rw [List.length_map]
        exact small1000 (Nat.le_trans (List.length_take_le' _ _) (by rw [List.length_map, List.length_map]; omega))
      · have e : ((ns.map wr).map S)[i]? = some (S (wr n)) := by rw [List.getElem?_map, List.getElem?_map, hn]; rfl
        rw [upd_same, List.take_add_one, e, List.map_append, ← tl_wr]
        rfl
    · have e : ((ns.map wr).map S).take (ns.map V.int).length = (ns.map wr).map S := List.take_of_length_le (by rw [List.length_map, List.length_map, List.length_map]; omega)
      rw [e] at hD
      refine ⟨_, D, _, rfl, rfl, .inl (SqL.of hD), sum_lens hs hz, ?_⟩
      rw [show Txt.join (Str.ofString ",") ((ns.map wr).map S) = S (rowL ns) by rw [st_comma]; exact join_row ns]
      exact q H' sm
def spReadRow (C : Addr) : Sp := fun vs H Q E => ∃ z : List Nat, vs = [.str (S z)] ∧ z.length ≤ 900 ∧ ((wordsOf z).all isNum = true → ∀ H' p, Same H H' → IntsAt H' p ((wordsOf z).map valW) → Q (.ref p) H') ∧
  ((wordsOf z).all isNum = false → Refd C "at" "bad text" (.int 0) H E)
theorem str_at {ws : List (List Nat)} {i : Nat} {x : V} (h : ((ws.map S).map V.str)[i]? = some x) : ∃ z, ws[i]? = some z ∧ x = .str (S z) := by
  rw [List.getElem?_map, List.getElem?_map] at h
  cases e : ws[i]? with
  | none => rw [e] at h; cases h
  | some z => rw [e] at h; exact ⟨z, rfl, (Option.some.inj h).symm⟩
theorem sp_comma (z : List Nat) : Txt.split (S z) (Str.ofString ",") = (wordsOf z).map S := by rw [st_comma]; exact split_words z
theorem ok_readRow {f : Addr} {fd : FuncData} {C : Addr} (F : Fun K "read_row" "read_row" sReadRow f fd) (B : Bl mg) (T : BadTxt P w K mg base "BadText" C "at" "bad text") (CN : Cal P w K mg base CX0 1 "is_number" ["word"] spIsNum) :
    FnOk P w K mg base (L2.CX P w) 3 f fd ["text"] (spReadRow C) := by
  obtain ⟨fN, fdN, GN, gN, kN, bN⟩ := CN.ex
  obtain ⟨fI, fdI, iC, tI, GI, bI⟩ := T.ini
  refine F.okX scRR (fun vs H Q E h => ?_) (fun cdv A outer s H vs Q E hr h => ?_)
  · obtain ⟨z, rfl, _⟩ := h
    rfl
  · obtain ⟨z, rfl, hz, q1, q2⟩ := h
    refine ⟨_, pss_cons (ps_set (i := 1) scRR.nd rfl (.inl rfl) (pe_split (pv 0) pe_str))
      (pss_cons (ps_if (pt_not (pt_val (pe_callB (cr_all rfl) (by rfl) B.all (by decide +kernel) (pa_cons (pe_lc (own := [("word", 2)]) (g := gName 2) (tt := tYes) rfl scRR.nd (pi_list (pv 1))
          (blkOk_by (own := [("word", 2)]) (N := ["text", "words", "word"]) (sc := defScope sReadRow) (by decide +kernel)) (fun _ _ _ _ _ => pg_name (i := 2) scRR.nd rfl (Or.inl rfl)) (fun _ _ _ _ _ => pts_nil)
          (fun _ _ _ _ _ => pe_call GN (hr.mono (by decide)) (by rfl) gN kN bN .nil pass0 (pa_cons (pv 2) pa_nil))) pa_nil))))
        (pss_one (ps_raise rfl (takes_of rfl rfl rfl rfl) (pmk_oex T.c2.ox iC tI GI hr bI .nil pass0 (by rfl) T.gC (pa_cons pe_int pa_nil)))) pss_nil)
      (pss_one (ps_ret (pe_callTy call_tuple_of (by rfl) B.tuple (by decide +kernel) (pa_cons (pe_lc (own := [("word", 2)]) (g := gName 2) (tt := tYes) rfl scRR.nd (pi_list (pv 1))
          (blkOk_by (own := [("word", 2)]) (N := ["text", "words", "word"]) (sc := defScope sReadRow) (by decide +kernel)) (fun _ _ _ _ _ => pg_name (i := 2) scRR.nd rfl (Or.inl rfl)) (fun _ _ _ _ _ => pts_nil)
          (fun _ _ _ _ _ => pe_callTy call_int_str (by rfl) B.int (by decide +kernel) (pa_cons (pv 2) pa_nil))) pa_nil))))), ?_⟩
    obtain ⟨w1, w2⟩ := words_len z
    refine ⟨.str (S z), rfl, ⟨_, rfl⟩, S z, _, rfl, rfl, by decide +kernel, by rw [S_len]; exact sz1000 (by omega), fun p np => ?_⟩
    rw [sp_comma]
    have sp := same_new (o := .lst (((wordsOf z).map S).map V.str)) np
    refine ⟨.ref p, rfl, p, rfl, ⟨_, SqL.of upd_same⟩, fun D nD => ?_⟩
    have nD0 : H D = none := sp.free nD
    refine lc_list (K := K) (a := p) (xs := ((wordsOf z).map S).map V.str) (fun i H' => Same (upd H p (.lst (((wordsOf z).map S).map V.str))) H' ∧ H' D = some (.lst ((((wordsOf z).take i).map isNum).map V.bl))) ⟨same_new nD, upd_same⟩ (fun i H' _ ⟨sm, _⟩ => SqL.of (sm _ _ upd_same)) (fun i x H' hx ⟨sm, hD⟩ => ?_) (fun H' ⟨sm, hD⟩ => ?_)
    · obtain ⟨u, hu, rfl⟩ := str_at hx
      have hul := w2 u (List.mem_of_getElem? hu)
      refine ⟨rfl, yes (iteT ?_)⟩
      refine ⟨_, rfl, u, rfl, by omega, fun H2 s2 => ⟨_, s2 _ _ hD, ?_, same_late (sm.trans s2) nD, ?_⟩⟩
      · rw [List.length_map, List.length_map]
        exact small1000 (Nat.le_trans (List.length_take_le' _ _) (by omega))
      · rw [upd_same, List.take_add_one, hu, List.map_append, List.map_append]
        rfl
    · rw [List.length_map, List.length_map, List.take_length] at hD
      refine ⟨D, _, rfl, SqL.of hD, _, rfl, ?_⟩
      have eall : (((wordsOf z).map isNum).all id) = (wordsOf z).all isNum := by
        rw [List.all_map]
        rfl
      rw [eall]
      refine ite2 (fun c => ?_) (fun c => ?_)
      · have e : (wordsOf z).all isNum = false := by
          cases y : (wordsOf z).all isNum with
          | false => rfl
          | true => rw [y] at c; cases c
        exact mk_refd ((q2 e).same (sp.trans sm))
      · have e : (wordsOf z).all isNum = true := by
          cases y : (wordsOf z).all isNum with
          | true => rfl
          | false => rw [y] at c; exact absurd rfl c
        refine ⟨.ref p, rfl, p, rfl, ⟨_, SqL.of (sm _ _ upd_same)⟩, fun D2 nD2 => ?_⟩
        have s0 : Same H H' := sp.trans sm
        refine lc_list (K := K) (a := p) (xs := ((wordsOf z).map S).map V.str) (fun i H2 => Same H' H2 ∧ H2 D2 = some (.lst ((((wordsOf z).map valW).take i).map V.int))) ⟨same_new nD2, upd_same⟩ (fun i H2 _ ⟨s2, _⟩ => SqL.of (s2 _ _ (sm _ _ upd_same))) (fun i x H2 hx ⟨s2, hD2⟩ => ?_) (fun H2 ⟨s2, hD2⟩ => ?_)
        · obtain ⟨u, hu, rfl⟩ := str_at hx
          have hn := (List.all_eq_true.mp e) u (List.mem_of_getElem? hu)
          obtain ⟨i1, i2⟩ := int_word hn
          refine ⟨rfl, yes (iteT ?_)⟩
          refine ⟨_, rfl, _, _, rfl, i1, i2, _, hD2, ?_, same_late s2 nD2, ?_⟩
          · rw [List.length_map]
            exact small1000 (Nat.le_trans (List.length_take_le' _ _) (by rw [List.length_map]; omega))
          · have e : ((wordsOf z).map valW)[i]? = some (valW u) := by rw [List.getElem?_map, hu]; rfl
            rw [upd_same, List.take_add_one, e, List.map_append]
            rfl
        · rw [List.length_map, List.length_map] at hD2
          rw [List.take_of_length_le (by rw [List.length_map]; exact Nat.le_refl _)] at hD2
          exact ⟨D2, _, rfl, .inl ⟨SqL.of hD2, fun t nt => q1 e _ t (s0.trans (s2.trans (same_new nt))) upd_same⟩⟩
end
open SX (S S_len S_tl S_cat)
open LamX (CodeO Tabs TabS TabB ExtN tLam LamS lamS_by lamCx lamEnv codeO_ne)
theorem st_d0 : (Str.ofString "-0" : Str) = S [45, 48] := TL.ext_tl (by rw [TL.tl_ofString]; rfl)
theorem cut_head (z : List Nat) : cutS (S z) none (some 1) = S (z.take 1) := by
  refine TL.ext_tl ?_
  show (z.drop (HT.sIx (S z).length 0 none)).take (HT.sIx (S z).length (S z).length (some 1) - HT.sIx (S z).length 0 none) = z.take 1
  rw [HT.sIx_none, show (some (1 : Int)) = some ((1 : Nat) : Int) from rfl, HT.sIx_nat, List.drop_zero, Nat.sub_zero, S_len]
  cases z with
  | nil => rfl
  | cons x r =>
    rw [List.length_cons, Nat.min_eq_left (by omega)]
theorem cut_tail (z : List Nat) : cutS (S z) (some 1) none = S (z.drop 1) := by
  refine TL.ext_tl ?_
  show (z.drop (HT.sIx (S z).length 0 (some 1))).take (HT.sIx (S z).length (S z).length none - HT.sIx (S z).length 0 (some 1)) = z.drop 1
  rw [HT.sIx_none, show (some (1 : Int)) = some ((1 : Nat) : Int) from rfl, HT.sIx_nat, S_len]
  cases z with
  | nil => rfl
  | cons x r =>
    rw [List.length_cons, Nat.min_eq_left (by omega)]
    refine List.take_of_length_le ?_
    rw [List.length_drop, List.length_cons]
    omega
theorem figs_law (z : List Nat) : figs z = if z.take 1 = [45] then z.drop 1 else z := by
  cases z with
  | nil => rfl
  | cons x r =>
    by_cases h : x = 45
    · subst h
      rw [if_pos (show List.take 1 (45 :: r) = [45] from rfl)]
      rfl
    · rw [if_neg (show ¬ List.take 1 (x :: r) = [45] from fun e => h (List.cons.inj e).1), figs_ne (z := x :: r) (fun e => h (Option.some.inj e))]
theorem num_law {z : List Nat} (h1 : 1 ≤ (figs z).length ∧ (figs z).length ≤ 30) (h2 : (figs z).all dig = true) : isNum z = !((decide (1 < (figs z).length) && hd0 (figs z)) || decide (z = [45, 48])) := by
  have e : isNum z = (!hd0 (figs z) || decide (z = [48])) := by
    unfold isNum
    rw [decide_eq_true h1, h2, Bool.true_and, Bool.true_and]
  rw [e]
  cases z with
  | nil => exact absurd h1.1 (by decide)
  | cons x r =>
    by_cases hx : x = 45
    · subst hx
      show (!hd0 r || decide (45 :: r = [48])) = !((decide (1 < r.length) && hd0 r) || decide (45 :: r = [45, 48]))
      have e1 : decide (45 :: r = [48]) = false := decide_eq_false (fun q => by cases q)
      rw [e1, Bool.or_false]
      cases r with
      | nil => rfl
      | cons y t =>
        by_cases hy : y = 48
        · subst hy
          cases t with
          | nil => rfl
          | cons u t' =>
            have : decide (1 < (48 :: u :: t').length) = true := decide_eq_true (by rw [List.length_cons, List.length_cons]; omega)
            rw [this]
            rfl
        · have e2 : hd0 (y :: t) = false := decide_eq_false (fun q => hy (Option.some.inj q))
          have e3 : decide (45 :: y :: t = [45, 48]) = false := decide_eq_false (fun q => hy (List.cons.inj (List.cons.inj q).2).1)
          rw [e2, e3, Bool.and_false]
          rfl
    · have ef : figs (x :: r) = x :: r := figs_ne (fun q => hx (Option.some.inj q))
      have e3 : decide (x :: r = [45, 48]) = false := decide_eq_false (fun q => hx (List.cons.inj q).1)
      rw [ef, e3, Bool.or_false]
      by_cases hy : x = 48
      · subst hy
        cases r with
        | nil => rfl
        | cons u t' =>
          have : decide (1 < (48 :: u :: t').length) = true := decide_eq_true (by rw [List.length_cons, List.length_cons]; omega)
          have e4 : decide (48 :: u :: t' = [48]) = false := decide_eq_false (fun q => by cases (List.cons.inj q).2)
          rw [this, e4]
          rfl
      · have e2 : hd0 (x :: r) = false := decide_eq_false (fun q => hy (Option.some.inj q))
        rw [e2, Bool.and_false]
        rfl
section
variable {P : Program} {w : World} {K : PySem.W.Frag} {mg : Str → Option Value} {base : Heap}
theorem ok_rowTextL {f : Addr} {fd : FuncData} {k : Nat} (F : Fun K "_law_row_text" "_law_row_text" sRowTextL f fd) (B : Bl mg) : FnOk P w K mg base CX0 (k + 1) f fd ["_law_row"] (spRowText K) := by
  refine F.ok scRTL (fun vs H Q E h => ?_) (fun cdv A outer s H vs Q E hr h => ?_)
  · obtain ⟨p, ns, rfl, _⟩ := h
    rfl
  · obtain ⟨p, ns, rfl, hp, hz, hs, q⟩ := h
    refine ⟨_, pss_one (ps_ret (pe_join pe_str (pe_lc (own := [("_law_number", 1)]) (g := gName 1) (tt := tYes) rfl scRTL.nd (pi_tup (pv 0))
          (blkOk_by (own := [("_law_number", 1)]) (N := ["_law_row", "_law_number"]) (sc := defScope sRowTextL) (by decide +kernel)) (fun _ _ _ _ _ => pg_name (i := 1) scRTL.nd rfl (Or.inl rfl)) (fun _ _ _ _ _ => pts_nil)
          (fun _ _ _ _ _ => pe_callTy call_str_int (by rfl) B.str (by decide +kernel) (pa_cons (pv 1) pa_nil))))), ?_⟩
    refine ⟨⟨_, rfl⟩, .ref p, rfl, p, rfl, ⟨_, hp⟩, fun D nD => ?_⟩
    refine lc_tup (K := K) (a := p) (xs := ns.map V.int) (fun i H' => Same H H' ∧ H' D = some (.lst ((((ns.map wr).map S).take i).map V.str))) ⟨same_new nD, upd_same⟩ (fun i H' _ ⟨sm, _⟩ => sqT_same hp sm) (fun i x H' hx ⟨sm, hD⟩ => ?_) (fun H' ⟨sm, hD⟩ => ?_)
    · obtain ⟨n, hn, rfl⟩ : ∃ n, ns[i]? = some n ∧ x = V.int n := by
        rw [List.getElem?_map] at hx
        cases e : ns[i]? with
        | none => rw [e] at hx; cases hx
        | some n => rw [e] at hx; exact ⟨n, rfl, (Option.some.inj hx).symm⟩
      refine ⟨rfl, yes (iteT ?_)⟩
      refine ⟨_, rfl, n, rfl, log_small (hs n (List.mem_of_getElem? hn)), _, hD, ?_, same_late sm nD, ?_⟩
      · rw [List.length_map]
        exact small1000 (Nat.le_trans (List.length_take_le' _ _) (by rw [List.length_map, List.length_map]; omega))
      · have e : ((ns.map wr).map S)[i]? = some (S (wr n)) := by rw [List.getElem?_map, List.getElem?_map, hn]; rfl
        rw [upd_same, List.take_add_one, e, List.map_append, ← tl_wr]
        rfl
    · have e : ((ns.map wr).map S).take (ns.map V.int).length = (ns.map wr).map S := List.take_of_length_le (by rw [List.length_map, List.length_map, List.length_map]; omega)
      rw [e] at hD
      refine ⟨_, D, _, rfl, rfl, .inl (SqL.of hD), sum_lens hs hz, ?_⟩
      rw [show Txt.join (Str.ofString ",") ((ns.map wr).map S) = S (rowL ns) by rw [st_comma]; exact join_row ns]
      exact q H' sm
def spNumIn : Sp := fun vs H Q _ => ∃ z : List Nat, vs = [.str (S z)] ∧ z.length ≤ 1000 ∧ ∀ H', Same H H' → Q (numV z) H'
theorem ok_numIn {f : Addr} {fd : FuncData} {k : Nat} (F : Fun K "_law_number_in" "_law_number_in" sNumIn f fd) (B : Bl mg) : FnOk P w K mg base CX0 (k + 1) f fd ["_law_word_here"] spNumIn := by
  refine F.ok scNI (fun vs H Q E h => ?_) (fun cdv A outer s H vs Q E hr h => ?_)
  · obtain ⟨z, rfl, _⟩ := h
    rfl
  · obtain ⟨z, rfl, hz, q⟩ := h
    refine ⟨_, pss_cons (ps_set (i := 1) scNI.nd rfl (.inl rfl) (pe_ifExp (pt_cmpR op_eq (pe_slice sl_str (pv 0) po_none (po_some pe_int)) pe_str (nomark _)) (pe_slice sl_str (pv 0) (po_some pe_int) po_none) (pv 0)))
      (pss_cons (ps_if (PW.pt (pw_or (pt_not (pt_chain op_le op_le pe_int (pe_callB call_len_str (by rfl) B.len PySem.boot_len (pa_cons (pv 1) pa_nil)) pe_int))
          (pw_or1 (pt_not (pt_val (pe_callB (cr_all rfl) (by rfl) B.all (by decide +kernel) (pa_cons (pe_lc (own := [("_law_sign", 2)]) (g := gName 2) (tt := tYes) rfl scNI.nd (pi_str (pv 1))
          (blkOk_by (own := [("_law_sign", 2)]) (N := ["_law_word_here", "_law_figures", "_law_sign"]) (sc := defScope sNumIn) (by decide +kernel)) (fun _ _ _ _ _ => pg_name (i := 2) scNI.nd rfl (Or.inl rfl)) (fun _ _ _ _ _ => pts_nil)
          (fun _ _ _ _ _ => pe_cmpR op_in_sign (pv 2) pe_str (by rfl))) pa_nil))))))) (pss_one (ps_ret pe_non)) pss_nil)
      (pss_cons (ps_if (PW.pt (pw_or (PW.pt (pw_and (pt_cmpR op_gt (pe_callB call_len_str (by rfl) B.len PySem.boot_len (pa_cons (pv 1) pa_nil)) pe_int (nomark _)) (pw_and1 (pt_cmpR op_eq (pe_ix ix_str (pv 1) pe_int (fun _ _ => rfl)) pe_str (nomark _)))))
          (pw_or1 (pt_cmpR op_eq (pv 0) pe_str (nomark _))))) (pss_one (ps_ret pe_non)) pss_nil)
      (pss_one (ps_ret (pe_callTy call_int_str (by rfl) B.int (by decide +kernel) (pa_cons (pv 0) pa_nil)))))), ?_⟩
    have hs : (S z).length ≤ sizeLine := by rw [S_len]; exact sz1000 hz
    have hf := figs_le z
    have lf : (S (figs z)).length ≤ sizeLine := by rw [S_len]; exact sz1000 (by omega)
    have hno : isNum z = false → Q .non H := fun e => by
      have q1 := q H (Same.refl _)
      unfold numV at q1
      rw [e] at q1
      exact q1
    refine ⟨.str (S z), rfl, 1, rfl, S z, rfl, hs, ?_⟩
    rw [cut_head]
    refine ⟨rfl, _, rfl, ?_⟩
    have e1 : decide (V.str (S (z.take 1)) = V.str (Str.ofString "-")) = decide (z.take 1 = [45]) := by
      rw [st_dash]
      by_cases h : z.take 1 = [45]
      · rw [h, decide_eq_true rfl, decide_eq_true rfl]
      · rw [decide_eq_false h, decide_eq_false (fun e => h (SX.S_inj (V.str.inj e)))]
    rw [e1]
    have ef := figs_law z
    refine ite2 (fun c => ?A) (fun c => ?B)
    case' A =>
      rw [if_pos (of_decide_eq_true c)] at ef
      refine ⟨.str (S z), rfl, 1, rfl, noPart ⟨S z, rfl, hs, ?_⟩⟩
      rw [cut_tail, ← ef]
    case' B =>
      rw [if_neg (fun y => c (decide_eq_true y))] at ef
      refine ⟨.str (S (figs z)), (show some (some (V.str (S z))) = some (some (V.str (S (figs z)))) by rw [ef]), ?_⟩
    all_goals
      refine ⟨.str (S (figs z)), rfl, S (figs z), rfl, lf, 1, _, rfl, rfl, _, rfl, chainI ?_⟩
      rw [S_len]
      refine ite2 (fun c1 => iteT (hno ?_)) (fun c1 => ?_)
      · unfold isNum
        have : decide (1 ≤ (figs z).length ∧ (figs z).length ≤ 30) = false := decide_eq_false (fun y => by simp at c1; omega)
        rw [this]
        rfl
      have c1' : 1 ≤ (figs z).length ∧ (figs z).length ≤ 30 := by
        simp at c1
        omega
      refine ⟨.str (S (figs z)), rfl, S (figs z), rfl, fun D nD => ?_⟩
      refine lc_it walk_str (fun i H' => Same H H' ∧ H' D = some (.lst ((((figs z).take i).map dig).map V.bl))) ⟨same_new nD, upd_same⟩ (fun _ _ _ _ => True.intro) (fun i x H' H2 hi ⟨sm, hD⟩ ⟨eH, u, hc, ex⟩ => ?_) (fun H' ⟨sm, hD⟩ => ?_)
      · subst eH ex
        have hc' : (figs z)[i]? = some u := by simpa using hc
        refine ⟨rfl, yes (iteT ?_)⟩
        refine ⟨_, rfl, u, _, rfl, rfl, _, hD, ?_, same_late sm nD, ?_⟩
        · rw [List.length_map, List.length_map]
          exact small1000 (Nat.le_trans (List.length_take_le' _ _) (by omega))
        · rw [upd_same, List.take_add_one, hc', List.map_append, List.map_append]
          rfl
      have e0 : (S (figs z)).cps.size = (figs z).length := S_len (figs z)
      rw [e0, List.take_length] at hD
      have hno' : isNum z = false → Q .non H' := fun e => by
        have q1 := q H' sm
        unfold numV at q1
        rw [e] at q1
        exact q1
      refine ⟨D, _, rfl, SqL.of hD, _, rfl, ?_⟩
      have eall : (((figs z).map dig).all id) = (figs z).all dig := by
        rw [List.all_map]
        rfl
      rw [eall]
      refine ite2 (fun c2 => hno' ?_) (fun c2 => ?_)
      · unfold isNum
        cases y : (figs z).all dig with
        | false => rw [Bool.false_and, Bool.and_false]
        | true => rw [y] at c2; cases c2
      have y : (figs z).all dig = true := by
        cases y : (figs z).all dig with
        | true => rfl
        | false => rw [y] at c2; exact absurd rfl c2
      have ei := num_law c1' y
      obtain ⟨u, r, eu⟩ : ∃ u r, figs z = u :: r := by
        cases e : figs z with
        | nil => rw [e] at c1'; exact absurd c1'.1 (by decide)
        | cons u r => exact ⟨u, r, rfl⟩
      have e2 : decide (V.str (⟨#[u]⟩ : Str) = V.str (Str.ofString "0")) = hd0 (figs z) := by
        unfold hd0
        rw [eu, st_zero]
        by_cases h : u = 48
        · rw [h, decide_eq_true rfl]
          rfl
        · show _ = decide (some u = some 48)
          rw [decide_eq_false (fun e => h ?_), decide_eq_false (fun e => h (Option.some.inj e))]
          have e2 := SX.S_inj (a := [u]) (b := [48]) (V.str.inj e)
          exact (List.cons.inj e2).1
      have e3 : decide (V.str (S z) = V.str (Str.ofString "-0")) = decide (z = [45, 48]) := by
        rw [st_d0]
        by_cases h : z = [45, 48]
        · rw [h, decide_eq_true rfl, decide_eq_true rfl]
        · rw [decide_eq_false h, decide_eq_false (fun e => h (SX.S_inj (V.str.inj e)))]
      refine ⟨.str (S (figs z)), rfl, S (figs z), rfl, lf, _, 1, rfl, rfl, _, rfl, ?_⟩
      rw [S_len]
      refine ite2 (fun c4 => ?_) (fun c4 => ?_)
      · refine ⟨.str (S (figs z)), rfl, S (figs z), 0, u, rfl, rfl, lf, atI_nat (j := 0) (by show (figs z)[0]? = some u; rw [eu]; rfl), rfl, _, rfl, ?_⟩
        rw [e2]
        have c4' : 1 < (figs z).length := by have := of_decide_eq_true c4; omega
        refine ite2 (fun c5 => hno' (by rw [ei, decide_eq_true c4', c5]; rfl)) (fun c5 => ?_)
        have h3 : (decide (1 < (figs z).length) && hd0 (figs z)) = false := by rw [Bool.eq_false_iff.mpr c5, Bool.and_false]
        rw [h3, Bool.false_or] at ei
        refine ⟨.str (S z), rfl, rfl, _, rfl, ?_⟩
        rw [e3]
        refine ite2 (fun c3 => hno' (by rw [ei, c3]; rfl)) (fun c3 => ?_)
        rw [Bool.eq_false_iff.mpr c3] at ei
        have ei' : isNum z = true := ei
        obtain ⟨i1, i2⟩ := int_word ei'
        refine ⟨.str (S z), rfl, S z, _, rfl, i1, i2, ?_⟩
        have q1 := q H' sm
        unfold numV at q1
        rw [if_pos ei'] at q1
        exact q1
      · have c4' : ¬ 1 < (figs z).length := fun h => c4 (decide_eq_true (by omega))
        have h3 : (decide (1 < (figs z).length) && hd0 (figs z)) = false := by rw [decide_eq_false c4']; rfl
        rw [h3, Bool.false_or] at ei
        refine ⟨.str (S z), rfl, rfl, _, rfl, ?_⟩
        rw [e3]
        refine ite2 (fun c3 => hno' (by rw [ei, c3]; rfl)) (fun c3 => ?_)
        rw [Bool.eq_false_iff.mpr c3] at ei
        have ei' : isNum z = true := ei
        obtain ⟨i1, i2⟩ := int_word ei'
        refine ⟨.str (S z), rfl, S z, _, rfl, i1, i2, ?_⟩
        have q1 := q H' sm
        unfold numV at q1
        rw [if_pos ei'] at q1
        exact q1
end
end HL

set_option pp.maxSteps 3000
namespace HL
open PySem PySem.Spec PyProof.Rows L2
open C8 (pss_cut)
open SX (S S_len split_S join_S)
theorem scLT : FnScope ["lot", "hold"] ["lot"] (defScope sLotText) := ⟨rfl, rfl, rfl, by decide +kernel, rfl, by decide +kernel, by decide +kernel⟩
theorem scRL : FnScope ["text", "lot", "word"] ["text"] (defScope sReadLot) := ⟨rfl, rfl, rfl, by decide +kernel, rfl, by decide +kernel, by decide +kernel⟩
theorem scLTL : FnScope ["_law_lot_here", "_law_hold_here"] ["_law_lot_here"] (defScope sLotTextL) := ⟨rfl, rfl, rfl, by decide +kernel, rfl, by decide +kernel, by decide +kernel⟩
/-! ### lots in a text -/
def kindsOf (z : List Nat) : List (List Nat) := TL.spl [32] 0 [] z
theorem st_blank : (Str.ofString " " : Str) = S [32] := TL.ext_tl (by rw [TL.tl_ofString]; rfl)
theorem sp_blank (z : List Nat) : Txt.split (S z) (Str.ofString " ") = (kindsOf z).map S := by rw [st_blank]; exact split_S (by decide) (by decide)
def lotL (ll : List (List Int)) : List Nat := TL.joinL [32] (ll.map rowL)
theorem join_free {c s : Nat} (h : c ≠ s) : ∀ {ps : List (List Nat)}, (∀ p ∈ ps, c ∉ p) → c ∉ TL.joinL [s] ps
  | [], _ => fun z => by cases z
  | [p], hp => hp p List.mem_cons_self
  | p :: q :: r, hp => fun z => by
    have z' : c ∈ p ++ ([s] ++ TL.joinL [s] (q :: r)) := z
    rcases List.mem_append.mp z' with z1 | z1
    · exact hp p List.mem_cons_self z1
    · rcases List.mem_append.mp z1 with z2 | z2
      · exact h (List.mem_singleton.mp z2)
      · exact join_free h (fun x hx => hp x (List.mem_cons_of_mem _ hx)) z2
theorem row_free (ns : List Int) : 32 ∉ rowL ns := join_free (by decide) fun p hp => by
  obtain ⟨n, _, rfl⟩ := List.mem_map.mp hp
  exact wr_free (.inl (by decide)) (by decide)
theorem kinds_lot {ll : List (List Int)} (h : ll ≠ []) : kindsOf (lotL ll) = ll.map rowL := by
  refine TL.spl_join (fun e => h (List.map_eq_nil_iff.mp e)) fun p hp => ?_
  obtain ⟨n, _, rfl⟩ := List.mem_map.mp hp
  exact row_free n
theorem join_lot (ll : List (List Int)) : Txt.join (Str.ofString " ") ((ll.map rowL).map S) = S (lotL ll) := by rw [st_blank]; exact join_S _ _
theorem joinB_len : ∀ {ps : List (List Nat)} {k : Nat}, (∀ p ∈ ps, p.length ≤ k) → (TL.joinL [32] ps).length ≤ ps.length * (k + 1)
  | [], k, _ => Nat.zero_le _
  | [p], k, h => by
    have := h p List.mem_cons_self
    show p.length ≤ 1 * (k + 1)
    omega
  | p :: q :: r, k, h => by
    have h1 := h p List.mem_cons_self
    have h2 := joinB_len (ps := q :: r) (k := k) fun z hz => h z (List.mem_cons_of_mem _ hz)
    show (p ++ ([32] ++ TL.joinL [32] (q :: r))).length ≤ (q :: r).length.succ * (k + 1)
    rw [List.length_append, List.length_append, List.length_singleton, Nat.succ_mul]
    omega
theorem splB_len : ∀ (z acc : List Nat), (TL.spl [32] 0 acc z).length ≤ z.length + 1 ∧ ∀ p ∈ TL.spl [32] 0 acc z, p.length ≤ acc.length + z.length
  | [], acc => by
    rw [TL.spl_nil]
    exact ⟨Nat.le_refl _, fun p hp => by rw [List.mem_singleton.mp hp]; exact Nat.le_refl _⟩
  | c :: r, acc => by
    cases e : TL.pre [32] (c :: r) with
    | true =>
      rw [TL.spl_hit e]
      obtain ⟨h1, h2⟩ := splB_len r []
      refine ⟨by rw [List.length_cons, List.length_cons]; exact Nat.succ_le_succ h1, fun p hp => ?_⟩
      rcases List.mem_cons.mp hp with x | x
      · rw [x]; omega
      · have := h2 p x
        rw [List.length_cons]
        simp at this
        omega
    | false =>
      rw [TL.spl_miss e]
      obtain ⟨h1, h2⟩ := splB_len r (acc ++ [c])
      refine ⟨by rw [List.length_cons]; omega, fun p hp => ?_⟩
      have := h2 p hp
      rw [List.length_append, List.length_singleton] at this
      rw [List.length_cons]
      omega
theorem kinds_len (z : List Nat) : (kindsOf z).length ≤ z.length + 1 ∧ ∀ p ∈ kindsOf z, p.length ≤ z.length := by
  have := splB_len z []
  exact ⟨this.1, fun p hp => by have := this.2 p hp; simp at this; exact this⟩
theorem Rows.putL {H : Hp} {D : Addr} {xs ys : List V} {bs : List Addr} {ll : List (List Int)} (R : Rows H bs ll) (hD : H D = some (.lst xs)) : Rows (upd H D (.lst ys)) bs ll := R.mono fun a vs e => by
  rw [upd_ne (fun z => by rw [z, hD] at e; cases e)]
  exact e
def okT (z : List Nat) : Bool := (kindsOf z).all fun u => (wordsOf u).all isNum
def rowsT (z : List Nat) : List (List Int) := (kindsOf z).map fun u => (wordsOf u).map valW
theorem small_rows {ll : List (List Int)} (h : ∀ r ∈ ll, ∀ n ∈ r, 0 ≤ n ∧ n ≤ 6) : ∀ r ∈ ll, SmallN r := fun r hr n hn => by
  have := h r hr n hn
  have : n.natAbs ≤ 6 := by omega
  exact Nat.lt_of_le_of_lt this (by decide)
theorem rows_there {ll : List (List Int)} (hne : ll ≠ []) (hn : ∀ r ∈ ll, r ≠ []) (hs : ∀ r ∈ ll, SmallN r) : okT (lotL ll) = true ∧ rowsT (lotL ll) = ll := by
  unfold okT rowsT
  rw [kinds_lot hne]
  constructor
  · rw [List.all_map]
    refine List.all_eq_true.mpr fun r hr => ?_
    show (wordsOf (rowL r)).all isNum = true
    rw [words_row (hn r hr), List.all_map]
    exact List.all_eq_true.mpr fun n hm => (wr_num (hs r hr n hm)).1
  · rw [List.map_map]
    refine (List.map_congr_left fun r hr => ?_).trans (List.map_id ll)
    show (wordsOf (rowL r)).map valW = r
    rw [words_row (hn r hr), List.map_map]
    exact (List.map_congr_left fun n hm => (wr_num (hs r hr n hm)).2).trans (List.map_id r)
theorem flaw_rows {ll : List (List Int)} (h : flaw ll = none) : ∀ r ∈ ll, r.length = width ll ∧ ∀ n ∈ r, 0 ≤ n ∧ n ≤ 6 := by
  have h0 := flaw_ok h
  unfold flaw at h
  rw [if_pos ⟨h0.1, h0.2.1, h0.2.2.1, h0.2.2.2⟩] at h
  unfold flawIn at h
  have e : ll.findIdx? (fun r => !okRow (width ll) r) = none := by
    cases z : ll.findIdx? (fun r => !okRow (width ll) r) with
    | none => rfl
    | some i => rw [z] at h; cases h
  intro r hr
  have := List.findIdx?_eq_none_iff.mp e r hr
  have b : okRow (width ll) r = true := by
    cases z : okRow (width ll) r with
    | true => rfl
    | false => rw [z] at this; cases this
  obtain ⟨o1, o2, _⟩ := okRow_iff.mp b
  exact ⟨o1, o2⟩
theorem flaw_rowsT {ll : List (List Int)} (h : flaw ll = none) : ∀ r ∈ ll, ∀ n ∈ r, 0 ≤ n ∧ n ≤ 6 := fun r hr => (flaw_rows h r hr).2
theorem row_few {r : List Int} (h : r.length ≤ 100) (hs : SmallN r) : (rowL r).length ≤ 3200 := by
  have := rowL_len hs
  omega
theorem sum_lensB {ll : List (List Int)} (hz : ll.length ≤ 100) (hr : ∀ r ∈ ll, r.length ≤ 100 ∧ SmallN r) : (((ll.map rowL).map S).map (·.length)).sum + ((ll.map rowL).map S).length * (Str.ofString " ").length ≤ 16777216 := by
  have e1 : (Str.ofString " ").length = 1 := by rw [st_blank, S_len]; rfl
  rw [e1, List.length_map, List.length_map]
  have key : ∀ ms : List (List Int), (∀ r ∈ ms, r.length ≤ 100 ∧ SmallN r) → (((ms.map rowL).map S).map (·.length)).sum ≤ ms.length * 3200 := by
    intro ms
    induction ms with
    | nil => intro _; exact Nat.le_refl _
    | cons m ms ih =>
      intro hm
      have h0 := hm m List.mem_cons_self
      have h1 := row_few h0.1 h0.2
      have h2 := ih fun n hn => hm n (List.mem_cons_of_mem _ hn)
      rw [List.map_cons, List.map_cons, List.map_cons, List.sum_cons, List.length_cons, S_len, Nat.succ_mul]
      omega
  have := key ll hr
  omega
section
variable {P : Program} {w : World} {K : PySem.W.Frag} {mg : Str → Option Value} {base : Heap}
/-! ### lot_text -/
def spLotTextL : Sp := fun vs H Q _ => ∃ (p : Addr) (ll : List (List Int)), vs = [.ref p] ∧ LotAt H p ll ∧ ll.length ≤ 100 ∧ (∀ r ∈ ll, r.length ≤ 100 ∧ SmallN r) ∧ ∀ H', Same H H' → Q (.str (S (lotL ll))) H'
theorem ok_lotTextL {f : Addr} {fd : FuncData} (F : Fun K "_law_lot_text" "_law_lot_text" sLotTextL f fd) (CR : Cal P w K mg base CX0 1 "_law_row_text" ["_law_row"] (spRowText K)) : FnOk P w K mg base CX0 2 f fd ["_law_lot_here"] spLotTextL := by
  obtain ⟨fR, fdR, GR, gR, kR, bR⟩ := CR.ex
  refine F.ok scLTL (fun vs H Q E h => ?_) (fun cdv A outer s H vs Q E hr h => ?_)
  · obtain ⟨p, ll, rfl, _⟩ := h
    rfl
  · obtain ⟨p, ll, rfl, ⟨as, hp, hR⟩, hz, hs, q⟩ := h
    refine ⟨_, (pss_one (ps_ret (pe_join pe_str (pe_lc (own := [("_law_hold_here", 1)]) (g := gName 1) (tt := tYes) rfl scLTL.nd (pi_tup (pv 0))
        (blkOk_by (own := [("_law_hold_here", 1)]) (N := ["_law_lot_here", "_law_hold_here"]) (sc := defScope sLotTextL) (by decide +kernel)) (fun _ _ _ _ _ => pg_name (i := 1) scLTL.nd rfl (Or.inl rfl)) (fun _ _ _ _ _ => pts_nil)
        (fun _ _ _ _ _ => (pe_call GR (hr.mono (by decide)) (by rfl) gR kR bR .nil pass0 (pa_cons (pv 1) pa_nil))))))), ?_⟩
    have hlen := hR.len
    refine ⟨⟨_, rfl⟩, .ref p, rfl, p, rfl, ⟨_, SqT.of hp⟩, fun D nD => ?_⟩
    refine lc_tup (K := K) (a := p) (xs := as.map V.ref) (fun i H' => Same H H' ∧ H' D = some (.lst ((((ll.map rowL).map S).take i).map V.str))) ⟨same_new nD, upd_same⟩ (fun i H' _ ⟨sm, _⟩ => SqT.of (sm _ _ hp)) (fun i x H' hx ⟨sm, hD⟩ => ?_) (fun H' ⟨sm, hD⟩ => ?_)
    · obtain ⟨a, ha, rfl⟩ : ∃ n, as[i]? = some n ∧ x = V.ref n := by
        rw [List.getElem?_map] at hx
        cases e : as[i]? with
        | none => rw [e] at hx; cases hx
        | some n => rw [e] at hx; exact ⟨n, rfl, (Option.some.inj hx).symm⟩
      obtain ⟨r, r1, r2⟩ := hR.at ha
      have hrs := hs r (List.mem_of_getElem? r1)
      refine ⟨rfl, yes (iteT ?_)⟩
      refine ⟨.ref a, rfl, a, r, rfl, SqT.of (sm _ _ r2), hrs.1, hrs.2, fun H2 s2 => ⟨_, s2 _ _ hD, ?_, same_late (sm.trans s2) nD, ?_⟩⟩
      · rw [List.length_map]
        exact small1000 (Nat.le_trans (List.length_take_le' _ _) (by rw [List.length_map, List.length_map]; omega))
      · have e : ((ll.map rowL).map S)[i]? = some (S (rowL r)) := by rw [List.getElem?_map, List.getElem?_map, r1]; rfl
        rw [upd_same, List.take_add_one, e, List.map_append]
        rfl
    · rw [List.length_map, List.take_of_length_le (by rw [List.length_map, List.length_map]; omega)] at hD
      refine ⟨_, D, _, rfl, rfl, .inl (SqL.of hD), ?_, ?_⟩
      · exact sum_lensB hz hs
      · rw [join_lot]
        exact q H' sm
def spLotText (C : Addr) : Sp := fun vs H Q E => ∃ (p : Addr) (ll : List (List Int)), vs = [.ref p] ∧ LotAt H p ll ∧ ll.length ≤ 100 ∧ (∀ r ∈ ll, r.length ≤ 100) ∧ (flaw ll = none → ∀ H', Same H H' → Q (.str (S (lotL ll))) H') ∧ ∀ k, flaw ll = some k → Refd C "kind" "bad lot" (.int k) H E
theorem ok_lotText {f : Addr} {fd : FuncData} {C : Addr} (F : Fun K "lot_text" "lot_text" sLotText f fd) (CL : Cal P w K mg base (L2.CX P w) 3 "look_lot" ["lot"] (spLook C)) (CR : Cal P w K mg base CX0 1 "row_text" ["row"] (spRowText K)) : FnOk P w K mg base (L2.CX P w) 4 f fd ["lot"] (spLotText C) := by
  obtain ⟨fR, fdR, GR, gR, kR, bR⟩ := CR.ex
  obtain ⟨fL, fdL, GL, gL, kL, bL⟩ := CL.ex
  refine F.okX scLT (fun vs H Q E h => ?_) (fun cdv A outer s H vs Q E hr h => ?_)
  · obtain ⟨p, ll, rfl, _⟩ := h
    rfl
  · obtain ⟨p, ll, rfl, hLot, hz, hs, q1, q2⟩ := h
    refine ⟨_, (pss_cons (ps_expr (pe_call GL (hr.mono (by decide)) (by rfl) gL kL bL .nil (passes_call (takes_of rfl rfl rfl rfl) (fun _ _ _ _ h => h)) (pa_cons (pv 0) pa_nil)))
      (pss_one (ps_ret (pe_join pe_str (pe_lc (own := [("hold", 1)]) (g := gName 1) (tt := tYes) rfl scLT.nd (pi_tup (pv 0))
        (blkOk_by (own := [("hold", 1)]) (N := ["lot", "hold"]) (sc := defScope sLotText) (by decide +kernel)) (fun _ _ _ _ _ => pg_name (i := 1) scLT.nd rfl (Or.inl rfl)) (fun _ _ _ _ _ => pts_nil)
        (fun _ _ _ _ _ => (pe_call GR (hr.mono (by decide)) (by rfl) gR kR bR .nil pass0 (pa_cons (pv 1) pa_nil)))))))), ?_⟩
    refine ⟨.ref p, rfl, p, ll, rfl, hLot, Nat.le_trans hz (by decide), fun r hr => Nat.le_trans (hs r hr) (by decide), fun ef H0 s0 => ?_, q2⟩
    have hrw := flaw_rowsT ef
    have hs' : ∀ r ∈ ll, r.length ≤ 100 ∧ SmallN r := fun r hr => ⟨hs r hr, small_rows hrw r hr⟩
    obtain ⟨as, hp, hR⟩ := hLot.same s0
    have hlen := hR.len
    refine ⟨⟨_, rfl⟩, .ref p, rfl, p, rfl, ⟨_, SqT.of hp⟩, fun D nD => ?_⟩
    refine lc_tup (K := K) (a := p) (xs := as.map V.ref) (fun i H' => Same H0 H' ∧ H' D = some (.lst ((((ll.map rowL).map S).take i).map V.str))) ⟨same_new nD, upd_same⟩ (fun i H' _ ⟨sm, _⟩ => SqT.of (sm _ _ hp)) (fun i x H' hx ⟨sm, hD⟩ => ?_) (fun H' ⟨sm, hD⟩ => ?_)
    · obtain ⟨a, ha, rfl⟩ : ∃ n, as[i]? = some n ∧ x = V.ref n := by
        rw [List.getElem?_map] at hx
        cases e : as[i]? with
        | none => rw [e] at hx; cases hx
        | some n => rw [e] at hx; exact ⟨n, rfl, (Option.some.inj hx).symm⟩
      obtain ⟨r, r1, r2⟩ := hR.at ha
      have hrs := hs' r (List.mem_of_getElem? r1)
      refine ⟨rfl, yes (iteT ?_)⟩
      refine ⟨.ref a, rfl, a, r, rfl, SqT.of (sm _ _ r2), hrs.1, hrs.2, fun H2 s2 => ⟨_, s2 _ _ hD, ?_, same_late (sm.trans s2) nD, ?_⟩⟩
      · rw [List.length_map]
        exact small1000 (Nat.le_trans (List.length_take_le' _ _) (by rw [List.length_map, List.length_map]; omega))
      · have e : ((ll.map rowL).map S)[i]? = some (S (rowL r)) := by rw [List.getElem?_map, List.getElem?_map, r1]; rfl
        rw [upd_same, List.take_add_one, e, List.map_append]
        rfl
    · rw [List.length_map, List.take_of_length_le (by rw [List.length_map, List.length_map]; omega)] at hD
      refine ⟨_, D, _, rfl, rfl, .inl (SqL.of hD), ?_, ?_⟩
      · exact sum_lensB hz hs'
      · rw [join_lot]
        exact q1 ef H' (s0.trans sm)
/-! ### read_lot -/
def spReadLot (CT C : Addr) : Sp := fun vs H Q E => ∃ z : List Nat, vs = [.str (S z)] ∧ z.length ≤ 150 ∧ (okT z = false → Refd CT "at" "bad text" (.int 0) H E) ∧
  (okT z = true → (∀ k, flaw (rowsT z) = some k → Refd C "kind" "bad lot" (.int k) H E) ∧ (flaw (rowsT z) = none → ∀ H' p, Same H H' → LotAt H' p (rowsT z) → Q (.ref p) H'))
theorem ok_readLot {f : Addr} {fd : FuncData} {CT C : Addr} (F : Fun K "read_lot" "read_lot" sReadLot f fd) (B : Bl mg) (CL : Cal P w K mg base (L2.CX P w) 3 "look_lot" ["lot"] (spLook C)) (CR : Cal P w K mg base (L2.CX P w) 3 "read_row" ["text"] (spReadRow CT)) : FnOk P w K mg base (L2.CX P w) 4 f fd ["text"] (spReadLot CT C) := by
  obtain ⟨fR, fdR, GR, gR, kR, bR⟩ := CR.ex
  obtain ⟨fL, fdL, GL, gL, kL, bL⟩ := CL.ex
  refine F.okX scRL (fun vs H Q E h => ?_) (fun cdv A outer s H vs Q E hr h => ?_)
  · obtain ⟨z, rfl, _⟩ := h
    rfl
  · obtain ⟨z, rfl, hz, q1, q2⟩ := h
    refine ⟨_, (pss_cons (ps_set (i := 1) scRL.nd rfl (.inl rfl) (pe_callTy call_tuple_of (by rfl) B.tuple (by decide +kernel) (pa_cons (pe_lcR (E := E) (te := tCall (spReadRow CT) [] E (tCons (tVar 2) tNil)) (own := [("word", 2)]) (g := gName 2) (tt := tYes) rfl scRL.nd rfl rfl (takes_of (E := E) rfl rfl rfl rfl) (fun _ _ _ _ h => h) (pi_list (pe_split (pv 0) pe_str))
        (blkOk_by (own := [("word", 2)]) (N := ["text", "lot", "word"]) (sc := defScope sReadLot) (by decide +kernel)) (fun _ _ _ _ _ => pg_name (i := 2) scRL.nd rfl (Or.inl rfl)) (fun _ _ _ _ _ => pts_nil)
        (fun _ _ _ _ _ _ hp => (pe_call GR (hr.mono (by decide)) (by rfl) gR kR bR .nil hp (pa_cons (pv 2) pa_nil)))) pa_nil)))
      (pss_cons (ps_expr (pe_call GL (hr.mono (by decide)) (by rfl) gL kL bL .nil (passes_call (takes_of rfl rfl rfl rfl) (fun _ _ _ _ h => h)) (pa_cons (pv 1) pa_nil)))
      (pss_one (ps_ret (pv 1))))), ?_⟩
    obtain ⟨w1, w2⟩ := kinds_len z
    refine ⟨.str (S z), rfl, ⟨_, rfl⟩, S z, _, rfl, rfl, by decide +kernel, by rw [S_len]; exact sz1000 (by omega), fun p np => ?_⟩
    rw [sp_blank]
    have sp := same_new (o := .lst (((kindsOf z).map S).map V.str)) np
    refine ⟨p, rfl, ⟨_, SqL.of upd_same⟩, fun D nD => ?_⟩
    have hp : upd H p (.lst (((kindsOf z).map S).map V.str)) p = some (.lst (((kindsOf z).map S).map V.str)) := upd_same
    generalize upd H p (.lst (((kindsOf z).map S).map V.str)) = H0 at sp nD hp ⊢
    refine lc_list (K := K) (a := p) (xs := ((kindsOf z).map S).map V.str) (fun i H' => Same H0 H' ∧ (∀ u ∈ (kindsOf z).take i, (wordsOf u).all isNum = true) ∧ ∃ as : List Addr, H' D = some (.lst (as.map V.ref)) ∧ Rows H' as ((rowsT z).take i)) ⟨same_new nD, (fun u hu => by rw [List.take_zero] at hu; cases hu), [], upd_same, by rw [List.take_zero]; exact True.intro⟩ (fun i H' _ ⟨sm, _⟩ => SqL.of (sm _ _ hp)) (fun i x H' hx ⟨sm, hall, as, hD, hR⟩ => ?_) (fun H' ⟨sm, hall, as, hD, hR⟩ => ?_)
    · obtain ⟨u, hu, rfl⟩ := str_at hx
      have hum := List.mem_of_getElem? hu
      have hul := w2 u hum
      have hil := (List.getElem?_eq_some_iff.mp hu).1
      have er : (rowsT z)[i]? = some ((wordsOf u).map valW) := by unfold rowsT; rw [List.getElem?_map, hu]; rfl
      refine ⟨rfl, yes (iteT ?_)⟩
      refine ⟨_, rfl, u, rfl, by omega, fun hok H2 t s2 ht => ?_, fun hbad => ?_⟩
      · have hD2 := s2 _ _ hD
        refine ⟨_, hD2, ?_, same_late (sm.trans s2) nD, fun v hv => ?_, as ++ [t], by rw [upd_same, List.map_append]; rfl, ?_⟩
        · have := hR.len
          rw [List.length_take] at this
          rw [List.length_map]
          exact small1000 (by omega)
        · rw [List.take_add_one, hu] at hv
          rcases List.mem_append.mp hv with hv | hv
          · exact hall v hv
          · have : v = u := by simpa using hv
            rw [this]
            exact hok
        · rw [List.take_add_one, er]
          refine Rows.app ((hR.same s2).putL hD2) ?_
          refine ⟨?_, True.intro⟩
          rw [upd_ne (fun e => by have ht' : H2 t = some (.tup _) := ht; rw [e, hD2] at ht'; cases ht')]
          exact ht
      · refine Refd.same (q1 ?_) (sp.trans sm)
        cases e : okT z with
        | false => rfl
        | true =>
          have := List.all_eq_true.mp e u hum
          rw [hbad] at this
          cases this
    · rw [List.length_map, List.length_map, List.take_length] at hall
      rw [List.length_map, List.length_map, List.take_of_length_le (by unfold rowsT; rw [List.length_map]; exact Nat.le_refl _)] at hR
      have hok : okT z = true := List.all_eq_true.mpr hall
      obtain ⟨q3, q4⟩ := q2 hok
      refine ⟨D, _, rfl, .inl ⟨SqL.of hD, fun t nt => ?_⟩⟩
      have st := same_new (o := .tup (as.map V.ref)) nt
      have sa := sp.trans (sm.trans st)
      have hL : LotAt (upd H' t (.tup (as.map V.ref))) t (rowsT z) := ⟨as, upd_same, hR.same st⟩
      have rlen : (rowsT z).length ≤ 200 := by unfold rowsT; rw [List.length_map]; omega
      refine ⟨.ref t, rfl, t, rowsT z, rfl, hL, rlen, fun r hr => ?_, fun ef H3 s3 => ⟨.ref t, rfl, q4 ef H3 t (sa.trans s3) (hL.same s3)⟩, fun k hk => Refd.same (q3 k hk) sa⟩
      unfold rowsT at hr
      obtain ⟨u, hu, rfl⟩ := List.mem_map.mp hr
      rw [List.length_map]
      have h1 := w2 u hu
      have h2 := (words_len u).1
      omega
end
end HL

set_option pp.maxSteps 3000
namespace HL
open PySem PySem.Spec PyProof.Rows L2
open C8 (pss_cut)
open SX (S S_len split_S join_S)
theorem scRd : FnScope ["_law_mtext", "_law_rows", "_law_word_here", "_law_row", "_law_good", "_law_one"] ["_law_mtext"] (defScope sRead) := ⟨rfl, rfl, rfl, by decide +kernel, rfl, by decide +kernel, by decide +kernel⟩
theorem scFw : FnScope ["_law_mtext", "_law_rows", "_law_kind_here", "_law_numbers", "_law_word_here"] ["_law_mtext"] (defScope sFlaw) := ⟨rfl, rfl, rfl, by decide +kernel, rfl, by decide +kernel, by decide +kernel⟩
theorem scKd : FnScope ["_law_mtext", "_law_kind_here", "e"] ["_law_mtext"] (defScope sKind) := ⟨rfl, rfl, rfl, by decide +kernel, rfl, by decide +kernel, by decide +kernel⟩
theorem sz_2 (v w : V) : [v, w].length ≤ sizeLine := by
  show 2 ≤ sizeLine
  decide
theorem spl_ne (s : List Nat) : ∀ (z acc : List Nat), TL.spl [32] 0 acc z ≠ [] ∧ TL.spl [44] 0 acc z ≠ []
  | [], acc => by rw [TL.spl_nil, TL.spl_nil]; exact ⟨List.cons_ne_nil _ _, List.cons_ne_nil _ _⟩
  | c :: r, acc => by
    constructor
    · cases e : TL.pre [32] (c :: r) with
      | true => rw [TL.spl_hit e]; exact List.cons_ne_nil _ _
      | false => rw [TL.spl_miss e]; exact (spl_ne s r _).1
    · cases e : TL.pre [44] (c :: r) with
      | true => rw [TL.spl_hit e]; exact List.cons_ne_nil _ _
      | false => rw [TL.spl_miss e]; exact (spl_ne s r _).2
theorem kinds_ne (z : List Nat) : kindsOf z ≠ [] := (spl_ne [] z []).1
theorem words_ne (z : List Nat) : wordsOf z ≠ [] := (spl_ne [] z []).2
theorem rowsT_len (z : List Nat) : (rowsT z).length = (kindsOf z).length := by unfold rowsT; rw [List.length_map]
theorem rowsT_pos (z : List Nat) : 1 ≤ (rowsT z).length := by
  rw [rowsT_len]
  exact List.length_pos_iff.mpr (kinds_ne z)
theorem rowsT_ne {z : List Nat} : ∀ r ∈ rowsT z, r ≠ [] := fun r hr => by
  unfold rowsT at hr
  obtain ⟨u, _, rfl⟩ := List.mem_map.mp hr
  exact fun e => words_ne u (List.map_eq_nil_iff.mp e)
theorem rowsT_most {z : List Nat} (h : z.length ≤ 150) : (rowsT z).length ≤ 151 ∧ ∀ r ∈ rowsT z, r.length ≤ 151 := by
  refine ⟨by rw [rowsT_len]; have := (kinds_len z).1; omega, fun r hr => ?_⟩
  unfold rowsT at hr
  obtain ⟨u, hu, rfl⟩ := List.mem_map.mp hr
  rw [List.length_map]
  have h1 := (kinds_len z).2 u hu
  have h2 := (words_len u).1
  omega
theorem width_pos (z : List Nat) : 1 ≤ width (rowsT z) := by
  have h1 := rowsT_pos z
  unfold width
  cases e : rowsT z with
  | nil => rw [e] at h1; simp at h1
  | cons r rs =>
    have := rowsT_ne (z := z) r (by rw [e]; exact List.mem_cons_self)
    exact List.length_pos_iff.mpr this
theorem in_nums (ws : List (List Nat)) : inV .non (ws.map numV) = !ws.all isNum := by
  unfold inV
  induction ws with
  | nil => rfl
  | cons u ws ih =>
    rw [List.map_cons, List.any_cons, ih, List.all_cons, Bool.not_and]
    congr 1
    unfold numV
    cases isNum u <;> rfl
theorem nums_flat (ws : List (List Nat)) : (ws.map numV).all flatV = true := by
  refine List.all_eq_true.mpr fun v hv => ?_
  obtain ⟨u, _, rfl⟩ := List.mem_map.mp hv
  unfold numV
  cases isNum u <;> rfl
theorem nums_ints {ws : List (List Nat)} (h : ws.all isNum = true) : ws.map numV = (ws.map valW).map V.int := by
  rw [List.map_map]
  refine List.map_congr_left fun u hu => ?_
  unfold numV
  rw [if_pos (List.all_eq_true.mp h u hu)]
  rfl
/-- a row that can be held, as the law looks at it -/
theorem okRow_law {g : Nat} {r : List Int} {lo hi : Int} (hlo : lo ∈ r) (l1 : ∀ y ∈ r, lo ≤ y) (hhi : hi ∈ r) (h1 : ∀ y ∈ r, y ≤ hi) : okRow g r = (decide (r.length = g) && decide (0 < r.sum) && decide (0 ≤ lo) && decide (hi ≤ 6)) := by
  rw [Bool.eq_iff_iff, okRow_iff]
  simp only [Bool.and_eq_true, decide_eq_true_eq]
  constructor
  · rintro ⟨a, b, c⟩
    exact ⟨⟨⟨a, sum_pos (fun n hn => (b n hn).1) c⟩, (b lo hlo).1⟩, (b hi hhi).2⟩
  · rintro ⟨⟨⟨a, b⟩, c⟩, d⟩
    have h0 : ∀ n ∈ r, 0 ≤ n ∧ n ≤ 6 := fun n hn => ⟨Int.le_trans c (l1 n hn), Int.le_trans (h1 n hn) d⟩
    refine ⟨a, h0, ?_⟩
    by_cases e : ∃ n ∈ r, 0 < n
    · exact e
    · have : ∀ n ∈ r, n = 0 := fun n hn => by
        have := (h0 n hn).1
        have : ¬ 0 < n := fun z => e ⟨n, hn, z⟩
        omega
      have z : r.sum = 0 := by
        clear b
        induction r with
        | nil => rfl
        | cons x r ih => rw [List.sum_cons, this x List.mem_cons_self]; exact (by
            have : ∀ (l : List Int), (∀ n ∈ l, n = 0) → (0 : Int) + l.sum = 0 := fun l => by
              induction l with
              | nil => intro _; rfl
              | cons y l ih2 => intro h; rw [List.sum_cons, h y List.mem_cons_self]; have := ih2 fun n hn => h n (List.mem_cons_of_mem _ hn); omega
            exact this r fun n hn => ‹∀ n ∈ x :: r, n = 0› n (List.mem_cons_of_mem _ hn))
      omega
theorem flaw_all {ll : List (List Int)} (h1 : 1 ≤ ll.length) (h2 : 1 ≤ width ll) : (decide (ll.length ≤ 5) && decide (width ll ≤ 3) && ll.all (okRow (width ll))) = (flaw ll).isNone := by
  unfold flaw
  by_cases c : 1 ≤ ll.length ∧ ll.length ≤ 5 ∧ 1 ≤ width ll ∧ width ll ≤ 3
  · rw [if_pos c, decide_eq_true c.2.1, decide_eq_true c.2.2.2, Bool.true_and, Bool.true_and]
    cases e : ll.all (okRow (width ll)) with
    | true =>
      rw [flawIn_none fun j r _ hj => List.all_eq_true.mp e r (List.mem_of_getElem? hj)]
      rfl
    | false =>
      have : ∃ r ∈ ll, okRow (width ll) r = false := by
        rw [List.all_eq_false] at e
        obtain ⟨r, hr, hb⟩ := e
        exact ⟨r, hr, by simpa using hb⟩
      obtain ⟨r, hr, hb⟩ := this
      show false = Option.isNone ((ll.findIdx? fun r => !okRow (width ll) r).map fun i => (i : Int))
      cases q : ll.findIdx? fun r => !okRow (width ll) r with
      | none =>
        have := List.findIdx?_eq_none_iff.mp q r hr
        rw [hb] at this
        cases this
      | some i => rfl
  · rw [if_neg c]
    by_cases d : ll.length ≤ 5
    · rw [decide_eq_false (show ¬ width ll ≤ 3 by omega), Bool.and_false, Bool.false_and]
      rfl
    · rw [decide_eq_false d, Bool.false_and, Bool.false_and]
      rfl
theorem head_width {ll : List (List Int)} {r : List Int} (h : ll[0]? = some r) : width ll = r.length := by
  unfold width
  cases ll with
  | nil => simp at h
  | cons x xs =>
    have e : x = r := by simpa using h
    rw [e]
    rfl
theorem max_some : ∀ {r : List Int}, r ≠ [] → ∃ hi ∈ r, ∀ y ∈ r, y ≤ hi
  | [], h => absurd rfl h
  | [x], _ => ⟨x, List.mem_cons_self, fun y hy => by rw [List.mem_singleton.mp hy]; exact Int.le_refl _⟩
  | x :: y :: r, _ => by
    obtain ⟨m, hm, h⟩ := max_some (r := y :: r) (List.cons_ne_nil _ _)
    by_cases c : x ≤ m
    · refine ⟨m, List.mem_cons_of_mem _ hm, fun w hw => ?_⟩
      rcases List.mem_cons.mp hw with e | e
      · rw [e]; exact c
      · exact h w e
    · refine ⟨x, List.mem_cons_self, fun w hw => ?_⟩
      rcases List.mem_cons.mp hw with e | e
      · rw [e]; exact Int.le_refl _
      · have := h w e
        omega
theorem min_some : ∀ {r : List Int}, r ≠ [] → ∃ lo ∈ r, ∀ y ∈ r, lo ≤ y
  | [], h => absurd rfl h
  | [x], _ => ⟨x, List.mem_cons_self, fun y hy => by rw [List.mem_singleton.mp hy]; exact Int.le_refl _⟩
  | x :: y :: r, _ => by
    obtain ⟨m, hm, h⟩ := min_some (r := y :: r) (List.cons_ne_nil _ _)
    by_cases c : m ≤ x
    · refine ⟨m, List.mem_cons_of_mem _ hm, fun w hw => ?_⟩
      rcases List.mem_cons.mp hw with e | e
      · rw [e]; exact c
      · exact h w e
    · refine ⟨x, List.mem_cons_self, fun w hw => ?_⟩
      rcases List.mem_cons.mp hw with e | e
      · rw [e]; exact Int.le_refl _
      · have := h w e
        omega
theorem zero_sum : ∀ {r : List Int}, (∀ n ∈ r, n = 0) → r.sum = 0
  | [], _ => rfl
  | x :: r, h => by rw [List.sum_cons, h x List.mem_cons_self, zero_sum fun n hn => h n (List.mem_cons_of_mem _ hn)]; rfl
theorem okRow_yes {g : Nat} {r : List Int} {lo hi : Int} (e : r.length = g) (hs : r.sum ≠ 0) (l1 : ∀ y ∈ r, lo ≤ y) (h0 : ¬ lo < 0) (h1 : ∀ y ∈ r, y ≤ hi) (h6 : ¬ hi > 6) : okRow g r = true := by
  have hb : ∀ n ∈ r, 0 ≤ n ∧ n ≤ 6 := fun n hn => by
    have := l1 n hn
    have := h1 n hn
    omega
  refine okRow_iff.mpr ⟨e, hb, ?_⟩
  by_cases c : ∃ n ∈ r, 0 < n
  · exact c
  · refine absurd (zero_sum fun n hn => ?_) hs
    have := (hb n hn).1
    have : ¬ 0 < n := fun z => c ⟨n, hn, z⟩
    omega
theorem okRow_no {g : Nat} {r : List Int} (h : ¬ (r.length = g ∧ (∀ n ∈ r, 0 ≤ n ∧ n ≤ 6) ∧ ∃ n ∈ r, 0 < n)) : okRow g r = false := by
  cases e : okRow g r with
  | false => rfl
  | true => exact absurd (okRow_iff.mp e) h
section
variable {P : Program} {w : World} {K : PySem.W.Frag} {mg : Str → Option Value} {base : Heap}
/-! ### the law's own reader -/
def spRead : Sp := fun vs H Q _ => ∃ z : List Nat, vs = [.str (S z)] ∧ z.length ≤ 150 ∧ (okT z = false → ∀ H' t, Same H H' → H' t = some (.tup [.non, .str "bad text"]) → Q (.ref t) H') ∧
  (okT z = true → (flaw (rowsT z) ≠ none → ∀ H' t, Same H H' → H' t = some (.tup [.non, .str "bad lot"]) → Q (.ref t) H') ∧ (flaw (rowsT z) = none → ∀ H' t p, Same H H' → H' t = some (.tup [.ref p, .str ""]) → LotAt H' p (rowsT z) → Q (.ref t) H'))
theorem ok_read {f : Addr} {fd : FuncData} (F : Fun K "_law_read" "_law_read" sRead f fd) (B : Bl mg) (CN : Cal P w K mg base CX0 1 "_law_number_in" ["_law_word_here"] spNumIn) : FnOk P w K mg base CX0 2 f fd ["_law_mtext"] spRead := by
  obtain ⟨fN, fdN, GN, gN, kN, bN⟩ := CN.ex
  refine F.ok scRd (fun vs H Q E h => ?_) (fun cdv A outer s H vs Q E hr h => ?_)
  · obtain ⟨z, rfl, _⟩ := h
    rfl
  · obtain ⟨z, rfl, hz, q1, q2⟩ := h
    refine ⟨_, (pss_cons (ps_set (i := 1) scRd.nd rfl (.inl rfl) (pe_lst pa_nil))
      (pss_cons (ps_for PassesOwn.never rfl (pi_list (pe_split (pv 0) pe_str)) (pg_name (i := 2) scRd.nd rfl (.inl rfl))
      (pss_cons (ps_setLc (i := 3) (own := [("_law_one", 5)]) (g := gName 5) (tt := tYes) rfl scRd.nd rfl rfl (sw_true rfl rfl rfl (by decide +kernel)) (pi_list (pe_split (pv 2) pe_str))
        (blkOk_by (own := [("_law_one", 5)]) (N := ["_law_mtext", "_law_rows", "_law_word_here", "_law_row", "_law_good", "_law_one"]) (sc := defScope sRead) (by decide +kernel)) (fun _ _ _ _ _ => pg_name (i := 5) scRd.nd rfl (Or.inl rfl)) (fun _ _ _ _ _ => pts_nil)
        (fun _ _ _ _ _ => (pe_call GN (hr.mono (by decide)) (by rfl) gN kN bN .nil pass0 (pa_cons (pv 5) pa_nil))))
      (pss_cons (ps_if (pt_cmpR op_in_seq pe_non (pv 3) (by rfl)) (pss_one (ps_ret (pe_tup (pa_cons pe_non (pa_cons pe_str pa_nil))))) pss_nil)
      (pss_one (ps_expr (pe_bm PySem.F.plainAttrs_list PySem.F.slot_list_append PySem.F.type_list_append mt_append (pv 1) (pa_cons (pe_callTy call_tuple_of (by rfl) B.tuple (by decide +kernel) (pa_cons (pv 3) pa_nil)) pa_nil)))))))
      (pss_cut (ps_set (i := 4) scRd.nd rfl (.inl rfl) (pe_and (pe_cmpR op_le (pe_callB call_len_seq (by rfl) B.len PySem.boot_len (pa_cons (pv 1) pa_nil)) pe_int (nomark _)) (pe_one (pe_cmpR op_le (pe_callB call_len_seq (by rfl) B.len PySem.boot_len (pa_cons (pe_ix ix_list (pv 1) pe_int (fun _ _ => rfl)) pa_nil)) pe_int (nomark _)))))
      (pss_cons (ps_for PassesOwn.never rfl (pi_list (pv 1)) (pg_name (i := 3) scRd.nd rfl (.inl rfl))
      (pss_cut (ps_set (i := 4) scRd.nd rfl (.inl rfl) (pe_and (pv 4) (pe_and (pe_cmpR op_eq (pe_callB call_len_seq (by rfl) B.len PySem.boot_len (pa_cons (pv 3) pa_nil)) (pe_callB call_len_seq (by rfl) B.len PySem.boot_len (pa_cons (pe_ix ix_list (pv 1) pe_int (fun _ _ => rfl)) pa_nil)) (nomark _)) (pe_one (pe_cmpR op_gt (pe_callB (cr_sumT rfl) (by rfl) B.sum (by decide +kernel) (pa_cons (pv 3) pa_nil)) pe_int (nomark _))))))
      (pss_one (ps_set (i := 4) scRd.nd rfl (.inl rfl) (pe_and (pv 4) (pe_and (pe_cmpR op_ge (pe_callB (cr_minT rfl hr.units) (by rfl) B.min (by decide +kernel) (pa_cons (pv 3) pa_nil)) pe_int (nomark _)) (pe_one (pe_cmpR op_le (pe_callB (cr_maxT rfl hr.units) (by rfl) B.max (by decide +kernel) (pa_cons (pv 3) pa_nil)) pe_int (nomark _)))))))))
      (pss_one (ps_ret (pe_ifExp (pt_val (pv 4)) (pe_tup (pa_cons (pe_callTy call_tuple_of (by rfl) B.tuple (by decide +kernel) (pa_cons (pv 1) pa_nil)) (pa_cons pe_str pa_nil))) (pe_tup (pa_cons pe_non (pa_cons pe_str pa_nil)))))))))), ?_⟩
    obtain ⟨w1, w2⟩ := kinds_len z
    obtain ⟨z1, z2⟩ := rowsT_most hz
    refine ⟨Nat.zero_le _, fun rl nrl => ?_⟩
    have s1 := same_new (o := .lst []) nrl
    refine ⟨.str (S z), rfl, ⟨_, rfl⟩, S z, _, rfl, rfl, by decide +kernel, by rw [S_len]; exact sz1000 (by omega), fun p np => ?_⟩
    rw [sp_blank]
    have sp := same_new (o := .lst (((kindsOf z).map S).map V.str)) np
    have s2 := s1.trans sp
    have hp : upd (upd H rl (.lst [])) p (.lst (((kindsOf z).map S).map V.str)) p = some (.lst (((kindsOf z).map S).map V.str)) := upd_same
    have hrl : upd (upd H rl (.lst [])) p (.lst (((kindsOf z).map S).map V.str)) rl = some (.lst ([].map V.ref)) := sp _ _ upd_same
    have pH : H p = none := s1.free np
    have prl : p ≠ rl := fun e => by rw [e, upd_same] at np; cases np
    generalize upd (upd H rl (.lst [])) p (.lst (((kindsOf z).map S).map V.str)) = H0 at s2 hp hrl ⊢
    refine ⟨p, rfl, ⟨_, SqL.of hp⟩, ?_⟩
    refine for_list (K := K) (a := p) (xs := ((kindsOf z).map S).map V.str) (fun i σ H' => Same H H' ∧ H' p = some (.lst (((kindsOf z).map S).map V.str)) ∧ (∀ u ∈ (kindsOf z).take i, (wordsOf u).all isNum = true) ∧ ∃ (as : List Addr) (y2 y3 : Option V), σ = [some (.str (S z)), some (.ref rl), y2, y3, none, none] ∧ H' rl = some (.lst (as.map V.ref)) ∧ Rows H' as ((rowsT z).take i))
      ⟨s2, hp, (fun u hu => by rw [List.take_zero] at hu; cases hu), [], none, none, rfl, hrl, by rw [List.take_zero]; exact True.intro⟩ (fun i σ H' _ hI => SqL.of hI.2.1) (fun i x σ H2 hx hI => ?_) (fun σ H2 hI => ?_)
    · obtain ⟨sm, hp2, hall, as, y2, y3, rfl, hrl2, hR⟩ := hI
      obtain ⟨u, hu, rfl⟩ := str_at hx
      have hum := List.mem_of_getElem? hu
      have hul := w2 u hum
      have hil := (List.getElem?_eq_some_iff.mp hu).1
      have er : (rowsT z)[i]? = some ((wordsOf u).map valW) := by unfold rowsT; rw [List.getElem?_map, hu]; rfl
      obtain ⟨u1, u2⟩ := words_len u
      refine ⟨.str (S u), rfl, ⟨_, rfl⟩, S u, _, rfl, rfl, by decide +kernel, by rw [S_len]; exact sz1000 (by omega), fun p2 np2 => ?_⟩
      rw [sp_comma]
      have sp2 := same_new (o := .lst (((wordsOf u).map S).map V.str)) np2
      refine ⟨p2, rfl, ⟨_, SqL.of upd_same⟩, fun D nD => ?_⟩
      have hp22 : upd H2 p2 (.lst (((wordsOf u).map S).map V.str)) p2 = some (.lst (((wordsOf u).map S).map V.str)) := upd_same
      generalize upd H2 p2 (.lst (((wordsOf u).map S).map V.str)) = H3 at sp2 hp22 nD ⊢
      refine lc_list (K := K) (a := p2) (xs := ((wordsOf u).map S).map V.str) (fun j H' => Same H3 H' ∧ H' D = some (.lst (((wordsOf u).map numV).take j))) ⟨same_new nD, upd_same⟩ (fun j H' _ ⟨s3, _⟩ => SqL.of (s3 _ _ hp22)) (fun j x H4 hx ⟨s4, hD⟩ => ?_) (fun H4 ⟨s4, hD⟩ => ?_)
      · obtain ⟨v, hv, rfl⟩ := str_at hx
        have hvl := u2 v (List.mem_of_getElem? hv)
        refine ⟨rfl, yes (iteT ?_)⟩
        refine ⟨_, rfl, v, rfl, by omega, fun H5 s5 => ⟨_, s5 _ _ hD, ?_, same_late (s4.trans s5) nD, ?_⟩⟩
        · exact small1000 (Nat.le_trans (List.length_take_le' _ _) (by rw [List.length_map]; omega))
        · have e : ((wordsOf u).map numV)[j]? = some (numV v) := by rw [List.getElem?_map, hv]; rfl
          rw [upd_same, List.take_add_one, e]
          rfl
      · rw [List.length_map, List.length_map, List.take_of_length_le (by rw [List.length_map]; exact Nat.le_refl _)] at hD
        have s34 := sp2.trans s4
        have sa := sm.trans s34
        refine ⟨.ref D, rfl, D, _, rfl, .inl (SqL.of hD), rfl, nums_flat _, _, rfl, ?_⟩
        rw [in_nums]
        refine ite2 (fun c1 => ?_) (fun c1 => ?_)
        · have bad : okT z = false := by
            cases e : okT z with
            | false => rfl
            | true =>
              have := List.all_eq_true.mp e u hum
              have this : (wordsOf u).all isNum = true := this
              rw [this] at c1
              cases c1
          exact ⟨sz_2 _ _, fun t nt => q1 bad _ t (sa.trans (same_new nt)) upd_same⟩
        · have good : (wordsOf u).all isNum = true := by
            cases e : (wordsOf u).all isNum with
            | true => rfl
            | false => rw [e] at c1; exact absurd rfl c1
          rw [nums_ints good] at hD
          have hrl4 := s34 _ _ hrl2
          refine ⟨.ref rl, rfl, .inl ⟨rfl, _, SqL.of hrl4⟩, .ref D, rfl, D, _, rfl, .inl ⟨SqL.of hD, fun t nt => ?_⟩⟩
          have st := same_new (o := .tup (((wordsOf u).map valW).map V.int)) nt
          have hrl5 := st _ _ hrl4
          have s35 := s34.trans st
          refine ⟨rl, _, _, rfl, rfl, hrl5, ?_, same_late (sm.trans s35) nrl, ?_, fun v hv => ?_, as ++ [t], _, _, rfl, by rw [upd_same, List.map_append]; rfl, ?_⟩
          · have := hR.len
            rw [List.length_take] at this
            rw [List.length_map]
            exact small1000 (by omega)
          · rw [upd_ne prl]
            exact s35 _ _ hp2
          · rw [List.take_add_one, hu] at hv
            rcases List.mem_append.mp hv with hv | hv
            · exact hall v hv
            · have : v = u := by simpa using hv
              rw [this]
              exact good
          · rw [List.take_add_one, er]
            refine Rows.app ((hR.same s35).putL hrl5) ?_
            refine ⟨?_, True.intro⟩
            rw [upd_ne (fun e => by rw [e, hrl4] at nt; cases nt), upd_same]
    · obtain ⟨sm, hp2, hall, as, y2, y3, rfl, hrl2, hR⟩ := hI
      rw [List.length_map, List.length_map] at hall hR
      rw [List.take_length] at hall
      rw [List.take_of_length_le (by rw [rowsT_len]; exact Nat.le_refl _)] at hR
      have hok : okT z = true := List.all_eq_true.mpr hall
      obtain ⟨q3, q4⟩ := q2 hok
      have hlen := hR.len
      have h1 := rowsT_pos z
      have hw := width_pos z
      have hne := rowsT_ne (z := z)
      have fa := flaw_all h1 hw
      generalize rowsT z = ll at hR hlen h1 hw hne fa q3 q4 z1 z2
      obtain ⟨a0, ha0⟩ : ∃ c, as[0]? = some c := ⟨_, List.getElem?_eq_getElem (by omega)⟩
      obtain ⟨r0, hr0, ht0⟩ := hR.at ha0
      have ew := head_width hr0
      have at0 : atI (as.map V.ref) 0 = some (.ref a0) := atI_nat (j := 0) (by rw [List.getElem?_map, ha0]; rfl)
      have sR : Same H H2 := sm
      refine ⟨fun σ' H' => H' = H2 ∧ ∃ y2 y3, σ' = [some (.str (S z)), some (.ref rl), y2, y3, some (.bl (decide (ll.length ≤ 5) && decide (width ll ≤ 3))), none], ?_, ?_⟩
      · refine ⟨.ref rl, rfl, rl, _, rfl, .inl (SqL.of hrl2), _, 5, rfl, rfl, _, rfl, ?_⟩
        rw [List.length_map, hlen]
        refine ite2 (fun c1 => ?_) (fun c1 => ?_)
        · have c1' : ll.length ≤ 5 := by have := of_decide_eq_true c1; omega
          refine ⟨.ref rl, rfl, rl, _, 0, .ref a0, rfl, rfl, SqL.of hrl2, at0, a0, _, rfl, .inr (SqT.of ht0), _, 3, rfl, rfl, rfl, y2, y3, ?_⟩
          show [some (V.str (S z)), some (V.ref rl), y2, y3, some (.bl (decide (((r0.map V.int).length : Int) ≤ 3))), none] = _
          rw [List.length_map, decide_eq_true c1', Bool.true_and, ew]
          have e : decide (((r0.length : Nat) : Int) ≤ 3) = decide (r0.length ≤ 3) := decide_eq_decide.mpr (by omega)
          rw [e]
        · have c1' : ¬ ll.length ≤ 5 := fun h => c1 (decide_eq_true (by omega))
          refine ⟨rfl, y2, y3, ?_⟩
          rw [decide_eq_false c1', Bool.false_and]
          rfl
      rintro σ' H3 ⟨rfl, y2, y3, rfl⟩
      -- row by row
      refine ⟨.ref rl, rfl, rl, rfl, ⟨_, SqL.of hrl2⟩, ?_⟩
      refine for_list (K := K) (a := rl) (xs := as.map V.ref) (fun i σ' H' => H' = H3 ∧ ∃ y2 y3, σ' = [some (.str (S z)), some (.ref rl), y2, y3, some (.bl (decide (ll.length ≤ 5) && decide (width ll ≤ 3) && (ll.take i).all (okRow (width ll)))), none])
        ⟨rfl, _, _, by rw [List.take_zero, List.all_nil, Bool.and_true]⟩ (fun i σ H' _ hI => by rw [hI.1]; exact SqL.of hrl2) (fun i x σ H4 hx hI => ?_) (fun σ H4 hI => ?_)
      · obtain ⟨rfl, y2, y3, rfl⟩ := hI
        obtain ⟨a, ha, rfl⟩ : ∃ n, as[i]? = some n ∧ x = V.ref n := by
          rw [List.getElem?_map] at hx
          cases e : as[i]? with
          | none => rw [e] at hx; cases hx
          | some n => rw [e] at hx; exact ⟨n, rfl, (Option.some.inj hx).symm⟩
        obtain ⟨r, hr1, hr2⟩ := hR.at ha
        have hrm := List.mem_of_getElem? hr1
        have rne := hne r hrm
        have rpos : 0 < r.length := List.length_pos_iff.mpr rne
        have em : (ll.take (i + 1)).all (okRow (width ll)) = ((ll.take i).all (okRow (width ll)) && okRow (width ll) r) := by
          rw [List.take_add_one, hr1, List.all_append]
          simp
        generalize hg : (decide (ll.length ≤ 5) && decide (width ll ≤ 3) && (ll.take i).all (okRow (width ll))) = gg
        have em2 : (decide (ll.length ≤ 5) && decide (width ll ≤ 3) && (ll.take (i + 1)).all (okRow (width ll))) = (gg && okRow (width ll) r) := by
          rw [em, ← hg]
          simp [Bool.and_assoc]
        rw [em2]
        refine ⟨fun σ' H' => H' = H4 ∧ ∃ y2, σ' = [some (.str (S z)), some (.ref rl), y2, some (.ref a), some (.bl (gg && (decide (r.length = width ll) && decide (0 < r.sum)))), none], ?_, ?_⟩
        · refine ⟨_, rfl, _, rfl, ?_⟩
          cases gg with
          | false => exact ⟨rfl, _, rfl⟩
          | true =>
            refine ⟨.ref a, rfl, a, _, rfl, .inr (SqT.of hr2), .ref rl, rfl, rl, _, 0, .ref a0, rfl, rfl, SqL.of hrl2, at0, a0, _, rfl, .inr (SqT.of ht0), rfl, _, rfl, ?_⟩
            rw [List.length_map, List.length_map, ← ew]
            have e : decide (V.int ((r.length : Nat) : Int) = V.int ((width ll : Nat) : Int)) = decide (r.length = width ll) := by
              by_cases c : r.length = width ll
              · rw [decide_eq_true c, c, decide_eq_true rfl]
              · rw [decide_eq_false c, decide_eq_false fun w => c (by have := V.int.inj w; omega)]
            rw [e]
            refine ite2 (fun c1 => ?_) (fun c1 => ?_)
            · have c1' : decide (r.length = width ll) = true := c1
              rw [c1']
              exact ⟨.ref a, rfl, a, r, rfl, SqT.of hr2, _, 0, rfl, rfl, rfl, _, rfl⟩
            · have c1' : decide (r.length = width ll) = false := Bool.eq_false_iff.mpr c1
              rw [c1']
              exact ⟨rfl, _, rfl⟩
        rintro σ' H5 ⟨rfl, y2, rfl⟩
        refine ⟨_, rfl, _, rfl, ?_⟩
        have fin : ∀ lo ∈ r, (∀ y ∈ r, lo ≤ y) → ∀ hi ∈ r, (∀ y ∈ r, y ≤ hi) → (gg && okRow (width ll) r) = (gg && (decide (r.length = width ll) && decide (0 < r.sum)) && (decide (0 ≤ lo) && decide (hi ≤ 6))) := fun lo h1 h2 hi h3 h4 => by
          rw [okRow_law h1 h2 h3 h4]
          cases gg <;> simp [Bool.and_assoc]
        have some_hi : ∃ hi ∈ r, ∀ y ∈ r, y ≤ hi := max_some rne
        have some_lo : ∃ lo ∈ r, ∀ y ∈ r, lo ≤ y := min_some rne
        generalize hq : (gg && (decide (r.length = width ll) && decide (0 < r.sum))) = hh at fin ⊢
        cases hh with
        | false =>
          obtain ⟨hi, i1, i2⟩ := some_hi
          obtain ⟨lo, l1, l2⟩ := some_lo
          refine ⟨rfl, y2, some (.ref a), ?_⟩
          rw [fin lo l1 l2 hi i1 i2, Bool.false_and]
          rfl
        | true =>
          refine ⟨.ref a, rfl, a, r, rfl, SqT.of hr2, rpos, fun lo l1 l2 => ?_⟩
          refine ⟨lo, 0, rfl, rfl, _, rfl, ite2 (fun c1 => ?_) (fun c1 => ?_)⟩
          · refine ⟨.ref a, rfl, a, r, rfl, SqT.of hr2, rpos, fun hi i1 i2 => ⟨hi, 6, rfl, rfl, rfl, y2, some (.ref a), ?_⟩⟩
            have c1' : decide (0 ≤ lo) = true := c1
            rw [fin lo l1 l2 hi i1 i2, Bool.true_and, c1', Bool.true_and]
            rfl
          · obtain ⟨hi, i1, i2⟩ := some_hi
            refine ⟨rfl, y2, some (.ref a), ?_⟩
            have c1' : decide (0 ≤ lo) = false := Bool.eq_false_iff.mpr c1
            rw [fin lo l1 l2 hi i1 i2, Bool.true_and, c1', Bool.false_and]
            rfl
      · obtain ⟨rfl, y2, y3, rfl⟩ := hI
        rw [List.length_map, hlen, List.take_length, fa]
        refine ⟨_, rfl, _, rfl, ?_⟩
        cases ef : flaw ll with
        | none =>
          refine iteT ?_
          refine ⟨.ref rl, rfl, rl, _, rfl, .inl ⟨SqL.of hrl2, fun t nt => ⟨sz_2 _ _, fun t2 nt2 => ?_⟩⟩⟩
          have st := same_new (o := .tup (as.map V.ref)) nt
          have st2 := same_new (o := .tup [.ref t, .str ""]) nt2
          exact q4 ef _ t2 t (sR.trans (st.trans st2)) upd_same ⟨as, st2 _ _ upd_same, hR.same (st.trans st2)⟩
        | some k =>
          refine iteF ?_
          refine ⟨sz_2 _ _, fun t2 nt2 => ?_⟩
          exact q3 (by rw [ef]; exact fun z => by cases z) _ t2 (sR.trans (same_new nt2)) upd_same
def spFlaw : Sp := fun vs H Q _ => ∃ z : List Nat, vs = [.str (S z)] ∧ z.length ≤ 150 ∧ okT z = true ∧ ∀ H', Same H H' → Q (flawV (rowsT z)) H'
theorem ok_flaw {f : Addr} {fd : FuncData} (F : Fun K "_law_flaw" "_law_flaw" sFlaw f fd) (B : Bl mg) : FnOk P w K mg base CX0 1 f fd ["_law_mtext"] spFlaw := by
  refine F.ok scFw (fun vs H Q E h => ?_) (fun cdv A outer s H vs Q E hr h => ?_)
  · obtain ⟨z, rfl, _⟩ := h
    rfl
  · obtain ⟨z, rfl, hz, hok, q⟩ := h
    refine ⟨_, (pss_cons (ps_setLc (i := 1) (own := [("_law_word_here", 4)]) (g := gName 4) (tt := tYes) rfl scFw.nd rfl rfl (sw_true rfl rfl rfl (by decide +kernel)) (pi_list (pe_split (pv 0) pe_str))
        (blkOk_by (own := [("_law_word_here", 4)]) (N := ["_law_mtext", "_law_rows", "_law_kind_here", "_law_numbers", "_law_word_here"]) (sc := defScope sFlaw) (by decide +kernel)) (fun _ _ _ _ _ => pg_name (i := 4) scFw.nd rfl (Or.inl rfl)) (fun _ _ _ _ _ => pts_nil)
        (fun _ _ _ _ _ => (pe_split (pv 4) pe_str)))
      (pss_cons (ps_if (PW.pt (pw_or (pt_cmpR op_gt (pe_callB call_len_seq (by rfl) B.len PySem.boot_len (pa_cons (pv 1) pa_nil)) pe_int (nomark _)) (pw_or1 (pt_cmpR op_gt (pe_callB call_len_seq (by rfl) B.len PySem.boot_len (pa_cons (pe_ix ix_list (pv 1) pe_int (fun _ _ => rfl)) pa_nil)) pe_int (nomark _))))) (pss_one (ps_ret (pe_un un_neg pe_int))) pss_nil)
      (pss_cons (ps_for PassesOwn.never rfl (pi_range1 (by rfl) B.range (pa_cons (pe_callB call_len_seq (by rfl) B.len PySem.boot_len (pa_cons (pv 1) pa_nil)) pa_nil)) (pg_name (i := 2) scFw.nd rfl (.inl rfl))
      (pss_cons (ps_setLc (i := 3) (own := [("_law_word_here", 4)]) (g := gName 4) (tt := tYes) rfl scFw.nd rfl rfl (sw_true rfl rfl rfl (by decide +kernel)) (pi_list (pe_ix ix_list (pv 1) (pv 2) (fun _ _ => rfl)))
        (blkOk_by (own := [("_law_word_here", 4)]) (N := ["_law_mtext", "_law_rows", "_law_kind_here", "_law_numbers", "_law_word_here"]) (sc := defScope sFlaw) (by decide +kernel)) (fun _ _ _ _ _ => pg_name (i := 4) scFw.nd rfl (Or.inl rfl)) (fun _ _ _ _ _ => pts_nil)
        (fun _ _ _ _ _ => (pe_callTy call_int_str (by rfl) B.int (by decide +kernel) (pa_cons (pv 4) pa_nil))))
      (pss_one (ps_if (PW.pt (pw_or (pt_cmpR op_ne (pe_callB call_len_seq (by rfl) B.len PySem.boot_len (pa_cons (pv 3) pa_nil)) (pe_callB call_len_seq (by rfl) B.len PySem.boot_len (pa_cons (pe_ix ix_list (pv 1) pe_int (fun _ _ => rfl)) pa_nil)) (nomark _)) (pw_or (pt_cmpR op_eq (pe_callB (cr_sum rfl) (by rfl) B.sum (by decide +kernel) (pa_cons (pv 3) pa_nil)) pe_int (nomark _)) (pw_or (pt_cmpR op_lt (pe_callB (cr_min rfl) (by rfl) B.min (by decide +kernel) (pa_cons (pv 3) pa_nil)) pe_int (nomark _)) (pw_or1 (pt_cmpR op_gt (pe_callB (cr_max rfl) (by rfl) B.max (by decide +kernel) (pa_cons (pv 3) pa_nil)) pe_int (nomark _))))))) (pss_one (ps_ret (pv 2))) pss_nil))))
      (pss_one (ps_ret pe_non))))), ?_⟩
    obtain ⟨w1, w2⟩ := kinds_len z
    obtain ⟨z1, z2⟩ := rowsT_most hz
    have hrl := rowsT_len z
    have h1 := rowsT_pos z
    have hw := width_pos z
    have hwr : ∀ u ∈ kindsOf z, (wordsOf u).all isNum = true := fun u hu => List.all_eq_true.mp hok u hu
    refine ⟨.str (S z), rfl, ⟨_, rfl⟩, S z, _, rfl, rfl, by decide +kernel, by rw [S_len]; exact sz1000 (by omega), fun p np => ?_⟩
    rw [sp_blank]
    have sp := same_new (o := .lst (((kindsOf z).map S).map V.str)) np
    refine ⟨p, rfl, ⟨_, SqL.of upd_same⟩, fun D nD => ?_⟩
    have hp : upd H p (.lst (((kindsOf z).map S).map V.str)) p = some (.lst (((kindsOf z).map S).map V.str)) := upd_same
    generalize upd H p (.lst (((kindsOf z).map S).map V.str)) = H0 at sp nD hp ⊢
    refine lc_list (K := K) (a := p) (xs := ((kindsOf z).map S).map V.str) (fun i H' => Same H0 H' ∧ ∃ as : List Addr, H' D = some (.lst (as.map V.ref)) ∧ as.length = i ∧ (∀ a ∈ as, a ≠ D) ∧ ∀ (j : Nat) (a : Addr) (u : List Nat), as[j]? = some a → (kindsOf z)[j]? = some u → H' a = some (.lst (((wordsOf u).map S).map V.str))) ⟨same_new nD, [], upd_same, rfl, (fun a ha => by cases ha), fun j a u e => by simp at e⟩ (fun i H' _ ⟨sm, _⟩ => SqL.of (sm _ _ hp)) (fun i x H' hx ⟨sm, as, hD, hl, hnd, hat⟩ => ?_) (fun H' ⟨sm, as, hD, hl, hnd, hat⟩ => ?_)
    · obtain ⟨u, hu, rfl⟩ := str_at hx
      have hul := w2 u (List.mem_of_getElem? hu)
      have hil := (List.getElem?_eq_some_iff.mp hu).1
      refine ⟨rfl, yes (iteT ?_)⟩
      refine ⟨.str (S u), rfl, ⟨_, rfl⟩, S u, _, rfl, rfl, by decide +kernel, by rw [S_len]; exact sz1000 (by omega), fun p2 np2 => ?_⟩
      rw [sp_comma]
      have s2 := same_new (o := .lst (((wordsOf u).map S).map V.str)) np2
      have hD2 := s2 _ _ hD
      have neD : p2 ≠ D := fun e => by rw [e, hD] at np2; cases np2
      refine ⟨_, hD2, ?_, same_late (sm.trans s2) nD, as ++ [p2], by rw [upd_same, List.map_append]; rfl, by rw [List.length_append, hl]; rfl, fun a ha => ?_, fun j a v e1 e2 => ?_⟩
      · rw [List.length_map]
        exact small1000 (by omega)
      · rcases List.mem_append.mp ha with ha | ha
        · exact hnd a ha
        · rw [List.mem_singleton.mp ha]
          exact neD
      · by_cases c : j < as.length
        · rw [List.getElem?_append_left c] at e1
          have := hat j a v e1 e2
          rw [upd_ne (hnd a (List.mem_of_getElem? e1))]
          exact s2 _ _ this
        · rw [List.getElem?_append_right (by omega)] at e1
          have ej : j - as.length = 0 := by
            have := (List.getElem?_eq_some_iff.mp e1).1
            rw [List.length_singleton] at this
            omega
          rw [ej] at e1
          have ea : p2 = a := by simpa using e1
          have ej2 : j = i := by omega
          rw [ej2, hu] at e2
          cases e2
          rw [← ea, upd_ne neD, upd_same]
    · rw [List.length_map, List.length_map] at hl
      have s0 := sp.trans sm
      obtain ⟨a0, ha0⟩ : ∃ c, as[0]? = some c := ⟨_, List.getElem?_eq_getElem (by omega)⟩
      obtain ⟨u0, hu0⟩ : ∃ c, (kindsOf z)[0]? = some c := ⟨_, List.getElem?_eq_getElem (by omega)⟩
      have ht0 := hat 0 a0 u0 ha0 hu0
      have hr0 : (rowsT z)[0]? = some ((wordsOf u0).map valW) := by unfold rowsT; rw [List.getElem?_map, hu0]; rfl
      have ew := head_width hr0
      rw [List.length_map] at ew
      have at0 : atI (as.map V.ref) 0 = some (.ref a0) := atI_nat (j := 0) (by rw [List.getElem?_map, ha0]; rfl)
      have far : ¬ (1 ≤ (rowsT z).length ∧ (rowsT z).length ≤ 5 ∧ 1 ≤ width (rowsT z) ∧ width (rowsT z) ≤ 3) → flawV (rowsT z) = .int (-1) := fun c => by
        have e : flaw (rowsT z) = some (-1) := by unfold flaw; rw [if_neg c]
        unfold flawV
        rw [e]
      refine ⟨.ref D, rfl, D, _, rfl, .inl (SqL.of hD), _, 5, rfl, rfl, _, rfl, ?_⟩
      rw [List.length_map, hl, ← hrl]
      refine ite2 (fun c1 => ?_) (fun c1 => ?_)
      · have c1' : ¬ (rowsT z).length ≤ 5 := by have := of_decide_eq_true c1; omega
        refine iteT ⟨1, rfl, ?_⟩
        have := q H' s0
        rw [far (by omega)] at this
        exact this
      · have c1' : (rowsT z).length ≤ 5 := by
          have : ¬ ((rowsT z).length : Int) > 5 := fun z => c1 (decide_eq_true z)
          omega
        refine ⟨.ref D, rfl, D, _, 0, .ref a0, rfl, rfl, SqL.of hD, at0, a0, _, rfl, .inl (SqL.of ht0), _, 3, rfl, rfl, _, rfl, ?_⟩
        rw [List.length_map, List.length_map, ← ew]
        refine ite2 (fun c2 => ?_) (fun c2 => ?_)
        · have c2' : ¬ width (rowsT z) ≤ 3 := by have := of_decide_eq_true c2; omega
          refine ⟨1, rfl, ?_⟩
          have := q H' s0
          rw [far (by omega)] at this
          exact this
        · have c2' : width (rowsT z) ≤ 3 := by
            have : ¬ (width (rowsT z) : Int) > 3 := fun z => c2 (decide_eq_true z)
            omega
          have efl : flaw (rowsT z) = flawIn (width (rowsT z)) (rowsT z) := by unfold flaw; rw [if_pos ⟨h1, c1', hw, c2'⟩]
          refine ⟨.ref D, rfl, D, _, rfl, .inl (SqL.of hD), _, rfl, by rw [List.length_map]; omega, by rw [List.length_map]; omega, ?_⟩
          rw [List.length_map]
          refine for_range (lo := 0) (n := ((as.length : Nat) : Int).toNat) (fun i σ H2 => Same H' H2 ∧ (∀ (j : Nat) (r : List Int), j < i → (rowsT z)[j]? = some r → okRow (width (rowsT z)) r = true) ∧ ∃ y2 y3, σ = [some (.str (S z)), some (.ref D), y2, y3, none]) ⟨Same.refl _, (fun j r hj => absurd hj (Nat.not_lt_zero j)), none, none, rfl⟩ (fun i σ H2 hi hI => ?_) (fun σ H2 hI => ?_)
          · obtain ⟨s2, hgood, y2, y3, rfl⟩ := hI
            have ez : (0 : Int) + (i : Nat) = ((i : Nat) : Int) := by omega
            rw [ez]
            obtain ⟨ai, hai⟩ : ∃ c, as[i]? = some c := ⟨_, List.getElem?_eq_getElem (by omega)⟩
            obtain ⟨ui, hui⟩ : ∃ c, (kindsOf z)[i]? = some c := ⟨_, List.getElem?_eq_getElem (by omega)⟩
            have hti := s2 _ _ (hat i ai ui hai hui)
            have hD2 := s2 _ _ hD
            have hnum := hwr ui (List.mem_of_getElem? hui)
            have hri : (rowsT z)[i]? = some ((wordsOf ui).map valW) := by unfold rowsT; rw [List.getElem?_map, hui]; rfl
            have huil := w2 ui (List.mem_of_getElem? hui)
            obtain ⟨v1, v2⟩ := words_len ui
            have ati : atI (as.map V.ref) (i : Int) = some (.ref ai) := atI_nat (by rw [List.getElem?_map, hai]; rfl)
            refine ⟨.ref D, rfl, .int (i : Int), rfl, D, _, _, .ref ai, rfl, rfl, SqL.of hD2, ati, ai, rfl, ⟨_, SqL.of hti⟩, fun D2 nD2 => ?_⟩
            refine lc_list (K := K) (a := ai) (xs := ((wordsOf ui).map S).map V.str) (fun k H3 => Same H2 H3 ∧ H3 D2 = some (.lst ((((wordsOf ui).map valW).take k).map V.int))) ⟨same_new nD2, upd_same⟩ (fun k H3 _ ⟨s3, _⟩ => SqL.of (s3 _ _ hti)) (fun k x H3 hx ⟨s3, hD3⟩ => ?_) (fun H3 ⟨s3, hD3⟩ => ?_)
            · obtain ⟨v, hv, rfl⟩ := str_at hx
              have hn := (List.all_eq_true.mp hnum) v (List.mem_of_getElem? hv)
              obtain ⟨i1, i2⟩ := int_word hn
              refine ⟨rfl, yes (iteT ?_)⟩
              refine ⟨_, rfl, _, _, rfl, i1, i2, _, hD3, ?_, same_late s3 nD2, ?_⟩
              · rw [List.length_map]
                exact small1000 (Nat.le_trans (List.length_take_le' _ _) (by rw [List.length_map]; omega))
              · have e : ((wordsOf ui).map valW)[k]? = some (valW v) := by rw [List.getElem?_map, hv]; rfl
                rw [upd_same, List.take_add_one, e, List.map_append]
                rfl
            · rw [List.length_map, List.length_map, List.take_of_length_le (by rw [List.length_map]; exact Nat.le_refl _)] at hD3
              have rne : (wordsOf ui).map valW ≠ [] := fun e => words_ne ui (List.map_eq_nil_iff.mp e)
              generalize (wordsOf ui).map valW = r at hri hD3 rne
              have sa := s2.trans s3
              have bad : okRow (width (rowsT z)) r = false → Q (.int (i : Int)) H3 := fun hb => by
                have e : flawV (rowsT z) = .int (i : Int) := by
                  unfold flawV
                  rw [efl, flawIn_at hri hb fun j r' hj hjr => hgood j r' hj hjr]
                have := q H3 (s0.trans sa)
                rw [e] at this
                exact this
              refine ⟨.ref D2, rfl, D2, _, rfl, .inl (SqL.of hD3), .ref D, rfl, D, _, 0, .ref a0, rfl, rfl, SqL.of (sa _ _ hD), at0, a0, _, rfl, .inl (SqL.of (sa _ _ ht0)), rfl, _, rfl, ?_⟩
              rw [List.length_map, List.length_map, List.length_map, ← ew]
              have e : (!decide (V.int ((r.length : Nat) : Int) = V.int ((width (rowsT z) : Nat) : Int))) = decide (r.length ≠ width (rowsT z)) := by
                by_cases c : r.length = width (rowsT z)
                · rw [c, decide_eq_true rfl]
                  simp
                · rw [decide_eq_false fun w => c (by have := V.int.inj w; omega), decide_eq_true c]
                  rfl
              rw [e]
              refine ite2 (fun d1 => iteT ⟨.int (i : Int), rfl, bad (okRow_no fun h => (of_decide_eq_true d1) h.1)⟩) (fun d1 => ?_)
              have len : r.length = width (rowsT z) := by
                by_cases c : r.length = width (rowsT z)
                · exact c
                · exact absurd (decide_eq_true c) d1
              refine ⟨.ref D2, rfl, D2, r, rfl, SqL.of hD3, rfl, _, rfl, ite2 (fun d2 => iteT ⟨.int (i : Int), rfl, bad (okRow_no fun h => ?_)⟩) (fun d2 => ?_)⟩
              · have z0 : r.sum = 0 := V.int.inj (of_decide_eq_true d2)
                have := sum_pos (fun n hn => (h.2.1 n hn).1) h.2.2
                omega
              have sne : r.sum ≠ 0 := fun z0 => d2 (decide_eq_true (congrArg V.int z0))
              refine ⟨.ref D2, rfl, D2, r, rfl, SqL.of hD3, List.length_pos_iff.mpr rne, fun lo l1 l2 => ⟨lo, 0, rfl, rfl, _, rfl, ite2 (fun d3 => iteT ⟨.int (i : Int), rfl, bad (okRow_no fun h => ?_)⟩) (fun d3 => ?_)⟩⟩
              · have := of_decide_eq_true d3
                have := (h.2.1 lo l1).1
                omega
              refine ⟨.ref D2, rfl, D2, r, rfl, SqL.of hD3, List.length_pos_iff.mpr rne, fun hi i1 i2 => ⟨hi, 6, rfl, rfl, _, rfl, ite2 (fun d4 => ⟨.int (i : Int), rfl, bad (okRow_no fun h => ?_)⟩) (fun d4 => ?_)⟩⟩
              · have := of_decide_eq_true d4
                have := (h.2.1 hi i1).2
                omega
              · refine ⟨sa, fun j r' hj hjr => ?_, _, _, rfl⟩
                by_cases c : j < i
                · exact hgood j r' c hjr
                · have ej : j = i := by omega
                  rw [ej, hri] at hjr
                  cases hjr
                  exact okRow_yes len sne l2 (fun z0 => d3 (decide_eq_true z0)) i2 (fun z0 => d4 (decide_eq_true z0))
          · obtain ⟨s2, hgood, y2, y3, rfl⟩ := hI
            rw [Int.toNat_natCast] at hgood
            have e : flawV (rowsT z) = .non := by
              unfold flawV
              rw [efl, flawIn_none fun j r hj hjr => hgood j r (by omega) hjr]
            have := q H2 (s0.trans s2)
            rw [e] at this
            exact this
end
end HL

set_option pp.maxSteps 3000
namespace HL
open PySem PySem.Spec PyProof.Rows L2
open C8 (pss_cut)
open SX (S S_len split_S join_S)
open LamX (CodeO Tabs TabS TabB ExtN tLam LamS lamS_by lamCx lamEnv codeO_ne)
/-- the slots of a def are as many as its names -/
theorem takes_len {X : Cx} {W : WX} (tk : Takes X W) : Takes X (fun cls d σ H => σ.length = X.N.length → W cls d σ H) := fun u s' ⟨a, B, sI, pins, σ, H, cls, d, e, I, nb, up, sky, na, os, ag, w⟩ =>
  tk u s' ⟨a, B, sI, pins, σ, H, cls, d, e, I, nb, up, sky, na, os, ag, w I.len⟩
/-- refused with the class at C, its word wd -/
def RefW (C : Addr) (wd : Str) (H : Hp) (E : XK) : Prop := ∀ H' d fs, Same H H' → H' d = some (.xd fs) → fs.lookup (Str.ofString "word") = some (V.str wd) → E (.ref C) (some d) H'
theorem RefW.same {C : Addr} {wd : Str} {H H1 : Hp} {E : XK} (h : RefW C wd H E) (s : Same H H1) : RefW C wd H1 E := fun H' d fs s' e l => h H' d fs (s.trans s') e l
theorem RefW.refd {C : Addr} {f wd : Str} {v : V} {H : Hp} {E : XK} (h : RefW C wd H E) (hf : (("word" : Str) == f) = false) : Refd C f wd v H E := fun H' d s nd e => h H' d _ s e (by
  show List.lookup (Str.ofString "word") [(f, v), (Str.ofString "word", V.str wd)] = _
  rw [List.lookup_cons, hf]
  exact List.lookup_cons_self)
/-! ### an ask, told by its word -/
abbrev NW : List Str := ["_law_ask", "_law_word_here", "_law_answer", "e"]
theorem scWord : FnScope NW ["_law_ask"] (defScope sWord) := ⟨rfl, rfl, rfl, by decide +kernel, rfl, by decide +kernel, by decide +kernel⟩
/-- a class that an ask may end with; l: whether it is of Missing's family, else of LotError's -/
structure FamW (K : PySem.W.Frag) (CE CM : Addr) (C : Addr) (l : Bool) : Prop where
  x : XfC K C
  nW : PySem.W.findIn K (.ref C) "word" = some none
  ce : PySem.W.exmOne K (.ref C) (.ref CE) = some (!l)
  cm : l = true → PySem.W.exmOne K (.ref C) (.ref CM) = some true
structure ClsW (mg : Str → Option Value) (CE CM CN : Addr) : Prop where
  gE : mg "LotError" = some (.ref CE)
  gM : mg "Missing" = some (.ref CM)
  gN : mg "NothingLeft" = some (.ref CN)
def tXfA (K : PySem.W.Frag) (a : Addr) (cls : Value) (d : Option Addr) (n : Str) (te : TE) : TE := fun σ H Q => ∃ C, XfC K C ∧ PySem.W.findIn K (.ref C) n = some none ∧ tXf a cls d C n te σ H Q
theorem pe_xfA {X : Cx} {a : Addr} {oe : Obj} {cls : Value} {d : Option Addr} {pn : List (Addr × Obj)} {e : Expr} {te : TE} {pos : Pos} {n : Str} (hz : Zc cls d oe) (hf : ∃ vs, oe.data = .fields vs) (he : PE (X.suite a ((a, oe) :: pn)) e te)
    (hb : attributeBase e n X.env (eval e X.env) = eval e X.env := by rfl) : PE (X.suite a ((a, oe) :: pn)) (.Attribute e n pos) (tXfA X.K a cls d n te) := ⟨fun pins s σ H Q I ⟨C, T, hno, h⟩ => (pe_xf T hno hz hf he hb).run pins s σ H Q I h⟩
def CatchW (K : PySem.W.Frag) (CE CM : Addr) (Q : VK) : XK := fun cls d H' => ∃ (C dd : Addr) (fs : List (Str × V)) (wd : Str) (l : Bool), FamW K CE CM C l ∧ d = some dd ∧ cls = .ref C ∧ H' dd = some (.xd fs) ∧ fs.lookup (Str.ofString "word") = some (V.str wd) ∧ ∀ t, H' t = none → Q (.ref t) (upd H' t (.tup [.non, .str wd]))
def TTw (K : PySem.W.Frag) (CE CM : Addr) : (XK → Hp → VK → Prop) → Hp → VK → Prop := fun tl H Q => tl (CatchW K CE CM Q) H (fun v H' => ∀ t, H' t = none → Q (.ref t) (upd H' t (.tup [v, .str ""])))
theorem word_gives {X : Cx} {q : Str} {g CE CM CN : Addr} {cdg : Value} (T : ClsW X.mg CE CM CN) : AsksOf X NW "_law_word" (defScope sWord) g cdg (defBody sWord) "_law_ask" q (TTw X.K CE CM) := by
  intro f c' s H Q tl act hc h
  refine ⟨_, pss_cons (ps_set (i := 1) scWord.nd rfl (.inl rfl) pe_str) (pss_cons (ps_set (i := 2) scWord.nd rfl (.inl rfl) pe_non) (pss_cons (ps_try_manyA (i := 3) (n := "e")
      (tb := fun W D σ H => ∃ Ech : XK, (∀ cls d H', Ech cls d H' → W cls d σ H') ∧ σ[0]? = some (some (.ref f)) ∧ H c' = some (CodeO c' q) ∧ tl Ech H (fun v H' => D.nx (σ.set 2 (some v)) H')) (Wout := fun _ _ _ _ => False)
      (l := [(.ref CE, fun a cls d => tAsg (tXfA X.K a cls d "word" (tVar 3)) (gName 1)), (.ref CM, fun a cls d => tAsg (tXfA X.K a cls d "word" (tVar 3)) (gName 1)), (.ref CN, fun a cls d => tAsg (tXfA X.K a cls d "word" (tVar 3)) (gName 1))])
      rfl rfl scWord.nd rfl rfl LamX.takes0 (fun W pn xe tk _ => ⟨fun pins s' σ H' D I h' => ?_⟩)
      (.cons ⟨rfl, by decide, .inl T.gE⟩ (fun a oe cls d pn hz hf => pss_one (ps_set (i := 1) scWord.nd rfl (.inl rfl) (pe_xfA hz hf (pv 3))))
      (.cons ⟨rfl, by decide, .inl T.gM⟩ (fun a oe cls d pn hz hf => pss_one (ps_set (i := 1) scWord.nd rfl (.inl rfl) (pe_xfA hz hf (pv 3))))
      (.cons ⟨rfl, by decide, .inl T.gN⟩ (fun a oe cls d pn hz hf => pss_one (ps_set (i := 1) scWord.nd rfl (.inl rfl) (pe_xfA hz hf (pv 3)))) .nil))))
    (pss_one (ps_ret (pe_tup (pa_cons (pv 2) (pa_cons (pv 1) pa_nil))))))), ?_⟩
  · obtain ⟨Ech, hW, h1, h2, h3⟩ := h'
    exact (pss_one (ps_set (i := 2) scWord.nd rfl (.inl rfl) (act σ W pn xe Ech _ _ tk hW))).run pins s' σ H' D I ⟨rfl, h1, h2, h3⟩
  · refine ⟨CatchW X.K CE CM Q, fun cls d H' hE => ?_, rfl, hc, ?_⟩
    · obtain ⟨C, dd, fs, wd, l, Fm, rfl, rfl, hd, hl, hQ⟩ := hE
      cases l with
      | false =>
        refine ⟨true, Fm.ce, fun _ a na => ?_, fun z => Bool.noConfusion z⟩
        exact ⟨C, Fm.x, Fm.nW, .ref a, rfl, rfl, rfl, dd, _, .str wd, rfl, hd, hl, .non, rfl, .str wd, rfl, sz_2 _ _, fun t nt => hQ t nt⟩
      | true =>
        refine ⟨false, Fm.ce, fun z => Bool.noConfusion z, fun _ => ⟨true, Fm.cm rfl, fun _ a na => ?_, fun z => Bool.noConfusion z⟩⟩
        exact ⟨C, Fm.x, Fm.nW, .ref a, rfl, rfl, rfl, dd, _, .str wd, rfl, hd, hl, .non, rfl, .str wd, rfl, sz_2 _ _, fun t nt => hQ t nt⟩
    · have e2 : (fun (v : V) (H' : Hp) => ∃ x2, ([some (.ref f), some (.str ""), some v, none] : L2.St)[2]? = some (some x2) ∧ ∃ x1, ([some (.ref f), some (.str ""), some v, none] : L2.St)[1]? = some (some x1) ∧ ([x2, x1].length ≤ sizeLine ∧ ∀ t, H' t = none → Q (.ref t) (upd H' t (.tup [x2, x1])))) =
          (fun (v : V) (H' : Hp) => ∀ t, H' t = none → Q (.ref t) (upd H' t (.tup [v, .str ""]))) := by
        funext v H'
        refine propext ⟨fun ⟨x2, h2, x1, h1, _, hq⟩ => ?_, fun hq => ⟨v, rfl, .str "", rfl, sz_2 _ _, hq⟩⟩
        cases Option.some.inj (Option.some.inj h2)
        cases Option.some.inj (Option.some.inj h1)
        exact hq
      have h' : tl (CatchW X.K CE CM Q) H (fun (v : V) (H' : Hp) => ∃ x2, ([some (.ref f), some (.str ""), some v, none] : L2.St)[2]? = some (some x2) ∧ ∃ x1, ([some (.ref f), some (.str ""), some v, none] : L2.St)[1]? = some (some x1) ∧ ([x2, x1].length ≤ sizeLine ∧ ∀ t, H' t = none → Q (.ref t) (upd H' t (.tup [x2, x1])))) := by
        rw [e2]
        exact h
      exact h'
/-- a refusal caught: what an ask that may be refused wants of E -/
theorem caught {K : PySem.W.Frag} {CE CM C : Addr} {wd : Str} {l : Bool} {H : Hp} {Q : VK} (Fm : FamW K CE CM C l) (q : ∀ H' t, Same H H' → H' t = some (.tup [.non, .str wd]) → Q (.ref t) H') : RefW C wd H (CatchW K CE CM Q) :=
  fun H' d fs s e hl => ⟨C, d, fs, wd, l, Fm, rfl, rfl, e, hl, fun t nt => q _ t (s.trans (same_new nt)) upd_same⟩
section
variable {P : Program} {w : World} {K : PySem.W.Frag} {mg : Str → Option Value} {base : Heap}
/-! ### _law_kind -/
def spKind (C : Addr) : Sp := fun vs H Q _ => ∃ (z : List Nat) (k : Int), vs = [.str (S z)] ∧ z.length ≤ 150 ∧ okT z = true ∧ flaw (rowsT z) = some k ∧ ∀ H', Same H H' → Q (.int k) H'
theorem ok_kind {f : Addr} {fd : FuncData} {CT C : Addr} (F : Fun K "_law_kind" "_law_kind" sKind f fd) (X : XfC K C) (nK : PySem.W.findIn K (.ref C) "kind" = some none) (gC : mg "BadLot" = some (.ref C)) (cc : PySem.W.exmOne K (.ref C) (.ref C) = some true) (CR : Cal P w K mg base (L2.CX P w) 4 "read_lot" ["text"] (spReadLot CT C)) : FnOk P w K mg base CX0 5 f fd ["_law_mtext"] (spKind C) := by
  obtain ⟨fR, fdR, GR, gR, kR, bR⟩ := CR.ex
  refine F.ok scKd (fun vs H Q E h => ?_) (fun cdv A outer s H vs Q E hr h => ?_)
  · obtain ⟨z, k, rfl, _⟩ := h
    rfl
  · obtain ⟨z, k, rfl, hz, hok, hfl, q⟩ := h
    refine ⟨_, pss_cons (ps_set (i := 1) scKd.nd rfl (.inl rfl) pe_str)
      (pss_cons (ps_try_manyA (i := 2) (n := "e") (tb := fun W D σ H => ∃ Ech : XK, (∀ cls d σ' H', Ech cls d H' → σ'.length = 3 → W cls d σ' H') ∧ σ[0]? = some (some (.str (S z))) ∧ spReadLot CT C [.str (S z)] H (fun _ H' => D.nx σ H') Ech) (Wout := fun _ _ _ _ => False)
            (l := [(.ref C, fun a cls d => tAsg (tXf a cls d C "kind" (tVar 2)) (gName 1))]) rfl rfl scKd.nd rfl rfl LamX.takes0 (fun W pn xe tk _ => ⟨fun pins s' σ H' D I h' => by
              obtain ⟨Ech, hW, h0, h1⟩ := h'
              exact (pss_one (ps_expr (pe_call (sp := spReadLot CT C) (E := Ech) GR (hr.mono (by decide)) (by rfl) gR kR bR .nil (passes_call (takes_len tk) hW) (pa_cons (pv 0) pa_nil)))).run pins s' σ H' D I ⟨.str (S z), h0, h1⟩⟩)
            (.cons ⟨rfl, by decide, .inl gC⟩ (fun a oe cls d pn hz hf => pss_one (ps_set (i := 1) scKd.nd rfl (.inl rfl) (pe_xf X nK hz hf (pv 2)))) .nil))
      (pss_one (ps_ret (pv 1)))), ?_⟩
    refine ⟨fun cls d H' => ∃ dd, d = some dd ∧ cls = .ref C ∧ Same H H' ∧ H' dd = some (.xd (exF "kind" "bad lot" (.int k))), fun cls d σ' H' hE hl => ?_, rfl, z, rfl, hz, (fun e => by rw [hok] at e; cases e), fun _ => ⟨fun k' hk' => ?_, fun e => by rw [hfl] at e; cases e⟩⟩
    · obtain ⟨dd, rfl, rfl, sm, hd⟩ := hE
      obtain ⟨x0, x1, x2, rfl⟩ : ∃ x0 x1 x2, σ' = [x0, x1, x2] := by
        match σ', hl with
        | [x0, x1, x2], _ => exact ⟨x0, x1, x2, rfl⟩
      refine ⟨true, cc, fun _ a na => ?_, fun z => Bool.noConfusion z⟩
      exact ⟨.ref a, rfl, rfl, rfl, dd, _, .int k, rfl, hd, rfl, .int k, rfl, q H' sm⟩
    · rw [hfl] at hk'
      cases hk'
      exact fun H' d s nd hd => ⟨d, rfl, rfl, s, hd⟩
end
end HL

set_option pp.maxSteps 600
set_option pp.deepTerms false
namespace HL
open PySem PySem.Spec PyProof.Rows L2
open C8 (pss_cut)
open SX (S S_len S_tl split_S join_S)
open LamX (GivesTo CodeO Tabs TabS TabB ExtN tLam pe_lamcall LamS lamS_by lamCx lamEnv codeO_ne)
abbrev NL : List Str := ["_law_script", "_law_feed_here", "_law_turn", "_law_lot_here", "_law_mtext", "_law_at", "_law_sign", "_law_words", "_law_spot", "_law_some", "_law_more", "_law_bent", "_law_due"]
theorem scLaw : FnScope NL ["_law_script"] (defScope sLaw) := ⟨rfl, rfl, rfl, by decide +kernel, rfl, by decide +kernel, by decide +kernel⟩
abbrev qLam : Str := ((Str.ofString "law" : Str) ++ (Str.ofString ".<locals>." : Str)) ++ (Str.ofString "<lambda>" : Str)
theorem good_flaw {g m : Int} {ll : List (List Int)} (g1 : 1 ≤ g) (g3 : g ≤ 3) (m6 : m ≤ 6) (h : GoodLot g m 5 ll) : flaw ll = none := by
  obtain ⟨h1, h2, h3⟩ := h
  have hw : width ll = g.toNat := by
    cases ll with
    | nil => simp at h1
    | cons r rs => exact (h3 r List.mem_cons_self).1
  unfold flaw
  rw [if_pos ⟨h1, h2, by omega, by omega⟩]
  exact flawIn_none fun j r hj hjr => by
    obtain ⟨e1, e2, e3⟩ := h3 r (List.mem_of_getElem? hjr)
    refine okRow_iff.mpr ⟨by rw [e1, hw], fun n hn => ?_, e3⟩
    have := e2 n hn
    omega
/-- f(k = v, ..) -/
theorem pe_kw0 {X : Cx} {CX : CXT} {k : Nat} {f : Addr} {fd : FuncData} {ps ks : List Str} {sp : Sp} {E : XK} {x : Str} {p pos : Pos} {kws : List Keyword} {tk : TA} {g : List Value → List Value → List Value} {gV : List V → List V → List V}
    (F : FnOk X.prog X.w X.K X.mg X.base CX k f fd ps sp) (hr : Room k X.A) (hg : Gl X x) (hm : X.mg x = some (.ref f)) (hk : PySem.W.keepIn X.K (.ref f) = true) (hb : KBn X.K fd ps 0 ks g gV) (hx : Passes CX X E) (hkw : PK X kws tk)
    (hall : (backToKw pos (keywordEach kws X.env)).all (·.1.isSome) = true := by rfl)
    (hks : (backToKw pos (keywordEach kws X.env)).filterMap (·.1) = ks := by rfl) (hdb : (x == ("__debug__" : Str)) = false := by decide)
    (hpl : ((backTo pos (starEach [] X.env)).any (·.1) || (backToKw pos (keywordEach kws X.env)).any (·.1.isNone)) = false := by rfl) : PE X (.Call (.Name x p) [] kws pos) (tCallN 0 ks.length sp gV E tNil tk) := by
  refine ⟨fun pins s σ H Q I h => wpAny_Call_Name_kw (ld_glob I hg hm ?_ hdb)⟩
  refine PySem.W.callWith_KW0 (h₀ := X.base) I.ok.mod.kin hk hall (thn (hkw.run pos pins s σ H _ I h) fun ws s2 ⟨zs, H2, I2, rz, l1, l2, q2⟩ => ⟨I2.kIn, ?_⟩) hpl
  rw [hks]
  exact run_fnN (us := []) (vs := []) F hr hb hx I2 .nil rz rfl l2 q2
theorem FeedAt.ext {c : Addr} {H H' : Hp} {f : Addr} (F : FeedAt c H f) (e : ExtN H H') : FeedAt c H' f := by
  obtain ⟨ns, i, b, m, n, h1, h2, h3⟩ := F
  exact ⟨ns, i, b, m, n, e _ _ h1 (fun ps z => by cases z), e _ _ h2 (fun ps z => by cases z), h3⟩
theorem IntsAt.ext {H H' : Hp} {p : Addr} {ns : List Int} (h : IntsAt H p ns) (e : ExtN H H') : IntsAt H' p ns := e _ _ h (fun ps z => by cases z)
theorem tabs_kp {T : List (Addr × Str)} {H H' : Hp} {f c : Addr} (t : Tabs T H) (F : FeedAt c H f) (k : Kp f H H') : Tabs T H' := fun p hp => by
  obtain ⟨ps, h1, h2, h3⟩ := t p hp
  obtain ⟨ns, i, b, m, n, g1, _⟩ := F
  refine ⟨ps, k _ _ (ne_of h1 g1 (fun z => by cases z)) h1, h2, fun pos cv hc => ?_⟩
  obtain ⟨c0, e1, e2⟩ := h3 pos cv hc
  refine ⟨c0, e1, k _ _ (ne_of e2 g1 (fun z => ?_)) e2⟩
  unfold CodeO at z
  cases z
theorem tabs_list {T : List (Addr × Str)} {H : Hp} {l : Addr} {xs ys : List V} (t : Tabs T H) (h : H l = some (.lst xs)) : Tabs T (upd H l (.lst ys)) := fun p hp => by
  obtain ⟨ps, h1, h2, h3⟩ := t p hp
  refine ⟨ps, by rw [upd_ne (ne_of h1 h (fun z => by cases z))]; exact h1, h2, fun pos cv hc => ?_⟩
  obtain ⟨c0, e1, e2⟩ := h3 pos cv hc
  refine ⟨c0, e1, ?_⟩
  rw [upd_ne (ne_of e2 h (fun z => ?_))]
  · exact e2
  · unfold CodeO at z
    cases z
theorem str_len (x y : Str) : (x ++ y).length = x.length + y.length := by
  show (x.cps ++ y.cps).size = _
  rw [Array.size_append]
  rfl
theorem eqd_tup {H : Hp} {a b : Addr} {xs : List V} {d : Nat} (ha : H a = some (.tup xs)) (hb : H b = some (.tup xs)) (hz : xs.length ≤ 1000) (hl : ∀ x ∈ xs, leafV x = true) : Eqd H (d + 1) (.ref a) (.ref b) := by
  refine .inr ⟨a, b, xs, xs, rfl, rfl, .inr ⟨ha, hb⟩, rfl, hz, fun i x y h1 h2 => ?_⟩
  rw [h1] at h2
  cases h2
  have hx := hl x (List.mem_of_getElem? h1)
  cases d with
  | zero => exact ⟨rfl, hx⟩
  | succ d => exact .inl ⟨rfl, hx⟩
theorem eqd_lot {H : Hp} {a b : Addr} {ll : List (List Int)} (ha : LotAt H a ll) (hb : LotAt H b ll) (hz : ll.length ≤ 1000) (hr : ∀ r ∈ ll, r.length ≤ 1000) : Eqd H 2 (.ref a) (.ref b) := by
  obtain ⟨as, a1, ra⟩ := ha
  obtain ⟨bs, b1, rb⟩ := hb
  refine .inr ⟨a, b, _, _, rfl, rfl, .inr ⟨a1, b1⟩, by rw [List.length_map, List.length_map, ra.len, rb.len], by rw [List.length_map, ra.len]; exact hz, fun i x y h1 h2 => ?_⟩
  rw [List.getElem?_map] at h1 h2
  cases e1 : as[i]? with
  | none => rw [e1] at h1; cases h1
  | some x1 =>
    cases e2 : bs[i]? with
    | none => rw [e2] at h2; cases h2
    | some y1 =>
      rw [e1] at h1
      rw [e2] at h2
      cases Option.some.inj h1
      cases Option.some.inj h2
      obtain ⟨r, g1, g2⟩ := ra.at e1
      obtain ⟨r', g3, g4⟩ := rb.at e2
      cases (g1.symm.trans g3)
      exact eqd_tup g2 g4 (by rw [List.length_map]; exact hr r (List.mem_of_getElem? g1)) fun x hx => by
        obtain ⟨n, _, rfl⟩ := List.mem_map.mp hx
        rfl
theorem eqd_two {H : Hp} {a b : Addr} {x1 x2 y1 y2 : V} {d : Nat} (h : (H a = some (.lst [x1, x2]) ∧ H b = some (.lst [y1, y2])) ∨ (H a = some (.tup [x1, x2]) ∧ H b = some (.tup [y1, y2]))) (e1 : Eqd H d x1 y1) (e2 : Eqd H d x2 y2) : Eqd H (d + 1) (.ref a) (.ref b) := by
  refine .inr ⟨a, b, _, _, rfl, rfl, h, rfl, (by show 2 ≤ 1000; decide), fun i x y h1 h2 => ?_⟩
  match i, h1, h2 with
  | 0, h1, h2 => cases Option.some.inj h1; cases Option.some.inj h2; exact e1
  | 1, h1, h2 => cases Option.some.inj h1; cases Option.some.inj h2; exact e2
  | i + 2, h1, h2 => simp at h1
theorem eqd_leaf {H : Hp} {d : Nat} {x : V} (h : leafV x = true) : Eqd H d x x := by
  cases d with
  | zero => exact ⟨rfl, h⟩
  | succ d => exact .inl ⟨rfl, h⟩
/-! ### words of a text -/
def wv (ws : List (List Nat)) : List V := ws.map fun u => V.str (S u)
theorem wr_one {n : Int} (h0 : 0 ≤ n) (h6 : n ≤ 6) : (wr n).length = 1 := by
  obtain ⟨k, rfl⟩ : ∃ k : Nat, n = (k : Int) := ⟨n.toNat, by omega⟩
  have : k = 0 ∨ k = 1 ∨ k = 2 ∨ k = 3 ∨ k = 4 ∨ k = 5 ∨ k = 6 := by omega
  rcases this with h | h | h | h | h | h | h <;> subst h <;> decide +kernel
theorem lot_short {ll : List (List Int)} (h : flaw ll = none) : (∀ r ∈ ll, (rowL r).length ≤ 6) ∧ (lotL ll).length ≤ 35 := by
  have h0 := flaw_ok h
  have hr := flaw_rows h
  have h6 : ∀ r ∈ ll, (rowL r).length ≤ 6 := fun r hr' => by
    have hl := hr r hr'
    have := joinL_len (ps := r.map wr) (k := 1) fun p hp => by
      obtain ⟨n, hn, rfl⟩ := List.mem_map.mp hp
      rw [wr_one (hl.2 n hn).1 (hl.2 n hn).2]
      exact Nat.le_refl _
    rw [List.length_map] at this
    have e := hl.1
    show (TL.joinL [44] (r.map wr)).length ≤ 6
    omega
  refine ⟨h6, ?_⟩
  have := joinB_len (ps := ll.map rowL) (k := 6) fun p hp => by
    obtain ⟨r, hr', rfl⟩ := List.mem_map.mp hp
    exact h6 r hr'
  rw [List.length_map] at this
  show (TL.joinL [32] (ll.map rowL)).length ≤ 35
  omega
/-- short words, few of them -/
def Few (k : Nat) (ws : List (List Nat)) : Prop := ws.length ≤ k ∧ ∀ u ∈ ws, u.length ≤ 6
theorem Few.cut {k : Nat} {ws : List (List Nat)} (h : Few k ws) (n m : Nat) : Few k ((ws.drop n).take m) := ⟨Nat.le_trans (len_cut ws n m) h.1, fun u hu => h.2 u (mem_cut hu)⟩
theorem Few.app {j k : Nat} {ws us : List (List Nat)} (h : Few j ws) (g : Few k us) : Few (j + k) (ws ++ us) := ⟨by rw [List.length_append]; have := h.1; have := g.1; omega, fun u hu => by
  rcases List.mem_append.mp hu with hu | hu
  · exact h.2 u hu
  · exact g.2 u hu⟩
theorem few_join {k : Nat} {ws : List (List Nat)} (h : Few k ws) (hk : k ≤ 15) : (((ws.map S).map (·.length)).sum + (ws.map S).length * (Str.ofString " ").length ≤ 16777216) ∧ (Txt.join (Str.ofString " ") (ws.map S)).length ≤ 150 := by
  have e1 : (Str.ofString " ").length = 1 := by rw [st_blank, S_len]; rfl
  constructor
  · rw [e1, List.length_map]
    have key : ∀ ms : List (List Nat), (∀ u ∈ ms, u.length ≤ 6) → ((ms.map S).map (·.length)).sum ≤ ms.length * 6 := by
      intro ms
      induction ms with
      | nil => intro _; exact Nat.le_refl _
      | cons m ms ih =>
        intro hm
        have h1 := hm m List.mem_cons_self
        have h2 := ih fun n hn => hm n (List.mem_cons_of_mem _ hn)
        rw [List.map_cons, List.map_cons, List.sum_cons, List.length_cons, S_len, Nat.succ_mul]
        omega
    have := key ws h.2
    have := h.1
    omega
  · rw [st_blank, join_S, S_len]
    have := joinB_len (ps := ws) (k := 6) h.2
    have h1 := h.1
    have : ws.length * (6 + 1) ≤ 15 * 7 := Nat.mul_le_mul (by omega) (Nat.le_refl _)
    omega
/-- what the law knows of the heap -/
structure S6 (cf fe Pt : Addr) (H : Hp) : Prop where
  F : FeedAt cf H fe
  T : Tabs [(Pt, qLam)] H
section
variable {cf fe Pt : Addr} {H H' : Hp}
theorem S6.same (x : S6 cf fe Pt H) (s : Same H H') : S6 cf fe Pt H' := ⟨x.F.same s, x.T.ext s⟩
theorem S6.ext (x : S6 cf fe Pt H) (s : ExtN H H') (t : Tabs [(Pt, qLam)] H') : S6 cf fe Pt H' := ⟨x.F.ext s, t⟩
theorem S6.kp (x : S6 cf fe Pt H) (k : Kp fe H H') (F : FeedAt cf H' fe) : S6 cf fe Pt H' := ⟨F, tabs_kp x.T x.F k⟩
theorem S6.put {l' : Addr} {xs ys : List V} (x : S6 cf fe Pt H) (h : H l' = some (.lst xs)) (n1 : l' ≠ fe) (n2 : l' ≠ cf) : S6 cf fe Pt (upd H l' (.lst ys)) := ⟨x.F.put n1 n2, tabs_list x.T h⟩
end
/-- the texts that are bent: a list of its own -/
structure SomeAt (cf fe l : Addr) (xs : List Str) (H : Hp) : Prop where
  at_ : H l = some (.lst (xs.map V.str))
  n1 : l ≠ fe
  n2 : l ≠ cf
  short : ∀ x ∈ xs, x.length ≤ 150
theorem SomeAt.same {cf fe l : Addr} {xs : List Str} {H H' : Hp} (h : SomeAt cf fe l xs H) (s : Same H H') : SomeAt cf fe l xs H' := ⟨s _ _ h.at_, h.n1, h.n2, h.short⟩
theorem SomeAt.kp {cf fe l : Addr} {xs : List Str} {H H' : Hp} (h : SomeAt cf fe l xs H) (k : Kp fe H H') : SomeAt cf fe l xs H' := ⟨k _ _ h.n1 h.at_, h.n1, h.n2, h.short⟩
theorem SomeAt.more {cf fe l : Addr} {xs : List Str} {x : Str} {H : Hp} (h : SomeAt cf fe l xs H) (hx : x.length ≤ 150) : SomeAt cf fe l (xs ++ [x]) (upd H l (.lst (xs.map V.str ++ [.str x]))) := ⟨by rw [upd_same, List.map_append]; rfl, h.n1, h.n2, fun y hy => by
  rcases List.mem_append.mp hy with hy | hy
  · exact h.short y hy
  · rw [List.mem_singleton.mp hy]; exact hx⟩
def DueAt (H : Hp) (t : Addr) (z : List Nat) : Prop := (okT z = false ∧ H t = some (.tup [.non, .str "bad text"])) ∨ (okT z = true ∧ ((flaw (rowsT z) ≠ none ∧ H t = some (.tup [.non, .str "bad lot"])) ∨ (flaw (rowsT z) = none ∧ ∃ p, H t = some (.tup [.ref p, .str ""]) ∧ LotAt H p (rowsT z))))
theorem DueAt.mono {H H' : Hp} {t : Addr} {z : List Nat} (h : DueAt H t z) (k : ∀ a xs, H a = some (.tup xs) → H' a = some (.tup xs)) : DueAt H' t z := by
  rcases h with ⟨e, h⟩ | ⟨e, ⟨n, h⟩ | ⟨n, p, h, as, g1, g2⟩⟩
  · exact .inl ⟨e, k _ _ h⟩
  · exact .inr ⟨e, .inl ⟨n, k _ _ h⟩⟩
  · exact .inr ⟨e, .inr ⟨n, p, k _ _ h, as, k _ _ g1, g2.mono k⟩⟩
theorem two_leaf {wd : Str} : ∀ x ∈ [V.non, V.str wd], leafV x = true := fun x hx => by
  rcases List.mem_cons.mp hx with h | h
  · rw [h]; rfl
  · rw [List.mem_singleton.mp h]; rfl
/-- all that the law takes from the module -/
structure Txt (P : Program) (w : World) (K : PySem.W.Frag) (mg : Str → Option Value) (base : Heap) (CT C CE CMi CN : Addr) : Prop where
  B : Bl mg
  feed : Cal P w K mg base CX0 1 "_law_feed" ["_law_script"] (spFeed K)
  draw : Cal P w K mg base CX0 1 "_law_draw" ["_law_feed_here", "_law_many"] spDraw
  pick : Cal P w K mg base CX0 2 "_law_pick" ["_law_feed_here", "_law_row"] spPick
  same3 : Cal P w K mg base CX0 4 "_law_same" ["_law_found", "_law_due"] (spSame 3)
  any : Cal P w K mg base CX0 4 "_law_any_lot" ["_law_feed_here"] spAny
  lt : Cal P w K mg base CX0 2 "_law_lot_text" ["_law_lot_here"] spLotTextL
  rd : Cal P w K mg base CX0 2 "_law_read" ["_law_mtext"] spRead
  kd : Cal P w K mg base CX0 5 "_law_kind" ["_law_mtext"] (spKind C)
  fw : Cal P w K mg base CX0 1 "_law_flaw" ["_law_mtext"] spFlaw
  lot : Cal P w K mg base (L2.CX P w) 4 "lot_text" ["lot"] (spLotText C)
  rl : ∃ (f : Addr) (fd : FuncData), FnOk P w K mg base (L2.CX P w) 4 f fd ["text"] (spReadLot CT C) ∧ mg "read_lot" = some (.ref f) ∧ PySem.W.keepIn K (.ref f) = true ∧ L2.Binds K fd ["text"] [] ∧ KBn K fd ["text"] 0 ["text"] (fun _ ws => ws) (fun _ zs => zs)
  word : ∃ (g : Addr) (oc : Value) (od : Option Addr) (kV doc pm : Value) (an : Option Addr) (cdv ct : Value) (osl : Array (Option Value)), mg "_law_word" = some (.ref g) ∧ PySem.W.keepIn K (.ref g) = true ∧
    K.lookup g = some ⟨oc, od, .func (PySem.W.fnOf "_law_word" "_law_word" (defArgs sWord) (defBody sWord) (defScope sWord) .none kV doc pm an cdv ct), osl⟩ ∧ PySem.W.codeIn K cdv "_law_word" = true ∧
    L2.Binds K (PySem.W.fnOf "_law_word" "_law_word" (defArgs sWord) (defBody sWord) (defScope sWord) .none kV doc pm an cdv ct) ["_law_ask"] []
  cls : ClsW mg CE CMi CN
  fT : FamW K CE CMi CT false
  fC : FamW K CE CMi C false
section
variable {P : Program} {w : World} {K : PySem.W.Frag} {mg : Str → Option Value} {base : Heap}
def spLaw (K : PySem.W.Frag) (Pt : Addr) : Sp := fun vs H Q _ => ∃ (a : Addr) (ns : List Int), vs = [.ref a] ∧ SqL K H a (ns.map V.int) ∧ ns.length ≤ 63 ∧ Tabs [(Pt, qLam)] H ∧ ∀ H', Q (.bl true) H'
theorem ok_law {f CT C CE CMi CN c Pt : Addr} {oc : Value} {od : Option Addr} {kV doc pm : Value} {an : Option Addr} {ct : Value} {osl : Array (Option Value)}
    (lk : K.lookup f = some ⟨oc, od, .func (PySem.W.fnOf "law" "law" (defArgs sLaw) (defBody sLaw) (defScope sLaw) .none kV doc pm an (.ref c) ct), osl⟩) (hcd : PySem.W.codeIn K (.ref c) "law" = true) (T : Txt P w K mg base CT C CE CMi CN) (TB : TabB base mg c Pt) :
    FnOk P w K mg base CX0 9 f (PySem.W.fnOf "law" "law" (defArgs sLaw) (defBody sLaw) (defScope sLaw) .none kV doc pm an (.ref c) ct) ["_law_script"] (spLaw K Pt) := by
  have B := T.B
  obtain ⟨fF, fdF, GF, gF, kF, bF⟩ := T.feed.ex
  obtain ⟨fD, fdD, GD, gD, kD, bD⟩ := T.draw.ex
  obtain ⟨fP, fdP, GP, gP, kP, bP⟩ := T.pick.ex
  obtain ⟨fS, fdS, GS, gS, kS, bS⟩ := T.same3.ex
  obtain ⟨fA, fdA, GA, gA, kA, bA⟩ := T.any.ex
  obtain ⟨fLT, fdLT, GLT, gLT, kLT, bLT⟩ := T.lt.ex
  obtain ⟨fRd, fdRd, GRd, gRd, kRd, bRd⟩ := T.rd.ex
  obtain ⟨fKd, fdKd, GKd, gKd, kKd, bKd⟩ := T.kd.ex
  obtain ⟨fFw, fdFw, GFw, gFw, kFw, bFw⟩ := T.fw.ex
  obtain ⟨fLt, fdLt, GLt, gLt, kLt, bLt⟩ := T.lot.ex
  obtain ⟨fRl, fdRl, GRl, gRl, kRl, bRl, kb1⟩ := T.rl
  obtain ⟨gT, toc, tod, tkV, tdoc, tpm, tan, tcdv, tct, tosl, gW, kW, lkW, cdW, bW⟩ := T.word
  refine fn_of lk hcd scLaw (fun vs H Q E h => ?_) fun A outer s H vs Q E hr h => ?_
  · obtain ⟨a, ns, rfl, _⟩ := h
    rfl
  · obtain ⟨a, ns, rfl, hS, hlen, hT, q⟩ := h
    have tl : ∀ {X : Cx} (eK : X.K = K) (em : X.mg = mg) {q : Str} {cdg : Value} {g : Addr}, AsksOf X NW "_law_word" (defScope sWord) g cdg (defBody sWord) "_law_ask" q (TTw K CE CMi) := fun {X} eK em {q cdg g} => by
      subst eK em
      exact word_gives T.cls
    have build : ∃ t, PSs (cxOf CX0 P w K mg base NL "law" (defScope sLaw) f (.ref c) A outer s H E).nox (defBody sLaw) t ∧ t { nx := fun _ H' => Q .non H', rt := Q } (L2.start NL [.ref a]) H := by
      refine ⟨_, (pss_cons (ps_set (i := 1) scLaw.nd rfl (.inl rfl) (pe_call GF (hr.mono (by decide)) (by rfl) gF kF bF .nil pass0 (pa_cons (pv 0) pa_nil)))
      (pss_cut (ps_for PassesOwn.never rfl (pi_range1 (by rfl) B.range (pa_cons pe_int pa_nil)) (pg_name (i := 2) scLaw.nd rfl (.inl rfl))
      (pss_cons (ps_set (i := 3) scLaw.nd rfl (.inl rfl) (pe_call GA (hr.mono (by decide)) (by rfl) gA kA bA .nil pass0 (pa_cons (pv 1) pa_nil)))
      (pss_cut (ps_set (i := 4) scLaw.nd rfl (.inl rfl) (pe_call GLT (hr.mono (by decide)) (by rfl) gLT kLT bLT .nil pass0 (pa_cons (pv 3) pa_nil)))
      (pss_cut (ps_if (pt_not (pt_val (pe_call GS (hr.mono (by decide)) (by rfl) gS kS bS .nil pass0 (pa_cons (pe_lst (pa_cons (pe_call GLt (hr.mono (by decide)) (by rfl) gLt kLt bLt .nil passL (pa_cons (pv 3) pa_nil)) (pa_cons (pe_call GRl (hr.mono (by decide)) (by rfl) gRl kRl bRl .nil passL (pa_cons (pv 4) pa_nil)) pa_nil))) (pa_cons (pe_lst (pa_cons (pv 4) (pa_cons (pv 3) pa_nil))) pa_nil))))) pss_never pss_nil)
      (pss_cut (ps_set (i := 5) scLaw.nd rfl (.inl rfl) (pe_call GD (hr.mono (by decide)) (by rfl) gD kD bD .nil pass0 (pa_cons (pv 1) (pa_cons (pe_op op_add (pe_callB call_len_str (by rfl) B.len PySem.boot_len (pa_cons (pv 4) pa_nil)) pe_int) pa_nil))))
      (pss_cut (ps_set (i := 6) scLaw.nd rfl (.inl rfl) (pe_call GP (hr.mono (by decide)) (by rfl) gP kP bP .nil pass0 (pa_cons (pv 1) (pa_cons (pe_lst (pa_cons pe_str (pa_cons pe_str (pa_cons pe_str (pa_cons pe_str (pa_cons pe_str (pa_cons pe_str (pa_cons pe_str pa_nil)))))))) pa_nil))))
      (pss_cut (ps_set (i := 7) scLaw.nd rfl (.inl rfl) (pe_split (pv 4) pe_str))
      (pss_cut (ps_set (i := 8) scLaw.nd rfl (.inl rfl) (pe_call GD (hr.mono (by decide)) (by rfl) gD kD bD .nil pass0 (pa_cons (pv 1) (pa_cons (pe_callB call_len_seq (by rfl) B.len PySem.boot_len (pa_cons (pv 7) pa_nil)) pa_nil))))
      (pss_cut (ps_set (i := 9) scLaw.nd rfl (.inl rfl) (pe_lst (pa_cons (pe_op op_add_str (pe_op op_add_str (pe_slice sl_str (pv 4) po_none (po_some (pv 5))) (pv 6)) (pe_slice sl_str (pv 4) (po_some (pv 5)) po_none)) (pa_cons (pe_op op_add_str (pe_slice sl_str (pv 4) po_none (po_some (pv 5))) (pe_slice sl_str (pv 4) (po_some (pe_op op_add (pv 5) pe_int)) po_none)) pa_nil))))
      (pss_cut (ps_expr (pe_bm PySem.F.plainAttrs_list PySem.F.slot_list_append PySem.F.type_list_append mt_append (pv 9) (pa_cons (pe_op op_add_str (pe_op op_add_str (pe_slice sl_str (pv 4) po_none (po_some (pv 5))) (pv 6)) (pe_slice sl_str (pv 4) (po_some (pe_op op_add (pv 5) pe_int)) po_none)) pa_nil)))
      (pss_cut (ps_set (i := 10) scLaw.nd rfl (.inl rfl) (pe_op op_cat (pe_slice sl_list (pv 7) po_none (po_some (pv 8))) (pe_slice sl_list (pv 7) (po_some (pv 8)) (po_some (pe_op op_add (pv 8) pe_int)))))
      (pss_cut (ps_expr (pe_bm PySem.F.plainAttrs_list PySem.F.slot_list_append PySem.F.type_list_append mt_append (pv 9) (pa_cons (pe_join pe_str (pe_op op_cat (pv 10) (pe_slice sl_list (pv 7) (po_some (pv 8)) po_none))) pa_nil)))
      (pss_cut (ps_expr (pe_bm PySem.F.plainAttrs_list PySem.F.slot_list_append PySem.F.type_list_append mt_append (pv 9) (pa_cons (pe_join pe_str (pe_op op_cat (pe_slice sl_list (pv 7) po_none (po_some (pv 8))) (pe_slice sl_list (pv 7) (po_some (pe_op op_add (pv 8) pe_int)) po_none))) pa_nil)))
      (pss_cut (ps_expr (pe_bm PySem.F.plainAttrs_list PySem.F.slot_list_append PySem.F.type_list_append mt_append (pv 9) (pa_cons (pe_join pe_str (pe_revL (pv 7))) pa_nil)))
      (pss_cut (ps_set (i := 11) scLaw.nd rfl (.inr rfl) (pe_ix ix_list (pv 9) (pe_call GD (hr.mono (by decide)) (by rfl) gD kD bD .nil pass0 (pa_cons (pv 1) (pa_cons pe_int pa_nil))) (fun _ _ => rfl)))
      (pss_cut (ps_set (i := 12) scLaw.nd rfl (.inl rfl) (pe_call GRd (hr.mono (by decide)) (by rfl) gRd kRd bRd .nil pass0 (pa_cons (pv 11) pa_nil)))
      (pss_cut (ps_if (pt_not (pt_val (pe_call GS (hr.mono (by decide)) (by rfl) gS kS bS .nil pass0 (pa_cons (pe_askcall (k := 6) (T := [(Pt, qLam)]) (TT := TTw K CE CMi) (t := (fun E => tCallN 0 (["text"] : List Str).length (spReadLot CT C) (fun _ zs => zs) E tNil (tCons (tVar 11) tNil))) (by rfl) gW kW lkW cdW bW scWord rfl (.inl rfl) (tl rfl rfl) TB rfl List.mem_cons_self (fun p hp _ => by rw [List.mem_singleton.mp hp]; rfl) hr (lamS_by (sc := defScope sLaw) (by decide +kernel)) rfl (fun _ _ _ _ _ => rfl)
              (fun A outer s H E f c' hr2 => pe_kw0 GRl (hr2.mono (by decide)) (by rfl) gRl kRl kb1 (passes_call (takes_of rfl rfl rfl rfl) (fun _ _ _ _ h => h)) (pk_cons (pv 11) pk_nil))) (pa_cons (pv 12) pa_nil))))) pss_never pss_nil)
      (pss_one (ps_if (PW.pt (pw_and (pt_cmpR op_eq (pe_ix ix_tup (pv 12) pe_int (fun _ _ => rfl)) pe_str (nomark _)) (pw_and1 (pt_not (pt_val (pe_call GS (hr.mono (by decide)) (by rfl) gS kS bS .nil pass0 (pa_cons (pe_call GKd (hr.mono (by decide)) (by rfl) gKd kKd bKd .nil pass0 (pa_cons (pv 11) pa_nil)) (pa_cons (pe_call GFw (hr.mono (by decide)) (by rfl) gFw kFw bFw .nil pass0 (pa_cons (pv 11) pa_nil)) pa_nil)))))))) pss_never pss_nil)))))))))))))))))))
      (pss_cut (ps_set (i := 7) scLaw.nd rfl (.inl rfl) (pe_lst (pa_cons (pe_askcall (k := 6) (T := [(Pt, qLam)]) (TT := TTw K CE CMi) (t := (fun E => tCall (spReadLot CT C) [] E (tCons (tC (.str "1 1 1 1 1 1 x")) tNil))) (by rfl) gW kW lkW cdW bW scWord rfl (.inl rfl) (tl rfl rfl) TB rfl List.mem_cons_self (fun p hp _ => by rw [List.mem_singleton.mp hp]; rfl) hr (lamS_by (sc := defScope sLaw) (by decide +kernel)) rfl (fun _ _ _ _ _ => rfl)
              (fun A outer s H E f c' hr2 => pe_call GRl (hr2.mono (by decide)) (by rfl) gRl kRl bRl .nil (passes_call (takes_of rfl rfl rfl rfl) (fun _ _ _ _ h => h)) (pa_cons pe_str pa_nil))) pa_nil)))
      (pss_cut (ps_expr (pe_bm PySem.F.plainAttrs_list PySem.F.slot_list_append PySem.F.type_list_append mt_append (pv 7) (pa_cons (pe_askcall (k := 6) (T := [(Pt, qLam)]) (TT := TTw K CE CMi) (t := (fun E => tCall (spReadLot CT C) [] E (tCons (tC (.str "7 0,")) tNil))) (by rfl) gW kW lkW cdW bW scWord rfl (.inl rfl) (tl rfl rfl) TB rfl List.mem_cons_self (fun p hp _ => by rw [List.mem_singleton.mp hp]; rfl) hr (lamS_by (sc := defScope sLaw) (by decide +kernel)) rfl (fun _ _ _ _ _ => rfl)
              (fun A outer s H E f c' hr2 => pe_call GRl (hr2.mono (by decide)) (by rfl) gRl kRl bRl .nil (passes_call (takes_of rfl rfl rfl rfl) (fun _ _ _ _ h => h)) (pa_cons pe_str pa_nil))) pa_nil)))
      (pss_cut (ps_expr (pe_bm PySem.F.plainAttrs_list PySem.F.slot_list_append PySem.F.type_list_append mt_append (pv 7) (pa_cons (pe_askcall (k := 6) (T := [(Pt, qLam)]) (TT := TTw K CE CMi) (t := (fun E => tCall (spReadLot CT C) [] E (tCons (tC (.str "0 -0")) tNil))) (by rfl) gW kW lkW cdW bW scWord rfl (.inl rfl) (tl rfl rfl) TB rfl List.mem_cons_self (fun p hp _ => by rw [List.mem_singleton.mp hp]; rfl) hr (lamS_by (sc := defScope sLaw) (by decide +kernel)) rfl (fun _ _ _ _ _ => rfl)
              (fun A outer s H E f c' hr2 => pe_call GRl (hr2.mono (by decide)) (by rfl) gRl kRl bRl .nil (passes_call (takes_of rfl rfl rfl rfl) (fun _ _ _ _ h => h)) (pa_cons pe_str pa_nil))) pa_nil)))
      (pss_one (ps_ret (pe_and (pe_cmpR (op_eqD hr.units) (pv 7) (pe_op op_rep (pe_lst (pa_cons (pe_tup (pa_cons pe_non (pa_cons pe_str pa_nil))) pa_nil)) pe_int) (nomark _)) (pe_one (pe_cmpR (op_eqD hr.units) (pe_askcall (k := 6) (T := [(Pt, qLam)]) (TT := TTw K CE CMi) (t := (fun E => tCall (spLotText C) [] E (tCons (tTup (tCons (tTup (tCons (tC (.int 0)) tNil)) tNil)) tNil))) (by rfl) gW kW lkW cdW bW scWord rfl (.inl rfl) (tl rfl rfl) TB rfl List.mem_cons_self (fun p hp _ => by rw [List.mem_singleton.mp hp]; rfl) hr (lamS_by (sc := defScope sLaw) (by decide +kernel)) rfl (fun _ _ _ _ _ => rfl)
              (fun A outer s H E f c' hr2 => pe_call GLt (hr2.mono (by decide)) (by rfl) gLt kLt bLt .nil (passes_call (takes_of rfl rfl rfl rfl) (fun _ _ _ _ h => h)) (pa_cons (pe_tup (pa_cons (pe_tup (pa_cons pe_int pa_nil)) pa_nil)) pa_nil))) (pe_tup (pa_cons pe_non (pa_cons pe_str pa_nil))) (nomark _))))))))))), ?_⟩
      refine ⟨.ref a, rfl, a, ns, rfl, hS, hlen, fun H1 fe cf s1 nf F1 => ?_⟩
      refine ⟨fun σ' H' => (∃ y2 y3 y4 y5 y6 y7 y8 y9 y10 y11 y12, σ' = [some (.ref a), some (.ref fe), y2, y3, y4, y5, y6, y7, y8, y9, y10, y11, y12]) ∧ S6 cf fe Pt H', ?_, ?_⟩
      · refine ⟨5, rfl, by decide, by decide, ?_⟩
        refine for_range (lo := 0) (n := 5) (fun i σ' H' => (∃ y2 y3 y4 y5 y6 y7 y8 y9 y10 y11 y12, σ' = [some (.ref a), some (.ref fe), y2, y3, y4, y5, y6, y7, y8, y9, y10, y11, y12]) ∧ S6 cf fe Pt H') ⟨⟨_, _, _, _, _, _, _, _, _, _, _, rfl⟩, F1, hT.ext s1⟩ (fun i σ H2 hi hI => ?_) (fun σ H2 hI => hI)
        obtain ⟨⟨y2, y3, y4, y5, y6, y7, y8, y9, y10, y11, y12, rfl⟩, X2⟩ := hI
        refine ⟨.ref fe, rfl, fe, cf, rfl, X2.F, fun H3 p ll g m k3 F3 np hL3 g1 g2 m1 m2 gl => ?_⟩
        have X3 := X2.kp k3 F3
        have ef := good_flaw g1 g2 m2 gl
        have hok := flaw_ok ef
        have hrw := flaw_rows ef
        obtain ⟨sh1, sh2⟩ := lot_short ef
        have hsm : ∀ r ∈ ll, r.length ≤ 100 ∧ SmallN r := fun r hr => ⟨by rw [(hrw r hr).1]; omega, small_rows (flaw_rowsT ef) r hr⟩
        have hne : ll ≠ [] := fun e => by rw [e] at hok; exact absurd hok.1 (by decide)
        have hrn : ∀ r ∈ ll, r ≠ [] := fun r hr e => by
          have := (hrw r hr).1
          rw [e] at this
          have := hok.2.2.1
          simp at *
          omega
        obtain ⟨ok1, rw1⟩ := rows_there hne hrn (fun r hr => (hsm r hr).2)
        have hr1000 : ∀ r ∈ ll, r.length ≤ 1000 := fun r hr => by have := (hsm r hr).1; omega
        have hsl : (S (lotL ll)).length ≤ sizeLine := by rw [S_len]; exact sz1000 (by omega)
        -- written
        refine ⟨fun σ' H' => (∃ y2 y5 y6 y7 y8 y9 y10 y11 y12, σ' = [some (.ref a), some (.ref fe), y2, some (.ref p), some (.str (S (lotL ll))), y5, y6, y7, y8, y9, y10, y11, y12]) ∧ S6 cf fe Pt H' ∧ LotAt H' p ll, ?_, ?_⟩
        · exact ⟨.ref p, rfl, p, ll, rfl, hL3, by omega, hsm, fun H4 s4 => ⟨⟨_, _, _, _, _, _, _, _, _, rfl⟩, X3.same s4, hL3.same s4⟩⟩
        clear X3
        rintro σ' H4 ⟨⟨y2, y5, y6, y7, y8, y9, y10, y11, y12, rfl⟩, X4, L4⟩
        -- there and back
        refine ⟨fun σ' H' => (∃ y2 y3 y5 y6 y7 y8 y9 y10 y11 y12, σ' = [some (.ref a), some (.ref fe), y2, y3, some (.str (S (lotL ll))), y5, y6, y7, y8, y9, y10, y11, y12]) ∧ S6 cf fe Pt H', ?_, ?_⟩
        · refine ⟨.ref p, rfl, p, ll, rfl, L4, by omega, fun r hr => (hsm r hr).1, fun _ H5 s5 => ?_, fun k hk => by rw [ef] at hk; cases hk⟩
          refine ⟨_, rfl, lotL ll, rfl, by omega, (fun e => by rw [ok1] at e; cases e), fun _ => ⟨(fun k hk => by rw [rw1, ef] at hk; cases hk), fun _ H6 t s6 hLt => ?_⟩⟩
          rw [rw1] at hLt
          refine ⟨sz_2 _ _, fun l1 nl1 => ⟨_, rfl, .ref p, rfl, sz_2 _ _, fun l2 nl2 => ?_⟩⟩
          have n1 := same_new (o := .lst [.str (S (lotL ll)), .ref t]) nl1
          have n2 := same_new (o := .lst [.str (S (lotL ll)), .ref p]) nl2
          have n12 := n1.trans n2
          have sa := s5.trans (s6.trans n12)
          exact ⟨.ref l1, .ref l2, rfl, eqd_two (.inl ⟨n2 _ _ upd_same, upd_same⟩) (eqd_leaf rfl) (eqd_lot (hLt.same n12) (L4.same sa) (by omega) hr1000), fun H9 s9 => ⟨_, rfl, iteF ⟨⟨_, _, _, _, _, _, _, _, _, _, rfl⟩, X4.same (sa.trans s9)⟩⟩⟩
        clear X4 L4
        rintro σ' H4 ⟨⟨y2, y3, y5, y6, y7, y8, y9, y10, y11, y12, rfl⟩, X4⟩
        -- at a place
        refine ⟨fun σ' H' => ∃ at_ : Int, (∃ y2 y3 y6 y7 y8 y9 y10 y11 y12, σ' = [some (.ref a), some (.ref fe), y2, y3, some (.str (S (lotL ll))), some (.int at_), y6, y7, y8, y9, y10, y11, y12]) ∧ S6 cf fe Pt H', ?_, ?_⟩
        · refine ⟨.ref fe, rfl, .str (S (lotL ll)), rfl, S (lotL ll), rfl, hsl, _, 1, rfl, rfl, fe, cf, _, rfl, by omega, by rw [S_len]; omega, X4.F, fun at_ H5 a0 a1 k5 F5 => ⟨at_, ⟨_, _, _, _, _, _, _, _, _, rfl⟩, X4.kp k5 F5⟩⟩
        clear X4
        rintro σ' H4 ⟨at_, ⟨y2, y3, y6, y7, y8, y9, y10, y11, y12, rfl⟩, X4⟩
        -- a sign
        refine ⟨fun σ' H' => ∃ sg : Str, (∃ y2 y3 y7 y8 y9 y10 y11 y12, σ' = [some (.ref a), some (.ref fe), y2, y3, some (.str (S (lotL ll))), some (.int at_), some (.str sg), y7, y8, y9, y10, y11, y12]) ∧ S6 cf fe Pt H' ∧ sg.length ≤ 1, ?_, ?_⟩
        · refine ⟨.ref fe, rfl, (by show 7 ≤ sizeLine; decide), fun l nl => ?_⟩
          have X5 := fun o => X4.same (same_new (o := o) nl)
          refine ⟨fe, cf, l, _, rfl, upd_same, X4.F.ne nl, by decide, by decide, (X5 _).F, fun v H6 hv k6 F6 => ?_⟩
          obtain ⟨sg, rfl, hsg⟩ : ∃ sg : Str, v = .str sg ∧ sg.length ≤ 1 := by
            simp only [List.mem_cons, List.mem_nil_iff, or_false] at hv
            rcases hv with h | h | h | h | h | h | h <;> exact ⟨_, h, by decide +kernel⟩
          exact ⟨sg, ⟨_, _, _, _, _, _, _, _, rfl⟩, (X5 _).kp k6 F6, hsg⟩
        clear X4
        rintro σ' H4 ⟨sg, ⟨y2, y3, y7, y8, y9, y10, y11, y12, rfl⟩, X4, hsg⟩
        -- the words
        have few : Few 5 (ll.map rowL) := ⟨by rw [List.length_map]; omega, fun u hu => by
          obtain ⟨r, hr, rfl⟩ := List.mem_map.mp hu
          exact sh1 r hr⟩
        have wpos : 1 ≤ (ll.map rowL).length := by rw [List.length_map]; omega
        have ekl := kinds_lot hne
        generalize ll.map rowL = ws at few ekl wpos
        refine ⟨fun σ' H' => ∃ wl : Addr, (∃ y2 y3 y8 y9 y10 y11 y12, σ' = [some (.ref a), some (.ref fe), y2, y3, some (.str (S (lotL ll))), some (.int at_), some (.str sg), some (.ref wl), y8, y9, y10, y11, y12]) ∧ S6 cf fe Pt H' ∧ H' wl = some (.lst (wv ws)) ∧ wl ≠ fe, ?_, ?_⟩
        · refine ⟨.str (S (lotL ll)), rfl, ⟨_, rfl⟩, S (lotL ll), _, rfl, rfl, by decide +kernel, by rw [S_len]; exact sz1000 (by omega), fun wl nwl => ?_⟩
          rw [sp_blank, ekl]
          have sw := same_new (o := .lst ((ws.map S).map V.str)) nwl
          exact ⟨wl, ⟨_, _, _, _, _, _, _, rfl⟩, X4.same sw, by rw [upd_same, List.map_map]; rfl, X4.F.ne nwl⟩
        clear X4
        rintro σ' H4 ⟨wl, ⟨y2, y3, y8, y9, y10, y11, y12, rfl⟩, X4, W4, nwl⟩
        refine ⟨fun σ' H' => ∃ sp : Int, (∃ y2 y3 y9 y10 y11 y12, σ' = [some (.ref a), some (.ref fe), y2, y3, some (.str (S (lotL ll))), some (.int at_), some (.str sg), some (.ref wl), some (.int sp), y9, y10, y11, y12]) ∧ S6 cf fe Pt H' ∧ H' wl = some (.lst (wv ws)), ?_, ?_⟩
        · refine ⟨.ref fe, rfl, .ref wl, rfl, wl, _, rfl, .inl (SqL.of W4), fe, cf, _, rfl, ?_, ?_, X4.F, fun sp H5 a0 a1 k5 F5 => ⟨sp, ⟨_, _, _, _, _, _, rfl⟩, X4.kp k5 F5, k5 _ _ nwl W4⟩⟩
          · unfold wv; rw [List.length_map]; omega
          · unfold wv; rw [List.length_map]; have := few.1; omega
        clear X4 W4
        rintro σ' H4 ⟨sp, ⟨y2, y3, y9, y10, y11, y12, rfl⟩, X4, W4⟩
        have c1 : (cutS (S (lotL ll)) none (some at_)).length ≤ 35 := Nat.le_trans (cutS_length _ _ _) (by rw [S_len]; exact sh2)
        have c2 : (cutS (S (lotL ll)) (some at_) none).length ≤ 35 := Nat.le_trans (cutS_length _ _ _) (by rw [S_len]; exact sh2)
        have c3 : (cutS (S (lotL ll)) (some (at_ + 1)) none).length ≤ 35 := Nat.le_trans (cutS_length _ _ _) (by rw [S_len]; exact sh2)
        have b1 : (cutS (S (lotL ll)) none (some at_) ++ sg).length ≤ 36 := by rw [str_len]; omega
        -- bent
        refine ⟨fun σ' H' => ∃ (so : Addr) (xs : List Str), (∃ y2 y3 y10 y11 y12, σ' = [some (.ref a), some (.ref fe), y2, y3, some (.str (S (lotL ll))), some (.int at_), some (.str sg), some (.ref wl), some (.int sp), some (.ref so), y10, y11, y12]) ∧ S6 cf fe Pt H' ∧ H' wl = some (.lst (wv ws)) ∧ SomeAt cf fe so xs H' ∧ xs.length = 2 ∧ so ≠ wl, ?_, ?_⟩
        · refine ⟨.str (S (lotL ll)), rfl, .int at_, rfl, at_, rfl, S (lotL ll), rfl, hsl, .str sg, rfl, _, _, rfl, rfl, sz1000 (by omega), ?_⟩
          refine ⟨.str (S (lotL ll)), rfl, .int at_, rfl, at_, rfl, noPart ⟨S (lotL ll), rfl, hsl, _, _, rfl, rfl, sz1000 (by omega), ?_⟩⟩
          refine ⟨.str (S (lotL ll)), rfl, .int at_, rfl, at_, rfl, S (lotL ll), rfl, hsl, ?_⟩
          refine ⟨.str (S (lotL ll)), rfl, .int at_, rfl, at_, 1, rfl, rfl, at_ + 1, rfl, noPart ⟨S (lotL ll), rfl, hsl, _, _, rfl, rfl, sz1000 (by omega), ?_⟩⟩
          refine ⟨sz_2 _ _, fun so nso => ?_⟩
          have sn := fun o => same_new (o := o) nso
          refine ⟨so, [_, _], ⟨_, _, _, _, _, rfl⟩, X4.same (sn _), (sn _) _ _ W4, ⟨upd_same, X4.F.ne nso, X4.F.neC nso, fun x hx => ?_⟩, rfl, fun e => by rw [e, W4] at nso; cases nso⟩
          rcases List.mem_cons.mp hx with h | h
          · rw [h, str_len]; omega
          · rw [List.mem_singleton.mp h, str_len]; omega
        clear X4 W4
        rintro σ' H4 ⟨so, xs, ⟨y2, y3, y10, y11, y12, rfl⟩, X4, W4, O4, lx, nso⟩
        have app : ∀ {H5 : Hp} {xs : List Str} {x : Str}, S6 cf fe Pt H5 → H5 wl = some (.lst (wv ws)) → SomeAt cf fe so xs H5 → x.length ≤ 150 → S6 cf fe Pt (upd H5 so (.lst (xs.map V.str ++ [.str x]))) ∧ upd H5 so (.lst (xs.map V.str ++ [.str x])) wl = some (.lst (wv ws)) ∧ SomeAt cf fe so (xs ++ [x]) (upd H5 so (.lst (xs.map V.str ++ [.str x]))) := fun X W O hx => ⟨X.put O.at_ O.n1 O.n2, by rw [upd_ne (fun e => nso e.symm)]; exact W, O.more hx⟩
        refine ⟨fun σ' H' => ∃ (xs : List Str), (∃ y2 y3 y10 y11 y12, σ' = [some (.ref a), some (.ref fe), y2, y3, some (.str (S (lotL ll))), some (.int at_), some (.str sg), some (.ref wl), some (.int sp), some (.ref so), y10, y11, y12]) ∧ S6 cf fe Pt H' ∧ H' wl = some (.lst (wv ws)) ∧ SomeAt cf fe so xs H' ∧ xs.length = 3, ?_, ?_⟩
        · refine ⟨.ref so, rfl, .inl ⟨rfl, _, SqL.of O4.at_⟩, .str (S (lotL ll)), rfl, .int at_, rfl, at_, rfl, S (lotL ll), rfl, hsl, .str sg, rfl, _, _, rfl, rfl, sz1000 (by omega), ?_⟩
          refine ⟨.str (S (lotL ll)), rfl, .int at_, rfl, at_, 1, rfl, rfl, at_ + 1, rfl, noPart ⟨S (lotL ll), rfl, hsl, _, _, rfl, rfl, sz1000 (by omega), ?_⟩⟩
          obtain ⟨k1, k2, k3⟩ := app (x := cutS (S (lotL ll)) none (some at_) ++ sg ++ cutS (S (lotL ll)) (some (at_ + 1)) none) X4 W4 O4 (by rw [str_len]; omega)
          exact ⟨so, _, _, rfl, rfl, O4.at_, by rw [List.length_map, lx]; decide, _, ⟨_, _, _, _, _, rfl⟩, k1, k2, k3, by rw [List.length_append, lx]; rfl⟩
        clear X4 W4 O4 lx xs
        rintro σ' H4 ⟨xs, ⟨y2, y3, y10, y11, y12, rfl⟩, X4, W4, O4, lx⟩
        -- a list of words cut
        have cutw : ∀ {H5 : Hp} {Q' : VK} (lo hi : Option Int), H5 wl = some (.lst (wv ws)) → (∀ (l : Addr) (us : List (List Nat)), H5 l = none → Few 5 us → Q' (.ref l) (upd H5 l (.lst (wv us)))) → rSlL K (.ref wl) lo hi H5 Q' := fun {H5 Q'} lo hi hW hq => by
          refine ⟨wl, _, rfl, SqL.of hW, fun l nl => ?_⟩
          obtain ⟨n, m, e⟩ := cut_ex ws.length lo hi
          have e' : cutV (wv ws) lo hi = wv ((ws.drop n).take m) := e (fun u => V.str (S u)) ws rfl
          rw [e']
          exact hq l _ nl (few.cut n m)
        have wvl : ∀ us : List (List Nat), (wv us).length = us.length := fun us => by unfold wv; rw [List.length_map]
        have wva : ∀ us vs : List (List Nat), wv us ++ wv vs = wv (us ++ vs) := fun us vs => by unfold wv; rw [List.map_append]
        have wvm : ∀ us : List (List Nat), wv us = (us.map S).map V.str := fun us => by unfold wv; rw [List.map_map]; rfl
        refine ⟨fun σ' H' => ∃ (mo : Addr) (us : List (List Nat)), (∃ y2 y3 y11 y12, σ' = [some (.ref a), some (.ref fe), y2, y3, some (.str (S (lotL ll))), some (.int at_), some (.str sg), some (.ref wl), some (.int sp), some (.ref so), some (.ref mo), y11, y12]) ∧ S6 cf fe Pt H' ∧ H' wl = some (.lst (wv ws)) ∧ SomeAt cf fe so xs H' ∧ H' mo = some (.lst (wv us)) ∧ Few 10 us, ?_, ?_⟩
        · refine ⟨.ref wl, rfl, .int sp, rfl, sp, rfl, cutw none (some sp) W4 fun l1 u1 nl1 f1 => ?_⟩
          have n1 := same_new (o := .lst (wv u1)) nl1
          refine ⟨.ref wl, rfl, .int sp, rfl, sp, rfl, .int sp, rfl, sp, 1, rfl, rfl, sp + 1, rfl, cutw (some sp) (some (sp + 1)) (n1 _ _ W4) fun l2 u2 nl2 f2 => ?_⟩
          have n2 := same_new (o := .lst (wv u2)) nl2
          refine ⟨l1, l2, _, _, rfl, rfl, n2 _ _ upd_same, upd_same, ?_, fun l3 nl3 => ?_⟩
          · rw [wvl, wvl]; have := f1.1; have := f2.1; exact sz1000 (by omega)
          · have n3 := same_new (o := .lst (wv u1 ++ wv u2)) nl3
            have na := n1.trans (n2.trans n3)
            exact ⟨l3, u1 ++ u2, ⟨_, _, _, _, rfl⟩, X4.same na, na _ _ W4, O4.same na, by rw [upd_same, wva], f1.app f2⟩
        clear X4 W4 O4
        rintro σ' H4 ⟨mo, us, ⟨y2, y3, y11, y12, rfl⟩, X4, W4, O4, M4, fm⟩
        have oapp : ∀ {H5 H6 : Hp} {xs : List Str} {x : Str} {D : Ends}, True := True.intro
        clear oapp
        refine ⟨fun σ' H' => ∃ (xs : List Str), (∃ y2 y3 y5 y6 y10 y11 y12, σ' = [some (.ref a), some (.ref fe), y2, y3, some (.str (S (lotL ll))), y5, y6, some (.ref wl), some (.int sp), some (.ref so), y10, y11, y12]) ∧ S6 cf fe Pt H' ∧ H' wl = some (.lst (wv ws)) ∧ SomeAt cf fe so xs H' ∧ xs.length = 4, ?_, ?_⟩
        · refine ⟨.ref so, rfl, .inl ⟨rfl, _, SqL.of O4.at_⟩, ⟨_, rfl⟩, .ref mo, rfl, .ref wl, rfl, .int sp, rfl, sp, rfl, noPart (cutw (some sp) none W4 fun l2 u2 nl2 f2 => ?_)⟩
          have n2 := same_new (o := .lst (wv u2)) nl2
          refine ⟨mo, l2, _, _, rfl, rfl, n2 _ _ M4, upd_same, ?_, fun l3 nl3 => ?_⟩
          · rw [wvl, wvl]; have := fm.1; have := f2.1; exact sz1000 (by omega)
          · have n3 := same_new (o := .lst (wv us ++ wv u2)) nl3
            have na := n2.trans n3
            have f15 := fm.app f2
            obtain ⟨j1, j2⟩ := few_join f15 (by decide)
            refine ⟨_, l3, (us ++ u2).map S, rfl, rfl, .inl (SqL.of (by rw [upd_same, wva, wvm])), j1, ?_⟩
            obtain ⟨k1, k2, k3⟩ := app (x := Txt.join (Str.ofString " ") ((us ++ u2).map S)) (X4.same na) (na _ _ W4) (O4.same na) j2
            exact ⟨so, _, _, rfl, rfl, (O4.same na).at_, by rw [List.length_map, lx]; decide, _, ⟨_, _, _, _, _, _, _, rfl⟩, k1, k2, k3, by rw [List.length_append, lx]; rfl⟩
        clear X4 W4 O4 lx xs M4
        rintro σ' H4 ⟨xs, ⟨y2, y3, y5, y6, y10, y11, y12, rfl⟩, X4, W4, O4, lx⟩
        refine ⟨fun σ' H' => ∃ (xs : List Str), (∃ y2 y3 y4 y5 y6 y8 y10 y11 y12, σ' = [some (.ref a), some (.ref fe), y2, y3, y4, y5, y6, some (.ref wl), y8, some (.ref so), y10, y11, y12]) ∧ S6 cf fe Pt H' ∧ H' wl = some (.lst (wv ws)) ∧ SomeAt cf fe so xs H' ∧ xs.length = 5, ?_, ?_⟩
        · refine ⟨.ref so, rfl, .inl ⟨rfl, _, SqL.of O4.at_⟩, ⟨_, rfl⟩, .ref wl, rfl, .int sp, rfl, sp, rfl, cutw none (some sp) W4 fun l1 u1 nl1 f1 => ?_⟩
          have n1 := same_new (o := .lst (wv u1)) nl1
          refine ⟨.ref wl, rfl, .int sp, rfl, sp, 1, rfl, rfl, sp + 1, rfl, noPart (cutw (some (sp + 1)) none (n1 _ _ W4) fun l2 u2 nl2 f2 => ?_)⟩
          have n2 := same_new (o := .lst (wv u2)) nl2
          refine ⟨l1, l2, _, _, rfl, rfl, n2 _ _ upd_same, upd_same, ?_, fun l3 nl3 => ?_⟩
          · rw [wvl, wvl]; have := f1.1; have := f2.1; exact sz1000 (by omega)
          · have n3 := same_new (o := .lst (wv u1 ++ wv u2)) nl3
            have na := n1.trans (n2.trans n3)
            have f10 := f1.app f2
            obtain ⟨j1, j2⟩ := few_join f10 (by decide)
            refine ⟨_, l3, (u1 ++ u2).map S, rfl, rfl, .inl (SqL.of (by rw [upd_same, wva, wvm])), j1, ?_⟩
            obtain ⟨k1, k2, k3⟩ := app (x := Txt.join (Str.ofString " ") ((u1 ++ u2).map S)) (X4.same na) (na _ _ W4) (O4.same na) j2
            exact ⟨so, _, _, rfl, rfl, (O4.same na).at_, by rw [List.length_map, lx]; decide, _, ⟨_, _, _, _, _, _, _, _, _, rfl⟩, k1, k2, k3, by rw [List.length_append, lx]; rfl⟩
        clear X4 W4 O4 lx xs
        rintro σ' H4 ⟨xs, ⟨y2, y3, y4, y5, y6, y8, y10, y11, y12, rfl⟩, X4, W4, O4, lx⟩
        refine ⟨fun σ' H' => ∃ (xs : List Str), (∃ y2 y3 y4 y5 y6 y7 y8 y10 y11 y12, σ' = [some (.ref a), some (.ref fe), y2, y3, y4, y5, y6, y7, y8, some (.ref so), y10, y11, y12]) ∧ S6 cf fe Pt H' ∧ SomeAt cf fe so xs H' ∧ xs.length = 6, ?_, ?_⟩
        · refine ⟨.ref so, rfl, .inl ⟨rfl, _, SqL.of O4.at_⟩, ⟨_, rfl⟩, .ref wl, rfl, wl, _, rfl, SqL.of W4, fun l3 nl3 => ?_⟩
          have er : (wv ws).reverse = wv ws.reverse := by unfold wv; rw [List.map_reverse]
          rw [er]
          have n3 := same_new (o := .lst (wv ws.reverse)) nl3
          have fr : Few 5 ws.reverse := ⟨by rw [List.length_reverse]; exact few.1, fun u hu => few.2 u (List.mem_reverse.mp hu)⟩
          obtain ⟨j1, j2⟩ := few_join fr (by decide)
          refine ⟨_, l3, ws.reverse.map S, rfl, rfl, .inl (SqL.of (by rw [upd_same, wvm])), j1, ?_⟩
          obtain ⟨k1, k2, k3⟩ := app (x := Txt.join (Str.ofString " ") (ws.reverse.map S)) (X4.same n3) (n3 _ _ W4) (O4.same n3) j2
          exact ⟨so, _, _, rfl, rfl, (O4.same n3).at_, by rw [List.length_map, lx]; decide, _, ⟨_, _, _, _, _, _, _, _, _, _, rfl⟩, k1, k3, by rw [List.length_append, lx]; rfl⟩
        clear X4 W4 O4 lx xs
        rintro σ' H4 ⟨xs, ⟨y2, y3, y4, y5, y6, y7, y8, y10, y11, y12, rfl⟩, X4, O4, lx⟩
        -- one of them
        refine ⟨fun σ' H' => ∃ (z : List Nat), (∃ y2 y3 y4 y5 y6 y7 y8 y9 y10 y12, σ' = [some (.ref a), some (.ref fe), y2, y3, y4, y5, y6, y7, y8, y9, y10, some (.str (S z)), y12]) ∧ S6 cf fe Pt H' ∧ z.length ≤ 150, ?_, ?_⟩
        · refine ⟨.ref so, rfl, .ref fe, rfl, fe, cf, 6, rfl, by decide, by decide, X4.F, fun d H5 d0 d1 k5 F5 => ?_⟩
          have O5 := O4.kp k5
          obtain ⟨v, e1, hv, _⟩ := atI_mem (xs := xs.map V.str) (i := d) d0 (by rw [List.length_map, lx]; omega)
          obtain ⟨x, hx, rfl⟩ := List.mem_map.mp hv
          refine ⟨so, _, d, .str x, rfl, rfl, SqL.of O5.at_, e1, x.cps.toList, ?_, X4.kp k5 F5, ?_⟩
          · rw [S_tl]
            exact ⟨_, _, _, _, _, _, _, _, _, _, rfl⟩
          · rw [← S_len, S_tl]
            exact O5.short x hx
        clear X4 O4 lx xs
        rintro σ' H4 ⟨z, ⟨y2, y3, y4, y5, y6, y7, y8, y9, y10, y12, rfl⟩, X4, hz⟩
        -- what is due
        refine ⟨fun σ' H' => ∃ (t : Addr), (∃ y2 y3 y4 y5 y6 y7 y8 y9 y10, σ' = [some (.ref a), some (.ref fe), y2, y3, y4, y5, y6, y7, y8, y9, y10, some (.str (S z)), some (.ref t)]) ∧ S6 cf fe Pt H' ∧ DueAt H' t z, ?_, ?_⟩
        · refine ⟨_, rfl, z, rfl, hz, fun e H5 t s5 ht => ⟨t, ⟨_, _, _, _, _, _, _, _, _, rfl⟩, X4.same s5, .inl ⟨e, ht⟩⟩, fun e => ⟨fun ef H5 t s5 ht => ⟨t, ⟨_, _, _, _, _, _, _, _, _, rfl⟩, X4.same s5, .inr ⟨e, .inl ⟨ef, ht⟩⟩⟩, fun ef H5 t p s5 ht hL => ⟨t, ⟨_, _, _, _, _, _, _, _, _, rfl⟩, X4.same s5, .inr ⟨e, .inr ⟨ef, p, ht, hL⟩⟩⟩⟩⟩
        clear X4
        rintro σ' H4 ⟨t, ⟨y2, y3, y4, y5, y6, y7, y8, y9, y10, rfl⟩, X4, hdue⟩
        obtain ⟨zl1, zl2⟩ := rowsT_most hz
        refine ⟨fun σ' H' => (∃ y2 y3 y4 y5 y6 y7 y8 y9 y10, σ' = [some (.ref a), some (.ref fe), y2, y3, y4, y5, y6, y7, y8, y9, y10, some (.str (S z)), some (.ref t)]) ∧ S6 cf fe Pt H' ∧ DueAt H' t z, ?_, ?_⟩
        · refine ⟨X4.T, fun H5 e5 T5 => ?_⟩
          have X5 := X4.ext e5 T5
          have hd5 : DueAt H5 t z := hdue.mono fun a xs e => e5 _ _ e (fun ps z => by cases z)
          refine ⟨_, rfl, rfl, rfl, z, rfl, hz, fun eb => (caught T.fT fun H6 u s6 hu => ?_).refd (by decide), fun eb => ⟨fun k hk => (caught T.fC fun H6 u s6 hu => ?_).refd (by decide), fun ef H6 p s6 hL u nu => ?_⟩⟩
          · have hd6 := hd5.mono fun a xs e => s6 _ _ e
            rcases hd6 with ⟨_, ht⟩ | ⟨eb', _⟩
            · exact ⟨.ref t, rfl, .ref u, .ref t, rfl, eqd_tup hu ht (by show 2 ≤ 1000; decide) two_leaf, fun H9 s9 => ⟨_, rfl, iteF ⟨⟨_, _, _, _, _, _, _, _, _, rfl⟩, X5.same (s6.trans s9), hd5.mono fun a xs e => (s6.trans s9) _ _ e⟩⟩⟩
            · rw [eb] at eb'; cases eb'
          · have hd6 := hd5.mono fun a xs e => s6 _ _ e
            rcases hd6 with ⟨eb', _⟩ | ⟨_, ⟨_, ht⟩ | ⟨en, _⟩⟩
            · rw [eb] at eb'; cases eb'
            · exact ⟨.ref t, rfl, .ref u, .ref t, rfl, eqd_tup hu ht (by show 2 ≤ 1000; decide) two_leaf, fun H9 s9 => ⟨_, rfl, iteF ⟨⟨_, _, _, _, _, _, _, _, _, rfl⟩, X5.same (s6.trans s9), hd5.mono fun a xs e => (s6.trans s9) _ _ e⟩⟩⟩
            · rw [hk] at en; cases en
          · have nu' := same_new (o := .tup [.ref p, .str ""]) nu
            have s6u := s6.trans nu'
            have hd6 := hd5.mono fun a xs e => s6u _ _ e
            rcases hd6 with ⟨eb', _⟩ | ⟨_, ⟨en, _⟩ | ⟨_, p', ht, hL'⟩⟩
            · rw [eb] at eb'; cases eb'
            · exact absurd ef en
            · exact ⟨.ref t, rfl, .ref u, .ref t, rfl, eqd_two (.inr ⟨upd_same, ht⟩) (eqd_lot (hL.same nu') hL' (by omega) (fun r hr => by have := zl2 r hr; omega)) (eqd_leaf rfl), fun H9 s9 => ⟨_, rfl, iteF ⟨⟨_, _, _, _, _, _, _, _, _, rfl⟩, X5.same (s6u.trans s9), hd5.mono fun a xs e => (s6u.trans s9) _ _ e⟩⟩⟩
        clear X4 hdue
        rintro σ' H4 ⟨⟨y2, y3, y4, y5, y6, y7, y8, y9, y10, rfl⟩, X4, hdue⟩
        have at1 : ∀ (x : V) (wd : Str), atI [x, .str wd] 1 = some (.str wd) := fun x wd => atI_nat (j := 1) rfl
        rcases hdue with ⟨_, ht⟩ | ⟨eb, ⟨en, ht⟩ | ⟨_, p, ht, _⟩⟩
        · refine ⟨.ref t, rfl, t, _, 1, .str "bad text", rfl, rfl, SqT.of ht, at1 _ _, rfl, _, rfl, ?_⟩
          rw [show decide (V.str (Str.ofString "bad text") = V.str (Str.ofString "bad lot")) = false by decide +kernel]
          exact iteF (iteF ⟨⟨_, _, _, _, _, _, _, _, _, _, _, rfl⟩, X4⟩)
        · refine ⟨.ref t, rfl, t, _, 1, .str "bad lot", rfl, rfl, SqT.of ht, at1 _ _, rfl, _, rfl, ?_⟩
          rw [decide_eq_true rfl]
          refine iteT ?_
          obtain ⟨k, hk⟩ : ∃ k, flaw (rowsT z) = some k := by
            cases e : flaw (rowsT z) with
            | none => exact absurd e en
            | some k => exact ⟨k, rfl⟩
          have efv : flawV (rowsT z) = .int k := by unfold flawV; rw [hk]
          refine ⟨_, rfl, z, k, rfl, hz, eb, hk, fun H5 s5 => ⟨_, rfl, z, rfl, hz, eb, fun H6 s6 => ?_⟩⟩
          rw [efv]
          exact ⟨.int k, .int k, rfl, eqd_leaf rfl, fun H7 s7 => ⟨_, rfl, iteF ⟨⟨_, _, _, _, _, _, _, _, _, _, _, rfl⟩, X4.same (s5.trans (s6.trans s7))⟩⟩⟩
        · refine ⟨.ref t, rfl, t, _, 1, .str "", rfl, rfl, SqT.of ht, at1 _ _, rfl, _, rfl, ?_⟩
          rw [show decide (V.str (Str.ofString "") = V.str (Str.ofString "bad lot")) = false by decide +kernel]
          exact iteF (iteF ⟨⟨_, _, _, _, _, _, _, _, _, _, _, rfl⟩, X4⟩)
      rintro σ' H2 ⟨⟨y2, y3, y4, y5, y6, y7, y8, y9, y10, y11, y12, rfl⟩, X2⟩
      have T2 := X2.T
      clear X2
      -- the words
      refine ⟨fun σ' H' => ∃ (wl u1 : Addr), (∃ y2 y3 y4 y5 y6 y8 y9 y10 y11 y12, σ' = [some (.ref a), some (.ref fe), y2, y3, y4, y5, y6, some (.ref wl), y8, y9, y10, y11, y12]) ∧ Tabs [(Pt, qLam)] H' ∧ H' wl = some (.lst [.ref u1]) ∧ H' u1 = some (.tup [.non, .str "bad text"]), ?_, ?_⟩
      · refine ⟨T2, fun H3 e3 T3 => ?_⟩
        refine ⟨[49, 32, 49, 32, 49, 32, 49, 32, 49, 32, 49, 32, 120], congrArg (fun x => [V.str x]) (show Str.ofString "1 1 1 1 1 1 x" = S [49, 32, 49, 32, 49, 32, 49, 32, 49, 32, 49, 32, 120] from TL.ext_tl (by rw [TL.tl_ofString]; rfl)), by decide, fun _ => (caught T.fT fun H4 u1 s4 hu1 => ?_).refd (by decide), fun e => absurd e (by decide +kernel)⟩
        refine ⟨sz_1 _, fun wl nwl => ?_⟩
        have n1 := same_new (o := .lst [.ref u1]) nwl
        exact ⟨wl, u1, ⟨_, _, _, _, _, _, _, _, _, _, rfl⟩, T3.ext (s4.trans n1), upd_same, n1 _ _ hu1⟩
      clear T2
      rintro σ' H2 ⟨wl, u1, ⟨y2, y3, y4, y5, y6, y8, y9, y10, y11, y12, rfl⟩, T2, W2, U1⟩
      refine ⟨fun σ' H' => ∃ (u2 : Addr), (∃ y2 y3 y4 y5 y6 y8 y9 y10 y11 y12, σ' = [some (.ref a), some (.ref fe), y2, y3, y4, y5, y6, some (.ref wl), y8, y9, y10, y11, y12]) ∧ Tabs [(Pt, qLam)] H' ∧ H' wl = some (.lst [.ref u1, .ref u2]) ∧ H' u1 = some (.tup [.non, .str "bad text"]) ∧ H' u2 = some (.tup [.non, .str "bad text"]), ?_, ?_⟩
      · refine ⟨.ref wl, rfl, .inl ⟨rfl, _, SqL.of W2⟩, T2, fun H3 e3 T3 => ?_⟩
        refine ⟨[55, 32, 48, 44], congrArg (fun x => [V.str x]) (show Str.ofString "7 0," = S [55, 32, 48, 44] from TL.ext_tl (by rw [TL.tl_ofString]; rfl)), by decide, fun _ => (caught T.fT fun H4 u2 s4 hu2 => ?_).refd (by decide), fun e => absurd e (by decide +kernel)⟩
        have W4 := s4 _ _ (e3 _ _ W2 (fun ps z => by cases z))
        have U4 := s4 _ _ (e3 _ _ U1 (fun ps z => by cases z))
        refine ⟨wl, _, _, rfl, rfl, W4, (by show 1 < sizeLine; decide), u2, ⟨_, _, _, _, _, _, _, _, _, _, rfl⟩, tabs_list (T3.ext s4) W4, upd_same, ?_, ?_⟩
        · rw [upd_ne (ne_of U4 W4 (fun z => by cases z))]; exact U4
        · rw [upd_ne (ne_of hu2 W4 (fun z => by cases z))]; exact hu2
      clear T2 W2 U1
      rintro σ' H2 ⟨u2, ⟨y2, y3, y4, y5, y6, y8, y9, y10, y11, y12, rfl⟩, T2, W2, U1, U2⟩
      refine ⟨fun σ' H' => ∃ (u3 : Addr), (∃ y2 y3 y4 y5 y6 y8 y9 y10 y11 y12, σ' = [some (.ref a), some (.ref fe), y2, y3, y4, y5, y6, some (.ref wl), y8, y9, y10, y11, y12]) ∧ Tabs [(Pt, qLam)] H' ∧ H' wl = some (.lst [.ref u1, .ref u2, .ref u3]) ∧ H' u1 = some (.tup [.non, .str "bad text"]) ∧ H' u2 = some (.tup [.non, .str "bad text"]) ∧ H' u3 = some (.tup [.non, .str "bad text"]), ?_, ?_⟩
      · refine ⟨.ref wl, rfl, .inl ⟨rfl, _, SqL.of W2⟩, T2, fun H3 e3 T3 => ?_⟩
        refine ⟨[48, 32, 45, 48], congrArg (fun x => [V.str x]) (show Str.ofString "0 -0" = S [48, 32, 45, 48] from TL.ext_tl (by rw [TL.tl_ofString]; rfl)), by decide, fun _ => (caught T.fT fun H4 u3 s4 hu3 => ?_).refd (by decide), fun e => absurd e (by decide +kernel)⟩
        have W4 := s4 _ _ (e3 _ _ W2 (fun ps z => by cases z))
        have U4 := s4 _ _ (e3 _ _ U1 (fun ps z => by cases z))
        have V4 := s4 _ _ (e3 _ _ U2 (fun ps z => by cases z))
        refine ⟨wl, _, _, rfl, rfl, W4, (by show 2 < sizeLine; decide), u3, ⟨_, _, _, _, _, _, _, _, _, _, rfl⟩, tabs_list (T3.ext s4) W4, upd_same, ?_, ?_, ?_⟩
        · rw [upd_ne (ne_of U4 W4 (fun z => by cases z))]; exact U4
        · rw [upd_ne (ne_of V4 W4 (fun z => by cases z))]; exact V4
        · rw [upd_ne (ne_of hu3 W4 (fun z => by cases z))]; exact hu3
      clear T2 W2 U1 U2
      rintro σ' H2 ⟨u3, ⟨y2, y3, y4, y5, y6, y8, y9, y10, y11, y12, rfl⟩, T2, W2, U1, U2, U3⟩
      have dw : ∀ {H' : Hp} {x : Addr} {wd : Str}, H' x = some (.tup [.non, .str wd]) → Dp K H' (.ref x) (.tuple [.none, .str wd]) := fun h => .tup (SqT.of h) (.cons .non (.cons (.str _) .nil))
      refine ⟨.ref wl, rfl, sz_2 _ _, fun t0 nt0 => ⟨sz_1 _, fun l0 nl0 => ?_⟩⟩
      refine ⟨l0, 3, _, rfl, rfl, upd_same, by decide, by decide, (by show 3 ≤ sizeLine; decide), fun l3 nl3 => ?_⟩
      have m1 := same_new (o := .tup [.non, .str "bad text"]) nt0
      have m2 := same_new (o := .lst [.ref t0]) nl0
      have m3 := same_new (o := .lst (List.replicate (3 : Int).toNat [V.ref t0]).flatten) nl3
      have ma := m1.trans (m2.trans m3)
      have ht0 := (m2.trans m3) _ _ (upd_same (H := H2) (a := t0) (o := .tup [.non, .str "bad text"]))
      refine ⟨.list [.tuple [.none, .str "bad text"], .tuple [.none, .str "bad text"], .tuple [.none, .str "bad text"]], .list [.tuple [.none, .str "bad text"], .tuple [.none, .str "bad text"], .tuple [.none, .str "bad text"]], .lst (SqL.of (ma _ _ W2)) (.cons (dw (ma _ _ U1)) (.cons (dw (ma _ _ U2)) (.cons (dw (ma _ _ U3)) .nil))), .lst (SqL.of upd_same) (.cons (dw ht0) (.cons (dw ht0) (.cons (dw ht0) .nil))), by decide +kernel, by decide +kernel, _, rfl, ?_⟩
      rw [show PyData.eqv (.list [.tuple [.none, .str (Str.ofString "bad text")], .tuple [.none, .str (Str.ofString "bad text")], .tuple [.none, .str (Str.ofString "bad text")]]) (.list [.tuple [.none, .str (Str.ofString "bad text")], .tuple [.none, .str (Str.ofString "bad text")], .tuple [.none, .str (Str.ofString "bad text")]]) = true by simp [PyData.eqv, PyData.eqvAll]]
      refine iteT ?_
      refine ⟨T2.ext ma, fun H3 e3 T3 => ?_⟩
      refine ⟨sz_1 _, fun t1 nt1 => ⟨sz_1 _, fun t2 nt2 => ?_⟩⟩
      have k1 := same_new (o := .tup [.int 0]) nt1
      have k2 := same_new (o := .tup [.ref t1]) nt2
      have f0 : flaw [[0]] = some 0 := by decide +kernel
      refine ⟨t2, [[0]], rfl, ⟨[t1], upd_same, k2 _ _ upd_same, True.intro⟩, by decide, (fun r hr => by rw [List.mem_singleton.mp hr]; decide), (fun z => by rw [f0] at z; cases z), fun k _ => (caught T.fC fun H9 u s9 hu => ?_).refd (by decide)⟩
      refine ⟨sz_2 _ _, fun t3 nt3 => ?_⟩
      have k3 := same_new (o := .tup [.non, .str "bad lot"]) nt3
      refine ⟨.tuple [.none, .str "bad lot"], .tuple [.none, .str "bad lot"], dw (k3 _ _ hu), dw upd_same, by decide +kernel, by decide +kernel, ?_⟩
      rw [show PyData.eqv (.tuple [.none, .str (Str.ofString "bad lot")]) (.tuple [.none, .str (Str.ofString "bad lot")]) = true by simp [PyData.eqv, PyData.eqvAll]]
      exact q _

    obtain ⟨t, h1, h2⟩ := build
    exact ⟨t, h1.nox, h2⟩
end
end HL

namespace HL
open PySem PySem.Spec PyProof.Rows L2
open LamX (Tabs TabS TabB LawAtS)
/-- whether an error of the class T is what an except clause of S takes -/
theorem exm_by {K : PySem.W.Frag} {S T : Addr} {b : Bool} (h1 : PySem.W.subIn K (.ref S) (.type "BaseException") = some true) (h2 : PySem.W.isClsIn K S = true) (h3 : PySem.W.typeIn K (.ref S) = some (.type "type"))
    (h4 : PySem.W.subIn K (.ref T) (.ref S) = some b) : PySem.W.exmOne K (.ref T) (.ref S) = some b := by
  have e1 : (PySem.W.subIn K (.ref S) (.type "BaseException") == some true) = true := by rw [h1] <;> rfl
  have e2 : ((PySem.W.clsIn K S).isSome && PySem.W.typeIn K (.ref S) == some (.type "type")) = true := by
    have h2' : (PySem.W.clsIn K S).isSome = true := h2
    rw [h2', h3] <;> rfl
  show (if (PySem.W.subIn K (.ref S) (.type "BaseException") == some true) = true then (if ((PySem.W.clsIn K S).isSome && PySem.W.typeIn K (.ref S) == some (.type "type")) = true then PySem.W.subIn K (.ref T) (.ref S) else none) else none) = some b
  rw [if_pos e1, if_pos e2]
  exact h4
theorem rev_vals {zs : List V} {ws : List Value} (r : Vals zs ws) : Vals zs.reverse ws.reverse := by
  induction r with
  | nil => exact .nil
  | cons r t ih =>
    rw [List.reverse_cons, List.reverse_cons]
    exact ih.append (.cons r .nil)
theorem all_mk {l : PySem.W.OpenLaw} {w : World} {K : PySem.W.Frag} {h : Heap} {mg : Str → Option Value} {fa : Addr} (X : K.In h) (G : h.Ns mainGlobals mg) (hfa : mg "law" = some (.ref fa))
    {f0 : Addr} {oc0 kV0 dc0 pm0 cd0 ct0 : Value} {od0 an0 : Option Addr} {sl0 : Array (Option Value)}
    {f1 : Addr} {oc1 kV1 dc1 pm1 cd1 ct1 : Value} {od1 an1 : Option Addr} {sl1 : Array (Option Value)}
    {f2 : Addr} {oc2 kV2 dc2 pm2 cd2 ct2 : Value} {od2 an2 : Option Addr} {sl2 : Array (Option Value)}
    {f3 : Addr} {oc3 kV3 dc3 pm3 cd3 ct3 : Value} {od3 an3 : Option Addr} {sl3 : Array (Option Value)}
    {f4 : Addr} {oc4 kV4 dc4 pm4 cd4 ct4 : Value} {od4 an4 : Option Addr} {sl4 : Array (Option Value)}
    {f5 : Addr} {oc5 kV5 dc5 pm5 cd5 ct5 : Value} {od5 an5 : Option Addr} {sl5 : Array (Option Value)}
    {f6 : Addr} {oc6 kV6 dc6 pm6 cd6 ct6 : Value} {od6 an6 : Option Addr} {sl6 : Array (Option Value)}
    {f7 : Addr} {oc7 kV7 dc7 pm7 cd7 ct7 : Value} {od7 an7 : Option Addr} {sl7 : Array (Option Value)}
    {f8 : Addr} {oc8 kV8 dc8 pm8 cd8 ct8 : Value} {od8 an8 : Option Addr} {sl8 : Array (Option Value)}
    {f9 : Addr} {oc9 kV9 dc9 pm9 cd9 ct9 : Value} {od9 an9 : Option Addr} {sl9 : Array (Option Value)}
    {f10 : Addr} {oc10 kV10 dc10 pm10 cd10 ct10 : Value} {od10 an10 : Option Addr} {sl10 : Array (Option Value)}
    {f11 : Addr} {oc11 kV11 dc11 pm11 cd11 ct11 : Value} {od11 an11 : Option Addr} {sl11 : Array (Option Value)}
    {f12 : Addr} {oc12 kV12 dc12 pm12 cd12 ct12 : Value} {od12 an12 : Option Addr} {sl12 : Array (Option Value)}
    {f13 : Addr} {oc13 kV13 dc13 pm13 cd13 ct13 : Value} {od13 an13 : Option Addr} {sl13 : Array (Option Value)}
    {f14 : Addr} {oc14 kV14 dc14 pm14 cd14 ct14 : Value} {od14 an14 : Option Addr} {sl14 : Array (Option Value)}
    {f15 : Addr} {oc15 kV15 dc15 pm15 cd15 ct15 : Value} {od15 an15 : Option Addr} {sl15 : Array (Option Value)}
    {f16 : Addr} {oc16 kV16 dc16 pm16 cd16 ct16 : Value} {od16 an16 : Option Addr} {sl16 : Array (Option Value)}
    {f17 : Addr} {oc17 kV17 dc17 pm17 cd17 ct17 : Value} {od17 an17 : Option Addr} {sl17 : Array (Option Value)}
    {f18 : Addr} {oc18 kV18 dc18 pm18 cd18 ct18 : Value} {od18 an18 : Option Addr} {sl18 : Array (Option Value)}
    {f19 : Addr} {oc19 kV19 dc19 pm19 cd19 ct19 : Value} {od19 an19 : Option Addr} {sl19 : Array (Option Value)}
    {f20 : Addr} {oc20 kV20 dc20 pm20 cd20 ct20 : Value} {od20 an20 : Option Addr} {sl20 : Array (Option Value)}
    {fL cL Pt : Addr} {ocL kVL dcL pmL ctL : Value} {odL anL : Option Addr} {slL : Array (Option Value)}
    {C1 CE1 fI1 N1 : Addr} {nm1 q1 : Str} {bs1 : List Value} {sn1 : List Str} {sub1 : List Value} {ab1 : Bool} {col1 : Option Bool} {dd1 : Option Addr} {m01 m11 m21 m31 m51 : Option Value} {ocI1 kVI1 dcI1 pmI1 cdI1 ctI1 : Value} {odI1 anI1 : Option Addr} {slI1 : Array (Option Value)}
    {C2 CE2 fI2 N2 : Addr} {nm2 q2 : Str} {bs2 : List Value} {sn2 : List Str} {sub2 : List Value} {ab2 : Bool} {col2 : Option Bool} {dd2 : Option Addr} {m02 m12 m22 m32 m52 : Option Value} {ocI2 kVI2 dcI2 pmI2 cdI2 ctI2 : Value} {odI2 anI2 : Option Addr} {slI2 : Array (Option Value)}
    {E1 E2 E3 : Addr}
    {t6 : Tok}
    {t5 : Tok}
    {t3 : Tok}
    {tF : Tok}
    {tM : Tok}
    (hTab : h.get? Pt = some (PySem.W.tabObj #[]))
    (a0 : PySem.W.nsIn K mainGlobals "is_hold" = some (some (.ref f0)))
    (l0 : K.lookup f0 = some ⟨oc0, od0, .func (PySem.W.fnOf "is_hold" "is_hold" (defArgs sIsHold) (defBody sIsHold) (defScope sIsHold) .none kV0 dc0 pm0 an0 cd0 ct0), sl0⟩)
    (c0 : PySem.W.codeIn K cd0 "is_hold" = true)
    (k0 : PySem.W.keepIn K (.ref f0) = true)
    (a1 : PySem.W.nsIn K mainGlobals "look_lot" = some (some (.ref f1)))
    (l1 : K.lookup f1 = some ⟨oc1, od1, .func (PySem.W.fnOf "look_lot" "look_lot" (defArgs sLook) (defBody sLook) (defScope sLook) .none kV1 dc1 pm1 an1 cd1 ct1), sl1⟩)
    (c1 : PySem.W.codeIn K cd1 "look_lot" = true)
    (k1 : PySem.W.keepIn K (.ref f1) = true)
    (a2 : PySem.W.nsIn K mainGlobals "row_text" = some (some (.ref f2)))
    (l2 : K.lookup f2 = some ⟨oc2, od2, .func (PySem.W.fnOf "row_text" "row_text" (defArgs sRowText) (defBody sRowText) (defScope sRowText) .none kV2 dc2 pm2 an2 cd2 ct2), sl2⟩)
    (c2 : PySem.W.codeIn K cd2 "row_text" = true)
    (k2 : PySem.W.keepIn K (.ref f2) = true)
    (a3 : PySem.W.nsIn K mainGlobals "is_number" = some (some (.ref f3)))
    (l3 : K.lookup f3 = some ⟨oc3, od3, .func (PySem.W.fnOf "is_number" "is_number" (defArgs sIsNum) (defBody sIsNum) (defScope sIsNum) .none kV3 dc3 pm3 an3 cd3 ct3), sl3⟩)
    (c3 : PySem.W.codeIn K cd3 "is_number" = true)
    (k3 : PySem.W.keepIn K (.ref f3) = true)
    (a4 : PySem.W.nsIn K mainGlobals "read_row" = some (some (.ref f4)))
    (l4 : K.lookup f4 = some ⟨oc4, od4, .func (PySem.W.fnOf "read_row" "read_row" (defArgs sReadRow) (defBody sReadRow) (defScope sReadRow) .none kV4 dc4 pm4 an4 cd4 ct4), sl4⟩)
    (c4 : PySem.W.codeIn K cd4 "read_row" = true)
    (k4 : PySem.W.keepIn K (.ref f4) = true)
    (a5 : PySem.W.nsIn K mainGlobals "lot_text" = some (some (.ref f5)))
    (l5 : K.lookup f5 = some ⟨oc5, od5, .func (PySem.W.fnOf "lot_text" "lot_text" (defArgs sLotText) (defBody sLotText) (defScope sLotText) .none kV5 dc5 pm5 an5 cd5 ct5), sl5⟩)
    (c5 : PySem.W.codeIn K cd5 "lot_text" = true)
    (k5 : PySem.W.keepIn K (.ref f5) = true)
    (a6 : PySem.W.nsIn K mainGlobals "read_lot" = some (some (.ref f6)))
    (l6 : K.lookup f6 = some ⟨oc6, od6, .func (PySem.W.fnOf "read_lot" "read_lot" (defArgs sReadLot) (defBody sReadLot) (defScope sReadLot) .none kV6 dc6 pm6 an6 cd6 ct6), sl6⟩)
    (c6 : PySem.W.codeIn K cd6 "read_lot" = true)
    (k6 : PySem.W.keepIn K (.ref f6) = true)
    (a7 : PySem.W.nsIn K mainGlobals "_law_feed" = some (some (.ref f7)))
    (l7 : K.lookup f7 = some ⟨oc7, od7, .func (PySem.W.fnOf "_law_feed" "_law_feed" (defArgs sFeed) (defBody sFeed) (defScope sFeed) .none kV7 dc7 pm7 an7 cd7 ct7), sl7⟩)
    (c7 : PySem.W.codeIn K cd7 "_law_feed" = true)
    (k7 : PySem.W.keepIn K (.ref f7) = true)
    (a8 : PySem.W.nsIn K mainGlobals "_law_draw" = some (some (.ref f8)))
    (l8 : K.lookup f8 = some ⟨oc8, od8, .func (PySem.W.fnOf "_law_draw" "_law_draw" (defArgs sDraw) (defBody sDraw) (defScope sDraw) .none kV8 dc8 pm8 an8 cd8 ct8), sl8⟩)
    (c8 : PySem.W.codeIn K cd8 "_law_draw" = true)
    (k8 : PySem.W.keepIn K (.ref f8) = true)
    (a9 : PySem.W.nsIn K mainGlobals "_law_pick" = some (some (.ref f9)))
    (l9 : K.lookup f9 = some ⟨oc9, od9, .func (PySem.W.fnOf "_law_pick" "_law_pick" (defArgs sPick) (defBody sPick) (defScope sPick) .none kV9 dc9 pm9 an9 cd9 ct9), sl9⟩)
    (c9 : PySem.W.codeIn K cd9 "_law_pick" = true)
    (k9 : PySem.W.keepIn K (.ref f9) = true)
    (a10 : PySem.W.nsIn K mainGlobals "_law_same" = some (some (.ref f10)))
    (l10 : K.lookup f10 = some ⟨oc10, od10, .func (PySem.W.fnOf "_law_same" "_law_same" (defArgs sSame) (defBody sSame) (defScope sSame) .none kV10 dc10 pm10 an10 cd10 ct10), sl10⟩)
    (c10 : PySem.W.codeIn K cd10 "_law_same" = true)
    (k10 : PySem.W.keepIn K (.ref f10) = true)
    (a11 : PySem.W.nsIn K mainGlobals "_law_word" = some (some (.ref f11)))
    (l11 : K.lookup f11 = some ⟨oc11, od11, .func (PySem.W.fnOf "_law_word" "_law_word" (defArgs sWord) (defBody sWord) (defScope sWord) .none kV11 dc11 pm11 an11 cd11 ct11), sl11⟩)
    (c11 : PySem.W.codeIn K cd11 "_law_word" = true)
    (k11 : PySem.W.keepIn K (.ref f11) = true)
    (a12 : PySem.W.nsIn K mainGlobals "_law_hold" = some (some (.ref f12)))
    (l12 : K.lookup f12 = some ⟨oc12, od12, .func (PySem.W.fnOf "_law_hold" "_law_hold" (defArgs sHold) (defBody sHold) (defScope sHold) .none kV12 dc12 pm12 an12 cd12 ct12), sl12⟩)
    (c12 : PySem.W.codeIn K cd12 "_law_hold" = true)
    (k12 : PySem.W.keepIn K (.ref f12) = true)
    (a13 : PySem.W.nsIn K mainGlobals "_law_lot" = some (some (.ref f13)))
    (l13 : K.lookup f13 = some ⟨oc13, od13, .func (PySem.W.fnOf "_law_lot" "_law_lot" (defArgs sLot) (defBody sLot) (defScope sLot) .none kV13 dc13 pm13 an13 cd13 ct13), sl13⟩)
    (c13 : PySem.W.codeIn K cd13 "_law_lot" = true)
    (k13 : PySem.W.keepIn K (.ref f13) = true)
    (a14 : PySem.W.nsIn K mainGlobals "_law_any_lot" = some (some (.ref f14)))
    (l14 : K.lookup f14 = some ⟨oc14, od14, .func (PySem.W.fnOf "_law_any_lot" "_law_any_lot" (defArgs sAny) (defBody sAny) (defScope sAny) .none kV14 dc14 pm14 an14 cd14 ct14), sl14⟩)
    (c14 : PySem.W.codeIn K cd14 "_law_any_lot" = true)
    (k14 : PySem.W.keepIn K (.ref f14) = true)
    (a15 : PySem.W.nsIn K mainGlobals "_law_row_text" = some (some (.ref f15)))
    (l15 : K.lookup f15 = some ⟨oc15, od15, .func (PySem.W.fnOf "_law_row_text" "_law_row_text" (defArgs sRowTextL) (defBody sRowTextL) (defScope sRowTextL) .none kV15 dc15 pm15 an15 cd15 ct15), sl15⟩)
    (c15 : PySem.W.codeIn K cd15 "_law_row_text" = true)
    (k15 : PySem.W.keepIn K (.ref f15) = true)
    (a16 : PySem.W.nsIn K mainGlobals "_law_lot_text" = some (some (.ref f16)))
    (l16 : K.lookup f16 = some ⟨oc16, od16, .func (PySem.W.fnOf "_law_lot_text" "_law_lot_text" (defArgs sLotTextL) (defBody sLotTextL) (defScope sLotTextL) .none kV16 dc16 pm16 an16 cd16 ct16), sl16⟩)
    (c16 : PySem.W.codeIn K cd16 "_law_lot_text" = true)
    (k16 : PySem.W.keepIn K (.ref f16) = true)
    (a17 : PySem.W.nsIn K mainGlobals "_law_number_in" = some (some (.ref f17)))
    (l17 : K.lookup f17 = some ⟨oc17, od17, .func (PySem.W.fnOf "_law_number_in" "_law_number_in" (defArgs sNumIn) (defBody sNumIn) (defScope sNumIn) .none kV17 dc17 pm17 an17 cd17 ct17), sl17⟩)
    (c17 : PySem.W.codeIn K cd17 "_law_number_in" = true)
    (k17 : PySem.W.keepIn K (.ref f17) = true)
    (a18 : PySem.W.nsIn K mainGlobals "_law_read" = some (some (.ref f18)))
    (l18 : K.lookup f18 = some ⟨oc18, od18, .func (PySem.W.fnOf "_law_read" "_law_read" (defArgs sRead) (defBody sRead) (defScope sRead) .none kV18 dc18 pm18 an18 cd18 ct18), sl18⟩)
    (c18 : PySem.W.codeIn K cd18 "_law_read" = true)
    (k18 : PySem.W.keepIn K (.ref f18) = true)
    (a19 : PySem.W.nsIn K mainGlobals "_law_flaw" = some (some (.ref f19)))
    (l19 : K.lookup f19 = some ⟨oc19, od19, .func (PySem.W.fnOf "_law_flaw" "_law_flaw" (defArgs sFlaw) (defBody sFlaw) (defScope sFlaw) .none kV19 dc19 pm19 an19 cd19 ct19), sl19⟩)
    (c19 : PySem.W.codeIn K cd19 "_law_flaw" = true)
    (k19 : PySem.W.keepIn K (.ref f19) = true)
    (a20 : PySem.W.nsIn K mainGlobals "_law_kind" = some (some (.ref f20)))
    (l20 : K.lookup f20 = some ⟨oc20, od20, .func (PySem.W.fnOf "_law_kind" "_law_kind" (defArgs sKind) (defBody sKind) (defScope sKind) .none kV20 dc20 pm20 an20 cd20 ct20), sl20⟩)
    (c20 : PySem.W.codeIn K cd20 "_law_kind" = true)
    (k20 : PySem.W.keepIn K (.ref f20) = true)
    (aL : PySem.W.nsIn K mainGlobals "law" = some (some (.ref fL)))
    (lL : K.lookup fL = some ⟨ocL, odL, .func (PySem.W.fnOf "law" "law" (defArgs sLaw) (defBody sLaw) (defScope sLaw) .none kVL dcL pmL anL (.ref cL) ctL), slL⟩)
    (cdL : PySem.W.codeIn K (.ref cL) "law" = true)
    (nP : K.lookup Pt = none)
    (hd : PySem.W.codeHdIn K cL Pt = true)
    (aC1 : PySem.W.nsIn K mainGlobals "BadLot" = some (some (.ref C1)))
    (xL1 : K.lookup C1 = some (excClassObj nm1 q1 C1 N1 bs1 [.ref CE1, .type "ValueError", .type "Exception", .type "BaseException", .type "object"] true sn1 sub1 ab1 col1 dd1 m01 m11 m21 m31 m51 "ValueError.__new__"))
    (sa1 : PySem.W.findIn K (.ref C1) "__setattr__" = some (some (.builtin "object.__setattr__")))
    (ga1 : PySem.W.findIn K (.ref C1) "__getattribute__" = some (some (.builtin "BaseException.__getattribute__")))
    (gg1 : PySem.W.findIn K (.ref C1) "__getattr__" = some none)
    (nW1 : PySem.W.findIn K (.ref C1) "word" = some none)
    (nF1 : PySem.W.findIn K (.ref C1) "kind" = some none)
    (aI1 : PySem.W.findIn K (.ref C1) "__init__" = some (some (.ref fI1)))
    (tI1 : PySem.W.typeIn K (.ref fI1) = some (.type "function"))
    (lI1 : K.lookup fI1 = some ⟨ocI1, odI1, .func (PySem.W.fnOf "__init__" "BadLot.__init__" (defArgs sBadInit) (defBody sBadInit) (defScope sBadInit) .none kVI1 dcI1 pmI1 anI1 cdI1 ctI1), slI1⟩)
    (cI1 : PySem.W.codeIn K cdI1 "BadLot.__init__" = true)
    (kI1 : PySem.W.keepIn K (.ref fI1) = true)
    (kC1 : PySem.W.keepIn K (.ref C1) = true)
    (eC1 : PySem.W.subIn K (.ref C1) (.type "BaseException") = some true)
    (tC1 : PySem.W.typeIn K (.ref C1) = some (.type "type"))
    (hC1 : PySem.W.hasDictIn K C1 = true)
    (iC1 : PySem.W.isClsIn K C1 = true)
    (aC2 : PySem.W.nsIn K mainGlobals "BadText" = some (some (.ref C2)))
    (xL2 : K.lookup C2 = some (excClassObj nm2 q2 C2 N2 bs2 [.ref CE2, .type "ValueError", .type "Exception", .type "BaseException", .type "object"] true sn2 sub2 ab2 col2 dd2 m02 m12 m22 m32 m52 "ValueError.__new__"))
    (sa2 : PySem.W.findIn K (.ref C2) "__setattr__" = some (some (.builtin "object.__setattr__")))
    (ga2 : PySem.W.findIn K (.ref C2) "__getattribute__" = some (some (.builtin "BaseException.__getattribute__")))
    (gg2 : PySem.W.findIn K (.ref C2) "__getattr__" = some none)
    (nW2 : PySem.W.findIn K (.ref C2) "word" = some none)
    (nF2 : PySem.W.findIn K (.ref C2) "at" = some none)
    (aI2 : PySem.W.findIn K (.ref C2) "__init__" = some (some (.ref fI2)))
    (tI2 : PySem.W.typeIn K (.ref fI2) = some (.type "function"))
    (lI2 : K.lookup fI2 = some ⟨ocI2, odI2, .func (PySem.W.fnOf "__init__" "BadText.__init__" (defArgs sTextInit) (defBody sTextInit) (defScope sTextInit) .none kVI2 dcI2 pmI2 anI2 cdI2 ctI2), slI2⟩)
    (cI2 : PySem.W.codeIn K cdI2 "BadText.__init__" = true)
    (kI2 : PySem.W.keepIn K (.ref fI2) = true)
    (kC2 : PySem.W.keepIn K (.ref C2) = true)
    (eC2 : PySem.W.subIn K (.ref C2) (.type "BaseException") = some true)
    (tC2 : PySem.W.typeIn K (.ref C2) = some (.type "type"))
    (hC2 : PySem.W.hasDictIn K C2 = true)
    (iC2 : PySem.W.isClsIn K C2 = true)
    (aE1 : PySem.W.nsIn K mainGlobals "LotError" = some (some (.ref E1)))
    (aE2 : PySem.W.nsIn K mainGlobals "Missing" = some (some (.ref E2)))
    (aE3 : PySem.W.nsIn K mainGlobals "NothingLeft" = some (some (.ref E3)))
    (eE1 : PySem.W.subIn K (.ref E1) (.type "BaseException") = some true)
    (iE1 : PySem.W.isClsIn K E1 = true)
    (tE1 : PySem.W.typeIn K (.ref E1) = some (.type "type"))
    (s1E : PySem.W.subIn K (.ref C1) (.ref E1) = some true)
    (s2E : PySem.W.subIn K (.ref C2) (.ref E1) = some true)
    (s11 : PySem.W.subIn K (.ref C1) (.ref C1) = some true)
    (v6 : PySem.W.nsIn K mainGlobals "MOST_HOLD" = some (some (.int 6 t6)))
    (v5 : PySem.W.nsIn K mainGlobals "MOST_KINDS" = some (some (.int 5 t5)))
    (v3 : PySem.W.nsIn K mainGlobals "MOST_GOODS" = some (some (.int 3 t3)))
    (vF : PySem.W.nsIn K mainGlobals "FIGURES" = some (some (.str "0123456789" tF)))
    (vM : PySem.W.nsIn K mainGlobals "MOST_FIGURES" = some (some (.int 30 tM)))
    (z_len : PySem.W.nsIn K mainGlobals "len" = some none)
    (z_list : PySem.W.nsIn K mainGlobals "list" = some none)
    (z_tuple : PySem.W.nsIn K mainGlobals "tuple" = some none)
    (z_dict : PySem.W.nsIn K mainGlobals "dict" = some none)
    (z_str : PySem.W.nsIn K mainGlobals "str" = some none)
    (z_int : PySem.W.nsIn K mainGlobals "int" = some none)
    (z_bool : PySem.W.nsIn K mainGlobals "bool" = some none)
    (z_isinstance : PySem.W.nsIn K mainGlobals "isinstance" = some none)
    (z_all : PySem.W.nsIn K mainGlobals "all" = some none)
    (z_range : PySem.W.nsIn K mainGlobals "range" = some none)
    (z_sum : PySem.W.nsIn K mainGlobals "sum" = some none)
    (z_min : PySem.W.nsIn K mainGlobals "min" = some none)
    (z_max : PySem.W.nsIn K mainGlobals "max" = some none)
    (z_enumerate : PySem.W.nsIn K mainGlobals "enumerate" = some none)
    : LawAtS l w K CX0 9 63 "_law_script" mg fa h := by
  have e := hfa.symm.trans (PySem.W.mg_of X G aL)
  cases e
  have F0 := fun_mk (st := sIsHold) l0 c0 k0
  have b0 := F0.binds (ps := ["hold", "goods"]) fun _ _ _ _ _ _ us hl => match us, hl with | [_, _], _ => rfl
  have g0 := PySem.W.mg_of X G a0
  have F1 := fun_mk (st := sLook) l1 c1 k1
  have b1 := F1.binds (ps := ["lot"]) fun _ _ _ _ _ _ us hl => match us, hl with | [_], _ => rfl
  have g1 := PySem.W.mg_of X G a1
  have F2 := fun_mk (st := sRowText) l2 c2 k2
  have b2 := F2.binds (ps := ["row"]) fun _ _ _ _ _ _ us hl => match us, hl with | [_], _ => rfl
  have g2 := PySem.W.mg_of X G a2
  have F3 := fun_mk (st := sIsNum) l3 c3 k3
  have b3 := F3.binds (ps := ["word"]) fun _ _ _ _ _ _ us hl => match us, hl with | [_], _ => rfl
  have g3 := PySem.W.mg_of X G a3
  have F4 := fun_mk (st := sReadRow) l4 c4 k4
  have b4 := F4.binds (ps := ["text"]) fun _ _ _ _ _ _ us hl => match us, hl with | [_], _ => rfl
  have g4 := PySem.W.mg_of X G a4
  have F5 := fun_mk (st := sLotText) l5 c5 k5
  have b5 := F5.binds (ps := ["lot"]) fun _ _ _ _ _ _ us hl => match us, hl with | [_], _ => rfl
  have g5 := PySem.W.mg_of X G a5
  have F6 := fun_mk (st := sReadLot) l6 c6 k6
  have b6 := F6.binds (ps := ["text"]) fun _ _ _ _ _ _ us hl => match us, hl with | [_], _ => rfl
  have g6 := PySem.W.mg_of X G a6
  have F7 := fun_mk (st := sFeed) l7 c7 k7
  have b7 := F7.binds (ps := ["_law_script"]) fun _ _ _ _ _ _ us hl => match us, hl with | [_], _ => rfl
  have g7 := PySem.W.mg_of X G a7
  have F8 := fun_mk (st := sDraw) l8 c8 k8
  have b8 := F8.binds (ps := ["_law_feed_here", "_law_many"]) fun _ _ _ _ _ _ us hl => match us, hl with | [_, _], _ => rfl
  have g8 := PySem.W.mg_of X G a8
  have F9 := fun_mk (st := sPick) l9 c9 k9
  have b9 := F9.binds (ps := ["_law_feed_here", "_law_row"]) fun _ _ _ _ _ _ us hl => match us, hl with | [_, _], _ => rfl
  have g9 := PySem.W.mg_of X G a9
  have F10 := fun_mk (st := sSame) l10 c10 k10
  have b10 := F10.binds (ps := ["_law_found", "_law_due"]) fun _ _ _ _ _ _ us hl => match us, hl with | [_, _], _ => rfl
  have g10 := PySem.W.mg_of X G a10
  have F11 := fun_mk (st := sWord) l11 c11 k11
  have b11 := F11.binds (ps := ["_law_ask"]) fun _ _ _ _ _ _ us hl => match us, hl with | [_], _ => rfl
  have g11 := PySem.W.mg_of X G a11
  have F12 := fun_mk (st := sHold) l12 c12 k12
  have b12 := F12.binds (ps := ["_law_feed_here", "_law_goods", "_law_most"]) fun _ _ _ _ _ _ us hl => match us, hl with | [_, _, _], _ => rfl
  have g12 := PySem.W.mg_of X G a12
  have F13 := fun_mk (st := sLot) l13 c13 k13
  have b13 := F13.binds (ps := ["_law_feed_here", "_law_goods", "_law_kinds", "_law_most"]) fun _ _ _ _ _ _ us hl => match us, hl with | [_, _, _, _], _ => rfl
  have g13 := PySem.W.mg_of X G a13
  have F14 := fun_mk (st := sAny) l14 c14 k14
  have b14 := F14.binds (ps := ["_law_feed_here"]) fun _ _ _ _ _ _ us hl => match us, hl with | [_], _ => rfl
  have g14 := PySem.W.mg_of X G a14
  have F15 := fun_mk (st := sRowTextL) l15 c15 k15
  have b15 := F15.binds (ps := ["_law_row"]) fun _ _ _ _ _ _ us hl => match us, hl with | [_], _ => rfl
  have g15 := PySem.W.mg_of X G a15
  have F16 := fun_mk (st := sLotTextL) l16 c16 k16
  have b16 := F16.binds (ps := ["_law_lot_here"]) fun _ _ _ _ _ _ us hl => match us, hl with | [_], _ => rfl
  have g16 := PySem.W.mg_of X G a16
  have F17 := fun_mk (st := sNumIn) l17 c17 k17
  have b17 := F17.binds (ps := ["_law_word_here"]) fun _ _ _ _ _ _ us hl => match us, hl with | [_], _ => rfl
  have g17 := PySem.W.mg_of X G a17
  have F18 := fun_mk (st := sRead) l18 c18 k18
  have b18 := F18.binds (ps := ["_law_mtext"]) fun _ _ _ _ _ _ us hl => match us, hl with | [_], _ => rfl
  have g18 := PySem.W.mg_of X G a18
  have F19 := fun_mk (st := sFlaw) l19 c19 k19
  have b19 := F19.binds (ps := ["_law_mtext"]) fun _ _ _ _ _ _ us hl => match us, hl with | [_], _ => rfl
  have g19 := PySem.W.mg_of X G a19
  have F20 := fun_mk (st := sKind) l20 c20 k20
  have b20 := F20.binds (ps := ["_law_mtext"]) fun _ _ _ _ _ _ us hl => match us, hl with | [_], _ => rfl
  have g20 := PySem.W.mg_of X G a20
  have kb1 : KBn K (PySem.W.fnOf "read_lot" "read_lot" (defArgs sReadLot) (defBody sReadLot) (defScope sReadLot) .none kV6 dc6 pm6 an6 cd6 ct6) ["text"] 0 ["text"] (fun _ ws => ws) (fun _ zs => zs) := ⟨fun s us ws _ h1 h2 => by
    match us, ws, h1, h2 with
    | [], [w0], _, _ => exact .of_eq rfl, fun _ r => r⟩
  have FI1 := fun_mk (st := sBadInit) lI1 cI1 kI1
  have bI1 := FI1.binds (ps := ["self", "kind"]) fun _ _ _ _ _ _ us hl => match us, hl with | [_, _], _ => rfl
  have ox1 : OexC K C1 := ⟨⟨nm1, q1, N1, bs1, _, sn1, sub1, ab1, col1, dd1, m01, m11, m21, m31, m51, xL1, (show PySem.HandSPX.refsVE [.type "ValueError", .type "Exception", .type "BaseException", .type "object"] = true by decide +kernel)⟩, sa1, eC1, tC1, kC1⟩
  have kk1 : Cls2 K C1 "kind" := ⟨ox1, nW1, nF1⟩
  have FI2 := fun_mk (st := sTextInit) lI2 cI2 kI2
  have bI2 := FI2.binds (ps := ["self", "at"]) fun _ _ _ _ _ _ us hl => match us, hl with | [_, _], _ => rfl
  have ox2 : OexC K C2 := ⟨⟨nm2, q2, N2, bs2, _, sn2, sub2, ab2, col2, dd2, m02, m12, m22, m32, m52, xL2, (show PySem.HandSPX.refsVE [.type "ValueError", .type "Exception", .type "BaseException", .type "object"] = true by decide +kernel)⟩, sa2, eC2, tC2, kC2⟩
  have kk2 : Cls2 K C2 "at" := ⟨ox2, nW2, nF2⟩
  have B : Bl mg := ⟨PySem.W.mg_none_of X G z_len, PySem.W.mg_none_of X G z_list, PySem.W.mg_none_of X G z_tuple, PySem.W.mg_none_of X G z_dict, PySem.W.mg_none_of X G z_str, PySem.W.mg_none_of X G z_int, PySem.W.mg_none_of X G z_bool, PySem.W.mg_none_of X G z_isinstance, PySem.W.mg_none_of X G z_all, PySem.W.mg_none_of X G z_range, PySem.W.mg_none_of X G z_sum, PySem.W.mg_none_of X G z_min, PySem.W.mg_none_of X G z_max, PySem.W.mg_none_of X G z_enumerate⟩
  have M : Consts mg := ⟨⟨_, PySem.W.mg_of X G v6⟩, ⟨_, PySem.W.mg_of X G v5⟩, ⟨_, PySem.W.mg_of X G v3⟩⟩
  have MT : ConstsT mg := ⟨⟨_, PySem.W.mg_of X G vF⟩, ⟨_, PySem.W.mg_of X G vM⟩⟩
  refine ⟨PySem.W.fnOf "law" "law" (defArgs sLaw) (defBody sLaw) (defScope sLaw) .none kVL dcL pmL anL (.ref cL) ctL, [(cL, Pt)], spLaw K Pt, fun p hp => ?_, fun p hp => ?_, fun p hp => ?_, fun s u => .of_eq rfl, fun H a ns hl _ hH hS => ⟨a, ns, rfl, hS, hl, fun p hp => ?_, fun _ => rfl⟩, fun base KB GB TB => ?_⟩
  · rw [List.mem_singleton.mp hp]; exact hTab
  · rw [List.mem_singleton.mp hp]; exact nP
  · rw [List.mem_singleton.mp hp]; exact PySem.W.codeHd_of_K X hd
  · rw [List.mem_singleton.mp hp]; exact TabS.nil (hH (cL, Pt) List.mem_cons_self)
  · have Tb := TB (cL, Pt) List.mem_cons_self
    have cDraw : Cal l.prog w K mg base CX0 1 "_law_draw" ["_law_feed_here", "_law_many"] spDraw := ⟨⟨f8, _, ok_draw F8 B.len, g8, k8, b8⟩⟩
    have cPick : Cal l.prog w K mg base CX0 2 "_law_pick" ["_law_feed_here", "_law_row"] spPick := ⟨⟨f9, _, ok_pick F9 B.len cDraw, g9, k9, b9⟩⟩
    have cHold : Cal l.prog w K mg base CX0 2 "_law_hold" ["_law_feed_here", "_law_goods", "_law_most"] spHold := ⟨⟨f12, _, ok_hold F12 B cDraw, g12, k12, b12⟩⟩
    have cLot : Cal l.prog w K mg base CX0 3 "_law_lot" ["_law_feed_here", "_law_goods", "_law_kinds", "_law_most"] spLot := ⟨⟨f13, _, ok_lot F13 B cDraw cHold, g13, k13, b13⟩⟩
    have cIH : Cal l.prog w K mg base CX0 1 "is_hold" ["hold", "goods"] spIsHold := ⟨⟨f0, _, ok_isHold F0 B M, g0, k0, b0⟩⟩
    have bad1 : BadTxt l.prog w K mg base "BadLot" C1 "kind" "bad lot" := ⟨kk1, PySem.W.mg_of X G aC1, fI1, _, aI1, tI1, ok_badInit FI1 kk1, bI1⟩
    have bad2 : BadTxt l.prog w K mg base "BadText" C2 "at" "bad text" := ⟨kk2, PySem.W.mg_of X G aC2, fI2, _, aI2, tI2, ok_textInit FI2 kk2, bI2⟩
    have cLk : Cal l.prog w K mg base (L2.CX l.prog w) 3 "look_lot" ["lot"] (spLook C1) := ⟨⟨f1, _, ok_look F1 B M bad1 cIH, g1, k1, b1⟩⟩
    have cRT : Cal l.prog w K mg base CX0 1 "row_text" ["row"] (spRowText K) := ⟨⟨f2, _, ok_rowText F2 B, g2, k2, b2⟩⟩
    have cRTL : Cal l.prog w K mg base CX0 1 "_law_row_text" ["_law_row"] (spRowText K) := ⟨⟨f15, _, ok_rowTextL F15 B, g15, k15, b15⟩⟩
    have cIN : Cal l.prog w K mg base CX0 1 "is_number" ["word"] spIsNum := ⟨⟨f3, _, ok_isNum F3 B MT, g3, k3, b3⟩⟩
    have cRR : Cal l.prog w K mg base (L2.CX l.prog w) 3 "read_row" ["text"] (spReadRow C2) := ⟨⟨f4, _, ok_readRow F4 B bad2 cIN, g4, k4, b4⟩⟩
    have cRL : Cal l.prog w K mg base (L2.CX l.prog w) 4 "read_lot" ["text"] (spReadLot C2 C1) := ⟨⟨f6, _, ok_readLot F6 B cLk cRR, g6, k6, b6⟩⟩
    have cNI : Cal l.prog w K mg base CX0 1 "_law_number_in" ["_law_word_here"] spNumIn := ⟨⟨f17, _, ok_numIn F17 B, g17, k17, b17⟩⟩
    have T : Txt l.prog w K mg base C2 C1 E1 E2 E3 := {
        B := B
        feed := ⟨⟨f7, _, ok_feed F7 B.list, g7, k7, b7⟩⟩
        draw := cDraw
        pick := cPick
        same3 := ⟨⟨f10, _, ok_same F10 B g10 b10 3, g10, k10, b10⟩⟩
        any := ⟨⟨f14, _, ok_any F14 cDraw cPick cLot, g14, k14, b14⟩⟩
        lt := ⟨⟨f16, _, ok_lotTextL F16 cRTL, g16, k16, b16⟩⟩
        rd := ⟨⟨f18, _, ok_read F18 B cNI, g18, k18, b18⟩⟩
        kd := ⟨⟨f20, _, ok_kind F20 ⟨ga1, gg1, eC1, hC1⟩ nF1 (PySem.W.mg_of X G aC1) (exm_by eC1 iC1 tC1 s11) cRL, g20, k20, b20⟩⟩
        fw := ⟨⟨f19, _, ok_flaw F19 B, g19, k19, b19⟩⟩
        lot := ⟨⟨f5, _, ok_lotText F5 cLk cRT, g5, k5, b5⟩⟩
        rl := ⟨f6, _, ok_readLot F6 B cLk cRR, g6, k6, b6, kb1⟩
        word := ⟨f11, oc11, od11, kV11, dc11, pm11, an11, cd11, ct11, sl11, g11, k11, l11, c11, b11⟩
        cls := ⟨PySem.W.mg_of X G aE1, PySem.W.mg_of X G aE2, PySem.W.mg_of X G aE3⟩
        fT := ⟨⟨ga2, gg2, eC2, hC2⟩, nW2, exm_by eE1 iE1 tE1 s2E, fun z => Bool.noConfusion z⟩
        fC := ⟨⟨ga1, gg1, eC1, hC1⟩, nW1, exm_by eE1 iE1 tE1 s1E, fun z => Bool.noConfusion z⟩ }
    exact ok_law lL cdL T Tb
end HL

open PySem PySem.W PyProof.Rows
set_option maxHeartbeats 0 in
theorem PySem.Challenge.cw_hamperlot_k06_lots_written_and_read_holds : PySem.Challenge.rw_hamperlot_k06_lots_written_and_read.Holds := by
  w_on; o_law; k_head; (case hw => w_witness2)
  k_fill
  refine LamX.walk_ofTs (l := PySem.Challenge.rw_hamperlot_k06_lots_written_and_read) (n := 63) (k := 9) (x := "_law_script") (CX := fun _ => L2.CX0) rfl (by decide) rfl ⟨rfl, by decide, by decide⟩ (fun w h Y => PySem.W.km_in_of Y) ?F (fun _ _ _ _ _ h => h)
  case F =>
    intro w mg fa h Y KX G hmg
    refine' HL.all_mk KX G hmg (PySem.W.km_tabs_of Y _ (List.mem_cons_self))  ?a0 ?l0 ?c0 ?k0 ?a1 ?l1 ?c1 ?k1 ?a2 ?l2 ?c2 ?k2 ?a3 ?l3 ?c3 ?k3 ?a4 ?l4 ?c4 ?k4 ?a5 ?l5 ?c5 ?k5 ?a6 ?l6 ?c6 ?k6 ?a7 ?l7 ?c7 ?k7 ?a8 ?l8 ?c8 ?k8 ?a9 ?l9 ?c9 ?k9 ?a10 ?l10 ?c10 ?k10 ?a11 ?l11 ?c11 ?k11 ?a12 ?l12 ?c12 ?k12 ?a13 ?l13 ?c13 ?k13 ?a14 ?l14 ?c14 ?k14 ?a15 ?l15 ?c15 ?k15 ?a16 ?l16 ?c16 ?k16 ?a17 ?l17 ?c17 ?k17 ?a18 ?l18 ?c18 ?k18 ?a19 ?l19 ?c19 ?k19 ?a20 ?l20 ?c20 ?k20 ?aL ?lL ?cdL ?nP ?hd ?aC1 ?xL1 ?sa1 ?ga1 ?gg1 ?nW1 ?nF1 ?aI1 ?tI1 ?lI1 ?cI1 ?kI1 ?kC1 ?eC1 ?tC1 ?hC1 ?iC1 ?aC2 ?xL2 ?sa2 ?ga2 ?gg2 ?nW2 ?nF2 ?aI2 ?tI2 ?lI2 ?cI2 ?kI2 ?kC2 ?eC2 ?tC2 ?hC2 ?iC2 ?aE1 ?aE2 ?aE3 ?eE1 ?iE1 ?tE1 ?s1E ?s2E ?s11 ?v6 ?v5 ?v3 ?vF ?vM ?z_len ?z_list ?z_tuple ?z_dict ?z_str ?z_int ?z_bool ?z_isinstance ?z_all ?z_range ?z_sum ?z_min ?z_max ?z_enumerate
    (case a0 => first | k_is | rfl)
    (case l0 => first | k_is | rfl)
    (case c0 => first | k_is | rfl)
    (case k0 => first | k_is | rfl)
    (case a1 => first | k_is | rfl)
    (case l1 => first | k_is | rfl)
    (case c1 => first | k_is | rfl)
    (case k1 => first | k_is | rfl)
    (case a2 => first | k_is | rfl)
    (case l2 => first | k_is | rfl)
    (case c2 => first | k_is | rfl)
    (case k2 => first | k_is | rfl)
    (case a3 => first | k_is | rfl)
    (case l3 => first | k_is | rfl)
    (case c3 => first | k_is | rfl)
    (case k3 => first | k_is | rfl)
    (case a4 => first | k_is | rfl)
    (case l4 => first | k_is | rfl)
    (case c4 => first | k_is | rfl)
    (case k4 => first | k_is | rfl)
    (case a5 => first | k_is | rfl)
    (case l5 => first | k_is | rfl)
    (case c5 => first | k_is | rfl)
    (case k5 => first | k_is | rfl)
    (case a6 => first | k_is | rfl)
    (case l6 => first | k_is | rfl)
    (case c6 => first | k_is | rfl)
    (case k6 => first | k_is | rfl)
    (case a7 => first | k_is | rfl)
    (case l7 => first | k_is | rfl)
    (case c7 => first | k_is | rfl)
    (case k7 => first | k_is | rfl)
    (case a8 => first | k_is | rfl)
    (case l8 => first | k_is | rfl)
    (case c8 => first | k_is | rfl)
    (case k8 => first | k_is | rfl)
    (case a9 => first | k_is | rfl)
    (case l9 => first | k_is | rfl)
    (case c9 => first | k_is | rfl)
    (case k9 => first | k_is | rfl)
    (case a10 => first | k_is | rfl)
    (case l10 => first | k_is | rfl)
    (case c10 => first | k_is | rfl)
    (case k10 => first | k_is | rfl)
    (case a11 => first | k_is | rfl)
    (case l11 => first | k_is | rfl)
    (case c11 => first | k_is | rfl)
    (case k11 => first | k_is | rfl)
    (case a12 => first | k_is | rfl)
    (case l12 => first | k_is | rfl)
    (case c12 => first | k_is | rfl)
    (case k12 => first | k_is | rfl)
    (case a13 => first | k_is | rfl)
    (case l13 => first | k_is | rfl)
    (case c13 => first | k_is | rfl)
    (case k13 => first | k_is | rfl)
    (case a14 => first | k_is | rfl)
    (case l14 => first | k_is | rfl)
    (case c14 => first | k_is | rfl)
    (case k14 => first | k_is | rfl)
    (case a15 => first | k_is | rfl)
    (case l15 => first | k_is | rfl)
    (case c15 => first | k_is | rfl)
    (case k15 => first | k_is | rfl)
    (case a16 => first | k_is | rfl)
    (case l16 => first | k_is | rfl)
    (case c16 => first | k_is | rfl)
    (case k16 => first | k_is | rfl)
    (case a17 => first | k_is | rfl)
    (case l17 => first | k_is | rfl)
    (case c17 => first | k_is | rfl)
    (case k17 => first | k_is | rfl)
    (case a18 => first | k_is | rfl)
    (case l18 => first | k_is | rfl)
    (case c18 => first | k_is | rfl)
    (case k18 => first | k_is | rfl)
    (case a19 => first | k_is | rfl)
    (case l19 => first | k_is | rfl)
    (case c19 => first | k_is | rfl)
    (case k19 => first | k_is | rfl)
    (case a20 => first | k_is | rfl)
    (case l20 => first | k_is | rfl)
    (case c20 => first | k_is | rfl)
    (case k20 => first | k_is | rfl)
    (case aL => first | k_is | rfl)
    (case lL => first | k_is | rfl)
    (case cdL => first | k_is | rfl)
    (case nP => first | k_is | rfl)
    (case hd => first | k_is | rfl)
    (case aC1 => first | k_is | rfl)
    (case xL1 => first | k_is | rfl)
    (case sa1 => first | k_is | rfl)
    (case ga1 => first | k_is | rfl)
    (case gg1 => first | k_is | rfl)
    (case nW1 => first | k_is | rfl)
    (case nF1 => first | k_is | rfl)
    (case aI1 => first | k_is | rfl)
    (case tI1 => first | k_is | rfl)
    (case lI1 => first | k_is | rfl)
    (case cI1 => first | k_is | rfl)
    (case kI1 => first | k_is | rfl)
    (case kC1 => first | k_is | rfl)
    (case eC1 => first | k_is | rfl)
    (case tC1 => first | k_is | rfl)
    (case hC1 => first | k_is | rfl)
    (case iC1 => first | k_is | rfl)
    (case aC2 => first | k_is | rfl)
    (case xL2 => first | k_is | rfl)
    (case sa2 => first | k_is | rfl)
    (case ga2 => first | k_is | rfl)
    (case gg2 => first | k_is | rfl)
    (case nW2 => first | k_is | rfl)
    (case nF2 => first | k_is | rfl)
    (case aI2 => first | k_is | rfl)
    (case tI2 => first | k_is | rfl)
    (case lI2 => first | k_is | rfl)
    (case cI2 => first | k_is | rfl)
    (case kI2 => first | k_is | rfl)
    (case kC2 => first | k_is | rfl)
    (case eC2 => first | k_is | rfl)
    (case tC2 => first | k_is | rfl)
    (case hC2 => first | k_is | rfl)
    (case iC2 => first | k_is | rfl)
    (case aE1 => first | k_is | rfl)
    (case aE2 => first | k_is | rfl)
    (case aE3 => first | k_is | rfl)
    (case eE1 => first | k_is | rfl)
    (case iE1 => first | k_is | rfl)
    (case tE1 => first | k_is | rfl)
    (case s1E => first | k_is | rfl)
    (case s2E => first | k_is | rfl)
    (case s11 => first | k_is | rfl)
    (case v6 => first | k_is | rfl)
    (case v5 => first | k_is | rfl)
    (case v3 => first | k_is | rfl)
    (case vF => first | k_is | rfl)
    (case vM => first | k_is | rfl)
    (case z_len => first | k_is | rfl)
    (case z_list => first | k_is | rfl)
    (case z_tuple => first | k_is | rfl)
    (case z_dict => first | k_is | rfl)
    (case z_str => first | k_is | rfl)
    (case z_int => first | k_is | rfl)
    (case z_bool => first | k_is | rfl)
    (case z_isinstance => first | k_is | rfl)
    (case z_all => first | k_is | rfl)
    (case z_range => first | k_is | rfl)
    (case z_sum => first | k_is | rfl)
    (case z_min => first | k_is | rfl)
    (case z_max => first | k_is | rfl)
    (case z_enumerate => first | k_is | rfl)

