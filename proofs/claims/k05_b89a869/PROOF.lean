import PyProof.Rows.All
import Wide.All
import OpenK.AllK
import Wide.FinOn
import PySem.Challenge.RW_hamperlot_k05_rows_written_and_read
import HandS.ForMost
import HandS.Exc
import HandS.TryOnly
import HandS.ExcInit
import HandS.ExcField
import HandS.WordsExc
import HandS.Lambda
import HandS.EndTab
import HandS.IsInst
import HandS.TupMul
import HandS.TupAny
import HandS.Walk
import HandS.Defaults
import KE.KTupSum
import KE.DatumOrd
import KE.GoesEnum
import HandS.TryMany
import HandS.Wide
import HandS.Zip
import HandS.Text
import HandS.StrMore
import HandS.Codes
import HandS.Deep
import KE.KNestM
set_option Elab.async false
set_option linter.all false
set_option maxRecDepth 100000
set_option maxHeartbeats 4000000
/-! Rules of one's own beside the layer's: sum, max, min of a tuple of ints; enumerate of a tuple; a tuple times 1. -/
namespace HL
open PySem PySem.Spec PyProof.Rows L2
section
variable {X : Cx}
theorem tupI {pins : List (Addr × Obj)} {σ : L2.St} {H : Hp} {s : Shared} {a : Addr} {ns : List Int} (I : Inv X pins σ H s) (h : SqT X.K H a (ns.map V.int)) :
    ∃ its : List Value, IntsAre its ns ∧ s.heap.IsTuple a its.toArray := by
  obtain ⟨its, rv, ⟨o, ho, hc, n, hd⟩, _⟩ := I.tuple h
  exact ⟨its, rv.ints, o, ho, hc, n, hd⟩
/-- sum(t) -/
def rSumT (K : PySem.W.Frag) : List V → Hp → VK → Prop := fun vs H Q =>
  ∃ (a : Addr) (ns : List Int), vs = [V.ref a] ∧ SqT K H a (ns.map V.int) ∧ Q (.int ns.sum) H
theorem cr_sumT (hc : X.calm = true) : CallR X (.builtin "sum") (rSumT X.K) := by
  intro pins s σ H vs us Q I r h
  obtain ⟨a, ns, rfl, hs, q⟩ := h
  obtain ⟨its, hi, hl⟩ := tupI I hs
  rw [Vals.ref1 r]
  obtain ⟨xs, e⟩ := hi.allInts.items
  have hn : numsOf (intItems xs).toList = ns := by
    rw [← e]
    exact hi.numsOf
  rw [nums_intItems] at hn
  rw [e] at hl
  refine PySem.W.ktm_sumG (I.ok.hd hc) hl fun h' tk t' hk => ?_
  rw [preSum_eq]
  rw [List.take_of_length_le (by simp), hn]
  exact ⟨.int _, H, I.kept hk, ⟨_, rfl⟩, q⟩
theorem maxOf_le (x : Int) (xs : List Int) : PySem.W.maxOf x xs ∈ x :: xs ∧ ∀ y ∈ x :: xs, y ≤ PySem.W.maxOf x xs := by
  induction xs generalizing x with
  | nil => exact ⟨List.mem_cons_self, fun y hy => by simp at hy; subst hy; exact Int.le_refl _⟩
  | cons z zs ih =>
    have e : PySem.W.maxOf x (z :: zs) = PySem.W.maxOf (if PySem.W.DatumOrd.lt x z = true then z else x) zs := rfl
    have d : (PySem.W.DatumOrd.lt x z = true) ↔ x < z := by
      show decide (x < z) = true ↔ x < z
      exact decide_eq_true_iff
    rw [e]
    by_cases c : x < z
    · rw [if_pos (d.mpr c)]
      obtain ⟨h1, h2⟩ := ih z
      refine ⟨List.mem_cons_of_mem _ h1, fun y hy => ?_⟩
      rcases List.mem_cons.mp hy with r | r
      · have := h2 z List.mem_cons_self
        omega
      · exact h2 y r
    · rw [if_neg (fun q => c (d.mp q))]
      obtain ⟨h1, h2⟩ := ih x
      refine ⟨?_, fun y hy => ?_⟩
      · rcases List.mem_cons.mp h1 with r | r
        · rw [r]; exact List.mem_cons_self
        · exact List.mem_cons_of_mem _ (List.mem_cons_of_mem _ r)
      · rcases List.mem_cons.mp hy with r | r
        · have := h2 x List.mem_cons_self
          omega
        · rcases List.mem_cons.mp r with r | r
          · have := h2 x List.mem_cons_self
            omega
          · exact h2 y (List.mem_cons_of_mem _ r)
theorem minOf_le (x : Int) (xs : List Int) : PySem.W.minOf x xs ∈ x :: xs ∧ ∀ y ∈ x :: xs, PySem.W.minOf x xs ≤ y := by
  induction xs generalizing x with
  | nil => exact ⟨List.mem_cons_self, fun y hy => by simp at hy; subst hy; exact Int.le_refl _⟩
  | cons z zs ih =>
    have e : PySem.W.minOf x (z :: zs) = PySem.W.minOf (if PySem.W.DatumOrd.lt z x = true then z else x) zs := rfl
    have d : (PySem.W.DatumOrd.lt z x = true) ↔ z < x := by
      show decide (z < x) = true ↔ z < x
      exact decide_eq_true_iff
    rw [e]
    by_cases c : z < x
    · rw [if_pos (d.mpr c)]
      obtain ⟨h1, h2⟩ := ih z
      refine ⟨List.mem_cons_of_mem _ h1, fun y hy => ?_⟩
      rcases List.mem_cons.mp hy with r | r
      · have := h2 z List.mem_cons_self
        omega
      · exact h2 y r
    · rw [if_neg (fun q => c (d.mp q))]
      obtain ⟨h1, h2⟩ := ih x
      refine ⟨?_, fun y hy => ?_⟩
      · rcases List.mem_cons.mp h1 with r | r
        · rw [r]; exact List.mem_cons_self
        · exact List.mem_cons_of_mem _ (List.mem_cons_of_mem _ r)
      · rcases List.mem_cons.mp hy with r | r
        · have := h2 x List.mem_cons_self
          omega
        · rcases List.mem_cons.mp r with r | r
          · have := h2 x List.mem_cons_self
            omega
          · exact h2 y (List.mem_cons_of_mem _ r)
/-- max(t), min(t) of ints -/
def rMaxT (K : PySem.W.Frag) : List V → Hp → VK → Prop := fun vs H Q =>
  ∃ (a : Addr) (ns : List Int), vs = [V.ref a] ∧ SqT K H a (ns.map V.int) ∧ 0 < ns.length ∧ ∀ m, m ∈ ns → (∀ y ∈ ns, y ≤ m) → Q (.int m) H
def rMinT (K : PySem.W.Frag) : List V → Hp → VK → Prop := fun vs H Q =>
  ∃ (a : Addr) (ns : List Int), vs = [V.ref a] ∧ SqT K H a (ns.map V.int) ∧ 0 < ns.length ∧ ∀ m, m ∈ ns → (∀ y ∈ ns, m ≤ y) → Q (.int m) H
theorem int_of_holds {h : Heap} {v : Value} {x : Int} (H : PySem.W.Holds h v x) : ∃ t, v = Value.int x t := by
  have z := PySem.W.HoldAll.toInts (PySem.W.HoldAll.cons H PySem.W.HoldAll.nil)
  cases z with
  | cons n t z => exact ⟨t, rfl⟩
theorem cr_maxT (hc : X.calm = true) (hu : X.A.units + 64 < cLine) : CallR X (.builtin "max") (rMaxT X.K) := by
  intro pins s σ H vs us Q I r h
  obtain ⟨a, ns, rfl, hs, hne, q⟩ := h
  obtain ⟨its, hi, hl⟩ := tupI I hs
  rw [Vals.ref1 r]
  cases ns with
  | nil => simp at hne
  | cons x xs =>
    refine PySem.W.max_tuple_datum (x := x) (xs := xs) (I.ok.hd hc) hl (PySem.W.HoldAll.of_ints (by simpa using hi)) (by show X.A.units + 1 + 0 < cLine; omega) fun i v h' tk _ hv hk => ?_
    obtain ⟨t, rfl⟩ := int_of_holds hv
    obtain ⟨h1, h2⟩ := maxOf_le x xs
    exact ⟨.int _, H, I.kept hk, ⟨_, rfl⟩, q _ h1 h2⟩
theorem cr_minT (hc : X.calm = true) (hu : X.A.units + 64 < cLine) : CallR X (.builtin "min") (rMinT X.K) := by
  intro pins s σ H vs us Q I r h
  obtain ⟨a, ns, rfl, hs, hne, q⟩ := h
  obtain ⟨its, hi, hl⟩ := tupI I hs
  rw [Vals.ref1 r]
  cases ns with
  | nil => simp at hne
  | cons x xs =>
    refine PySem.W.min_tuple_datum (x := x) (xs := xs) (I.ok.hd hc) hl (PySem.W.HoldAll.of_ints (by simpa using hi)) (by show X.A.units + 1 + 0 < cLine; omega) fun i v h' tk _ hv hk => ?_
    obtain ⟨t, rfl⟩ := int_of_holds hv
    obtain ⟨h1, h2⟩ := minOf_le x xs
    exact ⟨.int _, H, I.kept hk, ⟨_, rfl⟩, q _ h1 h2⟩
end
end HL

namespace HL
open PySem PySem.Spec PyProof.Rows L2
open AutoSeq1 (wpAny_loadPart')
/-! enumerate(t), t a tuple -/
abbrev oIt (t : Addr) : Obj := { cls := .type "tuple_iterator", data := .fields #[.ref t, .int 0 0] }
abbrev oEn (i : Addr) : Obj := { cls := .type "enumerate", data := .fields #[.none, .bool false, .ref i, rawInt 0, .none, .none] }
theorem meets_enumT (t : Addr) (items : Array Value) (o : Obj) (tyE : ∀ h : Heap, h.get? t = some o → h.IsTuple t items) :
    Meets (Builtin.«enumerate.__new__» ⟨[.type "enumerate", .ref t], []⟩)
      (fun _ R s => s.heap.get? t = some o ∧ R (.ok (.ret (.ref (s.heap.push (oIt t)).objs.size))) { s with heap := (s.heap.push (oIt t)).push (oEn s.heap.objs.size) }) :=
  .of_wp fun prog w A R s h => by
    obtain ⟨hp, g, d, tk, os⟩ := s
    obtain ⟨hl, h⟩ := h
    have hsub := sub_enumerate
    have hL : Heap.IsTuple (Shared.heap ⟨hp, g, d, tk, os⟩) t items := tyE _ hl
    wp_walk using wpAny_loadPart' hl
    refine wpAny_stack_any fun stk => wpAny_pure ?_
    split
    · rename_i c _ _ _ _ _
      cases (c == Value.type "enumerate") <;> (wp_walk using wpAny_loadPart' hl, wpAny_pyIter_tuple hL; exact ⟨_, rfl, h⟩)
    · wp_walk using wpAny_loadPart' hl, wpAny_pyIter_tuple hL
      exact ⟨_, rfl, h⟩
theorem call_enumT {prog : Program} {w : World} {A : Around} {E : Value → Shared → Prop} {s : Shared} {t : Addr} {items : Array Value} {Q : Value → Shared → Prop} (hL : s.heap.IsTuple t items)
    (h : ∀ h', IsEnum h' (s.heap.objs.size + 1) s.heap.objs.size 0 .none → h'.IsTupleIter s.heap.objs.size t 0 →
      (∀ b o, s.heap.get? b = some o → h'.get? b = some o) → Q (.ref (s.heap.objs.size + 1)) { s with heap := h' }) :
    wpAny (model prog w) A (call (.type "enumerate") [.ref t]) Q E s := by
  obtain ⟨o, hl, hc, n, hd⟩ := hL
  refine callType_new F.called_enumerate (by decide) (F.typeCall_enumerate_1 _) (F.newCall_enumerate_1 _) (fun obj => F.args_object_init_2 obj _) F.entry_enumerate_new
    (meets_enumT t items o fun h' e => ⟨o, e, hc, n, hd⟩) ⟨hl, ?_⟩
  have hz : (s.heap.push (oIt t)).objs.size = s.heap.objs.size + 1 := Heap.size_push ..
  show _ ∧ _
  rw [hz]
  have hen : IsEnum ((s.heap.push (oIt t)).push (oEn s.heap.objs.size)) (s.heap.objs.size + 1) s.heap.objs.size 0 .none := by
    have q := Heap.get?_push_size (s.heap.push (oIt t)) (o := oEn s.heap.objs.size) rfl
    rw [hz] at q
    exact q
  exact ⟨⟨_, hen, rfl⟩, h _ hen ⟨_, Heap.get?_push_of_some _ (Heap.get?_push_size _ rfl), rfl, rfl⟩ fun b o x => Heap.get?_push_of_some _ (Heap.get?_push_of_some _ x)⟩
theorem enum_endT {prog : Program} {w : World} {A : Around} {E : Value → Shared → Prop} {s : Shared} {e it t : Addr} {i : Nat} {items : Array Value} {old : Value} {Q : Option Value → Shared → Prop}
    (hh : A.handled = none) (hen : IsEnum s.heap e it i old) (hit : s.heap.IsTupleIter it t i) (hl : s.heap.IsTuple t items) (hx : items[i]? = none)
    (wish : ∀ h', Heap.ExtBut it s.heap h' → Q none { s with heap := h' }) : wpAny (model prog w) A (pyNext (.ref e)) Q E s := by
  have tyE : s.TypeIs (.ref e) "enumerate" := ⟨_, hen, rfl⟩
  unfold pyNext
  refine wpAny_bind (wpAny_attempt (wpAny_callSpecial?_slot (name := Str.ofString "__next__") tyE F.slot_enumerate_next (wpAny_call_entry F.slot_enumerate_next tyE F.entry_enumerate_next ?_ (F.args_enumerate_next_1 _))))
  show wpAny _ _ (field (.ref e) 2 >>= _) _ _ _
  refine wpAny_bind (wpAny_field hen rfl (x := .ref it) rfl (wpAny_bind (wpAny_nextOf_tuple_end hh hit hl hx fun h' x hen' hx' => ?_)))
  obtain ⟨o, ho, hc⟩ := hx'
  exact wpAny_bind (wpAny_isInstance (T := "StopIteration") (b := true) ⟨o, ho, hc⟩ isSubtype_stop (wpAny_pure (wish _ hen')))
/-- the tuple at a, each item in a new pair -/
def IteT (K : PySem.W.Frag) (a : Addr) : It where
  go := fun i H => ∃ (xs : List V) (x : V), SqT K H a xs ∧ xs[i]? = some x
  yld := fun i H v H' => ∃ T x, v = .ref T ∧ H T = none ∧ H' = upd H T (.tup [.int (i : Nat), x]) ∧ ∀ xs, SqT K H a xs → xs[i]? = some x
  stop := fun i H => ∃ xs : List V, SqT K H a xs ∧ xs.length ≤ i
theorem turn_enumT {P : Program} {w : World} {K : PySem.W.Frag} {elts : List Expr} {kk : Nat} {tpos : Pos} (a e it : Addr) (hai : a ≠ it) :
    Turn P w K (.Tuple elts kk tpos) (IteT K a) [e, it] e (fun i h => (∃ old, IsEnum h e it ((i : Nat) : Int) old) ∧ h.IsTupleIter it a i ∧ e ≠ it ∧ e ≠ a) where
  mem := by simp
  obj := fun i h sta b hb => by
    obtain ⟨⟨old, hen⟩, ⟨o, ho, hc, hd⟩, _⟩ := sta
    have e' : b = e ∨ b = it := by simpa using hb
    rcases e' with z | z
    · rw [z]
      exact ⟨_, hen, fun v q => nomatch q⟩
    · rw [z]
      exact ⟨o, ho, fun v q => by rw [hd] at q; cases q⟩
  keep := fun i h h' sta k => by
    obtain ⟨⟨old, hen⟩, hi, hne⟩ := sta
    exact ⟨⟨old, k e (by simp) _ hen⟩, hi.at fun o q => k it (by simp) o q, hne⟩
  item := by
    intro X hP hw hK hc i pins s σ H E I fpk sta hg
    subst hP hw hK
    obtain ⟨⟨old, hen⟩, hit, hne, hea⟩ := sta
    obtain ⟨xs, x, hq, hx⟩ := hg
    obtain ⟨its, rv, ⟨ot, hot, hct, nt, hdt⟩, hz⟩ := I.tuple hq
    have tyE : s.heap.IsTuple a its.toArray := ⟨ot, hot, hct, nt, hdt⟩
    obtain ⟨u, hu, ru⟩ := rv.get hx
    have hlt : i < its.toArray.size := by
      have := (List.getElem?_eq_some_iff.mp hu).1
      simpa using this
    have elt : e < s.heap.objs.size := Heap.lt_size hen
    have hil : it < s.heap.objs.size := by
      obtain ⟨_, q, _⟩ := hit
      exact Heap.lt_size q
    refine wpAny_pyNext_enum_itemD (Draws.tuple (A := X.A.in1) (I.ok.hd hc) it a hai its.toArray) hen ⟨hit, tyE⟩ hlt hne (by simp [hne, hea]) fun z h' tk hz' ho hit' hTn hsz kep => ?_
    have ez : z = u := by
      have q : its[i]? = some z := by simpa using hz'
      rw [hu] at q
      exact (Option.some.inj q).symm
    subst ez
    refine ⟨_, rfl, wpAny_letOwnedTupleGo_enum (s := { s with heap := h', toks := tk + 1 }) ho fun h'' hen' smb => ?_⟩
    have hT2 : h''.get? s.heap.objs.size = some { cls := .type "tuple", data := .seq #[.int i tk, z] } := (smb.2 _ (Nat.ne_of_gt elt)).trans hTn
    have new : ObjOk X.prog X.w (upd H s.heap.objs.size (.tup [.int (i : Nat), x])) h'' s.heap.objs.size (.tup [.int (i : Nat), x]) :=
      ⟨by show 2 ≤ sizeLine; decide, [.int i tk, z], .cons ⟨_, rfl⟩ (.cons ru .nil), ⟨_, hT2, rfl, _, rfl⟩⟩
    have I1 : Inv X pins σ (upd H s.heap.objs.size (.tup [.int (i : Nat), x])) { s with heap := h'', toks := tk + 1 } :=
      I.turnedNew (ch := [e, it]) (fun b ob hb q => (smb.2 b (fun z => hb (by simp [z]))).trans (kep b ob (fun z => hb (by simp [z])) (fun z => hb (by simp [z])) q)) fpk (Nat.le_refl _) new
    refine ⟨.ref s.heap.objs.size, _, I1, rfl, ⟨_, x, rfl, I.hok.fresh (Nat.le_refl _), rfl, fun ys hy => ?_⟩, ⟨⟨z, ?_⟩, hit'.1.at fun o q => (smb.2 it (Ne.symm hne)).trans q, hne, hea⟩, fun b hb => ?_⟩
    · rw [I.tuple_inj hy hq]
      exact hx
    · have eqi : ((i + 1 : Nat) : Int) = (i : Int) + 1 := by omega
      rw [eqi]
      exact hen'
    · have hb' : b < s.heap.objs.size := by
        have e' : b = e ∨ b = it := by simpa using hb
        rcases e' with z | z
        · rw [z]
          exact elt
        · rw [z]
          exact hil
      rw [upd_ne (Nat.ne_of_lt hb')]
      exact (fpk b hb).1
  done := by
    intro X hP hw hK hc i pins s σ H E I fpk sta hg
    subst hP hw hK
    obtain ⟨⟨old, hen⟩, hit, hne, hea⟩ := sta
    obtain ⟨xs, hq, hx⟩ := hg
    obtain ⟨its, rv, ⟨ot, hot, hct, nt, hdt⟩, hz⟩ := I.tuple hq
    obtain ⟨p0, p1, p2, p3, p4, p5⟩ := fpk it (by simp)
    have hl := rv.length
    refine enum_endT (I.ok.hd hc) hen hit ⟨ot, hot, hct, nt, hdt⟩ (by simp; omega) fun h' eb => ⟨rfl, I.turned (t' := s.toks) (fun b o hb q => eb b o hb q) p0 p1 p3 p4 p5⟩
  self := fun A i s Q E sta h => let ⟨⟨_, hen⟩, _⟩ := sta; wpAny_pyIter_enum hen h
def iEnumT (K : PySem.W.Frag) (ta : TA) : TI := fun σ H R => ta σ H fun vs H1 => ∃ a xs, vs = [.ref a] ∧ SqT K H1 a xs ∧ R (IteT K a) H1
theorem pi_enumT {X : Cx} {e : Expr} {ta : TA} {p pos tpos : Pos} {elts : List Expr} {kk : Nat} (hg : Gl X "enumerate") (hm : X.mg "enumerate" = none) (ha : PA X [e] ta)
    (hs : starEach [e] X.env = [(false, eval e X.env)] := by rfl) : PI X (.Tuple elts kk tpos) (.Call (.Name "enumerate" p) [e] [] pos) (iEnumT X.K ta) := by
  refine ⟨fun pins s σ H R I h => ?_⟩
  refine Call_ (ld_blt I hg hm boot_enumerate (PyProof.Rows.callWith_type1 (thn (ha.run pos pins s σ H _ I h) fun us sA ⟨vs, H1, I1, r1, q1⟩ => ?_) hs rfl))
  obtain ⟨a, xs, ex, hq, q⟩ := q1
  subst ex
  rw [Vals.ref1 r1]
  obtain ⟨its, rv, ⟨ot, hot, hct, nt, hdt⟩, hz⟩ := I1.tuple hq
  have hla : a < sA.heap.objs.size := Heap.lt_size hot
  refine call_enumT (items := its.toArray) ⟨ot, hot, hct, nt, hdt⟩ fun h' hen hit kep => wpAny_pyIter_enum hen ?_
  have JB : Inv X pins σ H1 { sA with heap := h' } := I1.kept (t' := sA.toks) kep
  refine ⟨sA.heap.objs.size + 1, [sA.heap.objs.size + 1, sA.heap.objs.size], _, _, H1, rfl, JB, turn_enumT a (sA.heap.objs.size + 1) sA.heap.objs.size (Nat.ne_of_lt hla),
    ⟨⟨.none, hen⟩, hit, Nat.succ_ne_self _, Nat.ne_of_gt (Nat.lt_succ_of_lt hla)⟩, fun b hb => ?_, q⟩
  have e' : b = sA.heap.objs.size + 1 ∨ b = sA.heap.objs.size := by simpa using hb
  have hle : sA.heap.objs.size ≤ b := by
    rcases e' with z | z
    · rw [z]
      exact Nat.le_add_right _ _
    · rw [z]
      exact Nat.le_refl _
  exact I1.fpOk hle (I1.hok.fresh hle)
end HL

namespace HL
open PySem PySem.Spec PyProof.Rows L2
open AutoSeq1 (wpAny_loadPart')
/-! t * k, k from 1 on: once is the tuple itself -/
theorem tuple_mul1 (l : Addr) (items : Array Value) (n : Nat) (dd : Option Addr) (sl : Array (Option Value)) (u : Tok) :
    Meets (Builtin.«tuple.__mul__» ⟨[.ref l, .int 1 u], []⟩)
      (fun _ R s => s.heap.get? l = some { cls := .type "tuple", dict := dd, data := .seq items n, slots := sl } ∧ R (.ok (.ret (.ref l))) s) :=
  .of_wp fun prog w A R s h => by
    obtain ⟨hp, g, d, tk, os⟩ := s
    obtain ⟨hl, h⟩ := h
    have f1 := AutoSeq1.idx_int
    have ht : Shared.TypeIs ⟨hp, g, d, tk, os⟩ (.ref l) "tuple" := ⟨_, hl, rfl⟩
    wp_walk using wpAny_loadPart' hl
    repeat (first
      | (refine wpAny_ite_false (by decide) ?_; wp_walk using wpAny_loadPart' hl)
      | (refine wpAny_ite_true (by cases items.isEmpty <;> decide) ?_; wp_walk using wpAny_loadPart' hl)
      | (refine wpAny_typeOf ht ?_; wp_walk using wpAny_loadPart' hl)
      | (refine wpAny_bind (wpAny_typeOf ht ?_); wp_walk using wpAny_loadPart' hl))
    exact ⟨_, rfl, h⟩
def rRepA (K : PySem.W.Frag) : R2 := fun x y H Q => ∃ l k xs, x = .ref l ∧ y = .int k ∧ SqT K H l xs ∧ xs ≠ [] ∧ 1 ≤ k ∧ k ≤ 1000 ∧ xs.length ≤ 1000 ∧
  (k = 1 → Q (.ref l) H) ∧ (k ≠ 1 → ∀ p, H p = none → Q (.ref p) (upd H p (.tup (List.replicate k.toNat xs).flatten)))
theorem op_repA {X : Cx} : OpR X (binaryOp .Mult) (rRepA X.K) := by
  intro pins s σ H x y v u Q I rx ry h
  obtain ⟨l, k, xs, rfl, rfl, hT, hne, h1, h2, hz, q1, q2⟩ := h
  by_cases hk : k = 1
  · subst hk
    have rx' := rx
    cases rx
    obtain ⟨t, rfl⟩ := ry
    obtain ⟨its, r, ⟨⟨cl, dd, dat, sl⟩, ho, hc, n, hd⟩, _⟩ := I.tuple hT
    simp only at hc hd
    subst hc hd
    exact wpAny_binaryOp_repeat_ref (T := "tuple") (U := "int") (by decide) ⟨_, ho, rfl⟩ (fun s' => typeIs_int s' 1 t) noFill_tuple_mul F.fills_int_mul F.slot_int_rmul repeat_tuple F.slot_int_index.lookup
      (call_meets F.slot_int_rmul (typeIs_int s 1 t) F.entry_int_rmul (F.args_int_rmul_2 _ _) (int_rmul_tuple 1 t l its.toArray n dd sl)
        ⟨ho, rfl, ⟨_, ho, rfl⟩, call_meets F.slot_tuple_mul ⟨_, ho, rfl⟩ F.entry_tuple_mul (F.args_tuple_mul_2 _ _) (tuple_mul1 l its.toArray n dd sl t) ⟨ho, ⟨.ref l, H, I, rfl, q1 rfl⟩⟩⟩)
  · exact op_repT pins s σ H _ _ v u Q I rx ry ⟨l, k, xs, rfl, rfl, hT, hne, by omega, h2, hz, q2 hk⟩
end HL

namespace HL
open PySem PySem.Spec PyProof.Rows L2
/-! several except clauses, each with a name -/
/-- behind a suite the name's slot is empty -/
abbrev offE (i : Nat) (D : Ends) : Ends := { nx := fun σ' H' => D.nx (σ'.set i none) H', rt := D.rt, bk := fun σ' H' => D.bk (σ'.set i none) H', ct := fun σ' H' => D.ct (σ'.set i none) H' }
def wManyA (K : PySem.W.Frag) (i : Nat) (Wout : WX) (D : Ends) : List (Value × (Addr → Value → Option Addr → TS)) → WX
  | [] => Wout
  | (c, ts) :: r => fun cls d σ H => ∃ b, PySem.W.exmOne K cls c = some b ∧ (b = true → ∀ a, H a = none → ts a cls d (offE i D) (σ.set i (some (.ref a))) H) ∧ (b = false → wManyA K i Wout D r cls d σ H)
inductive HdsA (X : Cx) (n : Str) : List ExceptHandler → List (Value × (Addr → Value → Option Addr → TS)) → Prop
  | nil : HdsA X n [] []
  | cons {x : Str} {c : Value} {ts : Addr → Value → Option Addr → TS} {b₀ : Stmt} {suite : List Stmt} {np pos' : Pos} {hds : List ExceptHandler} {l : List (Value × (Addr → Value → Option Addr → TS))} (hc : Names X x c)
      (hsu : ∀ (a : Addr) (oe : Obj) (cls : Value) (d : Option Addr) (pn : List (Addr × Obj)), Zc cls d oe → (∃ vs, oe.data = .fields vs) → PSs (X.suite a ((a, oe) :: pn)) (b₀ :: suite) (ts a cls d)) (r : HdsA X n hds l) :
      HdsA X n (.ExceptHandler (some (.Name x np)) (some n) (b₀ :: suite) pos' :: hds) ((c, ts) :: l)
section
variable {X : Cx} {n : Str} {i : Nat} {body : List Stmt} {h₀ : ExceptHandler} {hds : List ExceptHandler} {l : List (Value × (Addr → Value → Option Addr → TS))} {pos : Pos} {tb : WX → TS} {Wout : WX}
theorem ps_try_manyA (hs : X.stack = X.env :: X.outer) (hf : X.env.frame = some X.env.locals) (hN : X.N.Nodup) (hi : X.N[i]? = some n) (hln : X.env.kindOf n = some .local) (tk : Takes X Wout)
    (hb : ∀ (W : WX) (pn : List (Addr × Obj)) (xe : Value → Shared → Prop), Takes (X.tr pn xe) W → PassesOwn (model X.prog X.w) X.A X.env xe → PSs (X.tr pn xe) body (tb W)) (hh : HdsA X n (h₀ :: hds) l) :
    PS X (.Try body (h₀ :: hds) [] [] pos) (fun D σ H => tb (wManyA X.K i Wout D l) D σ H) := by
  refine ⟨fun pins s σ H D I hTB => ?_⟩
  have okI := I.ok
  have frA : X.A.frames = some (X.env :: X.outer) := by rw [okI.frames, hs]
  have locN : Loc X.env.scope n := .inl hln
  refine wpAny_Try_except (wpAny_mono ((hb (wManyA X.K i Wout D l) (X.pn ++ pins) (fun e sa => wpAny (model X.prog X.w) X.A (noteFrame e X.env) (fun _ sb => wpAny (model X.prog X.w) X.A (setFlight e none) (fun _ sc =>
    wpAny (model X.prog X.w) X.A (handleBy e X.env (h₀ :: hds)) (SP X pins D) X.xe sc) X.xe sb) X.xe sa) (fun u s' xx => ?_) PassesOwn.looking).run [] s σ H D (I.toTry _) hTB) (fun f sq hsp => ?_) (fun e sq he => he))
  · obtain ⟨a, B, sI, pins', σ', H', cls, d, rfl, J', nb, up, sky, na, os, ag, wsh⟩ := xx
    have J : Inv X pins σ' H' sI := J'.ofTry okI
    have skyE : Sky B (X.env :: X.outer) a (Zc cls d) X.env.locals s'.heap := by rw [← hs]; exact sky
    show wpAny (model X.prog X.w) X.A (noteFrame (.ref a) X.env) _ _ _
    refine Sky.land Zc.steady frA hf skyE fun hC flC upC => ?_
    have JC : Inv X pins σ' H' { s' with heap := hC } := J.landed nb flC.1 (up.trans upC) os ag
    obtain ⟨oC, vC, heC, hzC, hdC⟩ := flC.there
    have notFr : a ∉ frs (X.env :: X.outer) := fun hm => by
      obtain ⟨_, o', e', hnf⟩ := flC.2.2.1.mem hm
      rw [heC] at e'
      cases e'
      exact hnf _ hdC
    have nL : a ≠ X.env.locals := fun z => notFr (List.mem_filterMap.mpr ⟨X.env, List.mem_cons_self, by rw [hf, z]⟩)
    have nF : a ∉ X.fs := fun hm => by
      obtain ⟨e, he, q⟩ := List.mem_filterMap.mp hm
      exact notFr (List.mem_filterMap.mpr ⟨e, List.mem_cons_of_mem _ he, q⟩)
    have SC := JC.suite heC hdC na nL nF
    have go : ∀ {hd2 : List ExceptHandler} {l2 : List (Value × (Addr → Value → Option Addr → TS))}, HdsA X n hd2 l2 → wManyA X.K i Wout D l2 cls d σ' H' → wpAny (model X.prog X.w) X.A (handleBy (.ref a) X.env hd2) (SP X pins D) X.xe { s' with heap := hC } := by
      intro hd2 l2 hk
      induction hk with
      | nil =>
        intro wn
        refine wpAny_handleBy_nil ?_
        obtain ⟨k1, k2, k3, oe, vs, T, oT, ts', he, hz, hd, h1, hr⟩ := id flC
        unfold PySem.passOn
        refine wpAny_bind (wpAny_field he hd h1 ?_)
        rw [if_neg (show ¬ ((Value.ref T == Value.none) = true) from by simp)]
        have fin : wpAny (model X.prog X.w) X.A (setFlight (.ref a) X.env.frame) (fun _ sd => wpAny (model X.prog X.w) X.A (throw (.ref a) : Sem Flow) (SP X pins D) X.xe sd) X.xe { s' with heap := hC } := by
          rw [hf]
          refine HandSPX.setFlight_upZ flC fun hD hhD upD => wpAny_throw (tk _ _ ?_)
          exact ⟨a, B, sI, pins, σ', H', cls, d, rfl, J, nb, (up.trans upC).trans upD, .inr (.inr (by rw [hs]; exact hhD)), na, os, ag, wn⟩
        first
          | exact wpAny_bind (wpAny_pure (wpAny_bind fin))
          | exact wpAny_bind fin
      | @cons x c ts b₀ suite np pos' hd3 l3 hc hsu r ih =>
        intro wn
        obtain ⟨b, hb1, hyes, hno⟩ := wn
        refine wpAny_handleBy_cons (codeAny_handlers_test ?_) (by intro q; cases q)
        have LT : PySem.W.Looks (model X.prog X.w) hC (typeOf (.ref a)) cls := fun A Q E s k q => wpAny_typeOf_ref (k _ _ heC) (by rw [hzC.1]; exact q)
        have LM := PySem.W.exm_one (M := model X.prog X.w) (JC.kIn) LT hb1
        have look : ∀ {Q : Value → Shared → Prop} {E : Value → Shared → Prop}, Q c { s' with heap := hC } → wpAny (model X.prog X.w) (X.A.mark (some (.ref a))) (eval (.Name x np) X.env) Q E { s' with heap := hC } := fun {Q E} q => by
          obtain ⟨hg, hdbg, hm | ⟨hm, hv, hnn⟩⟩ := hc
          · exact ld_glob (X := X.suite a ((a, oC) :: (X.pn ++ pins))) SC hg hm q hdbg
          · exact ld_blt (X := X.suite a ((a, oC) :: (X.pn ++ pins))) SC hg hm hv q hnn hdbg
        refine look (LM.here ?_)
        cases b with
        | false =>
          show wpAny _ X.A (handleBy (.ref a) X.env hd3) _ _ _
          exact ih (hno rfl)
        | true =>
          refine codeAny_handlers_suite_as (HandSPX.lands_againZ flC fun hD flD upD => ?_)
          have JD : Inv X pins σ' H' { s' with heap := hD } := J.landed nb flD.1 ((up.trans upC).trans upD) os ag
          obtain ⟨oD, vD, heD, hzD, hdD⟩ := flD.there
          have SD := JD.suite heD hdD na nL nF
          refine store_ok (X := X.suite a ((a, oD) :: (X.pn ++ pins))) (v := .ref a) SD hN hi locN rfl (fun sE SE => ?_) (.inr hln)
          refine wpAny_mono ((hsu a oD cls d (X.pn ++ pins) hzD ⟨_, hdD⟩).run [] sE _ H' _ SE (hyes rfl a na)) (fun f sG hsp => ?_) (fun _ _ z => False.elim z)
          have off : ∀ {σG : L2.St} {HG : Hp} {Q : Shared → Prop}, Inv (X.suite a ((a, oD) :: (X.pn ++ pins))) [] σG HG sG → (∀ sH, Inv X pins (σG.set i none) HG sH → Q sH) →
              wpAny (model X.prog X.w) X.A (do bindName X.env n .none; unbindBehindTheSuite X.env n pos') (fun _ sH => Q sH) X.xe sG := fun {σG HG Q} SG hq => gone_ok (SG.unsuite okI) hN hi hln hq
          cases f with
          | ret u =>
            obtain ⟨vG, σG, HG, SG, rG, qG⟩ := hsp
            exact off SG fun sH JH => ⟨_, _, _, JH, rG, qG⟩
          | next =>
            obtain ⟨σG, HG, SG, qG⟩ := hsp
            exact off SG fun sH JH => ⟨_, _, JH, qG⟩
          | brk =>
            obtain ⟨σG, HG, SG, qG⟩ := hsp
            exact off SG fun sH JH => ⟨_, _, JH, qG⟩
          | cont =>
            obtain ⟨σG, HG, SG, qG⟩ := hsp
            exact off SG fun sH JH => ⟨_, _, JH, qG⟩
    exact go hh wsh
  · cases f with
    | ret u =>
      obtain ⟨v, σ', H', J', r, q⟩ := hsp
      exact ⟨v, σ', H', J'.ofTry okI, r, q⟩
    | next =>
      obtain ⟨σ', H', J', q⟩ := hsp
      exact wpAny_execs_nil ⟨σ', H', J'.ofTry okI, q⟩
    | brk =>
      obtain ⟨σ', H', J', q⟩ := hsp
      exact ⟨σ', H', J'.ofTry okI, q⟩
    | cont =>
      obtain ⟨σ', H', J', q⟩ := hsp
      exact ⟨σ', H', J'.ofTry okI, q⟩
end
end HL

namespace HL
open PySem PySem.Spec PyProof.Rows L2
open LamX (CodeO Tabs TabB ExtN LamS lamEnv lamCx lam_start2 lam_make2 run_ofS tLam)
/-! what a def got is asked, its own slots known where that raises -/
/-- the asking def's context, entered at s -/
abbrev gCx (X : Cx) (Ng : List Str) (q : Str) (sg : Scope) (g : Addr) (cd : Value) (s : Shared) (H : Hp) : Cx := cxOf C8.CX0 X.prog X.w X.K X.mg X.base Ng q sg g cd X.A X.stack s H C8.E0
/-- the lambda that was made -/
abbrev lamO (X : Cx) (ps : Arguments) (b : Expr) (sc : Scope) (pm : Value) (c' : Addr) (ct : Value) : Obj := PySem.W.kla_obj "<lambda>" (X.env.qual ++ "<lambda>") ps b sc (cloFrom X.env.cells sc.names []) pm c' ct
theorem act_at {X : Cx} {pins : List (Addr × Obj)} {σ : L2.St} {H : Hp} {s : Shared} {Ng : List Str} {q : Str} {sg : Scope} {g f c' : Addr} {cd pm ct : Value} {ps : Arguments} {b : Expr} {sc : Scope} {k i : Nat} {a : Str} {pn : List (Addr × Obj)} {xe : Value → Shared → Prop} {W : WX} {E : XK} {tb : TE} {p1 p2 : Pos} {σ0 : L2.St}
    (I : Inv X pins σ H s) (L : LamS X.env.scope sc) (hf : s.heap.get? f = some (lamO X ps b sc pm c' ct)) (hn : H f = none) (hfr : f ∉ frs X.stack)
    (hb : bindArgs (PySem.W.kla_fn "<lambda>" (X.env.qual ++ "<lambda>") ps b sc (cloFrom X.env.cells sc.names []) pm (.ref c') ct) ⟨[], []⟩ = pure [])
    (tk : Takes ((gCx X Ng q sg g cd s H).tr pn xe) W) (hW : ∀ cls d H', E cls d H' → W cls d σ0 H') (hr : Room (k + 1) (X.A.deeper (envOfC q sg s.heap.objs.size g cd)))
    (hbody : ∀ (A : Around) (o : List Env) (s : Shared) (H : Hp), Room k (A.deeper (lamEnv X sc s.heap.objs.size f c')) → PE (lamCx X A o s H E sc f c') b tb)
    (hN : Ng[i]? = some a) (hv : Vis sg a) (d1 : (a == ("__debug__" : Str)) = false) (d2 : (a == ("__classdict__" : Str)) = false) :
    PE ((gCx X Ng q sg g cd s H).tr pn xe) (.Call (.Name a p1) [] [] p2) (fun σZ HZ Q => σZ = σ0 ∧ σZ[i]? = some (some (.ref f)) ∧ HZ c' = some (CodeO c' (X.env.qual ++ "<lambda>")) ∧ tb σ HZ Q) := by
  refine ⟨fun pz sz σz hz Qz J ⟨eσ, h1, h2, h3⟩ => ?_⟩
  have nm := (pe_var (pos := p1) (i := i) hN hv d1 d2).run pz sz σz hz (fun v H1 => v = .ref f ∧ H1 = hz) J ⟨_, h1, rfl, rfl⟩
  refine wpAny_Call_Name_kw (thn nm ?_)
  rintro u s1 ⟨v, H1, J1, r1, ⟨ev, eh⟩⟩
  subst ev
  rw [eh] at J1
  obtain rfl : u = Value.ref f := r1
  have o1 : s1.heap.get? f = some (lamO X ps b sc pm c' ct) := J1.base.keep f _ hf hn hfr (fun y => List.not_mem_nil (show f ∈ ([] : List Addr) from y))
  have go : codeAny (model X.prog X.w) (X.A.deeper (envOfC q sg s.heap.objs.size g cd)) (.call (.ref f) ⟨[], []⟩) (CR (L2.CX X.prog X.w) (envOfC q sg s.heap.objs.size g cd :: X.stack) X.prog X.w hz s1 Qz E) s1 := by
    obtain ⟨⟨oc, vs, t, ho, hd, hc⟩, _, _⟩ := J1.hok c' _ h2
    refine PySem.W.kla_callFunE hr.depth o1 rfl L.co L.gen rfl ⟨c', oc, vs, t, rfl, ho, hd, hc⟩ ?_
    rw [hb]
    refine wpAny_pure (wpAny_newFunctionEnv (fun y hy => (L.own y hy).2) (fun y hy => absurd hy (by simp)) (fun h1' hns hsb => ⟨J1.nolimit.fresh _ hsb, ?_⟩) L.kind)
    show codeAny _ _ (.expr b (lamEnv X sc s1.heap.objs.size f c')) _ _
    have st : Inv (lamCx X (X.A.deeper (envOfC q sg s.heap.objs.size g cd)) (envOfC q sg s.heap.objs.size g cd :: X.stack) s1 hz E sc f c') [] σ hz { s1 with heap := h1', toks := s1.toks + ([] : List (Str × Value)).length } :=
      lam_start2 I L J1.env0 hr.hd J1.base hns (fun b' o' e' => hsb.extBut b' o' (Nat.ne_of_lt (Heap.lt_size e')) (Heap.get?_push_of_some _ e'))
    refine PySem.W.kla_codeExpr (wpAny_mono ((hbody _ _ s1 hz (hr.deeper _)).run [] _ _ hz Qz st h3) ?_ (fun _ _ x => x))
    rintro v' s' ⟨w', H', J', rv, qv⟩
    exact ⟨w', H', J'.os, J'.bare, J'.base, J'.hok, rv, qv⟩
  refine PySem.W.callWith_F0 ⟨_, _, _, _, o1⟩ (wpAny_call (codeAny_mono go ?_))
  intro r s' hq
  cases r with
  | error e =>
    refine tk e s' (XE.of_call J1 (fun cls d H' hE => ?_) hq)
    rw [eσ]
    exact hW cls d H' hE
  | ok fl =>
    cases fl with
    | ret u => exact J1.after hq
    | next => cases hq
    | brk => cases hq
    | cont => cases hq
/-- the def that asks: σ0 its slots where it asks -/
def AsksOf (X : Cx) (Ng : List Str) (x : Str) (sg : Scope) (g : Addr) (cd : Value) (bg : List Stmt) (a : Str) (q : Str) (TT : (XK → Hp → VK → Prop) → Hp → VK → Prop) : Prop :=
  ∀ (f c' : Addr) (s : Shared) (H : Hp) (Q : VK) (tl : XK → Hp → VK → Prop),
    (∀ (σ0 : L2.St) (W : WX) (pn : List (Addr × Obj)) (xe : Value → Shared → Prop) (E : XK) (p1 p2 : Pos), Takes ((gCx X Ng x sg g cd s H).tr pn xe) W → (∀ cls d H', E cls d H' → W cls d σ0 H') →
      PE ((gCx X Ng x sg g cd s H).tr pn xe) (.Call (.Name a p1) [] [] p2) (fun σZ HZ Q => σZ = σ0 ∧ σZ[0]? = some (some (.ref f)) ∧ HZ c' = some (CodeO c' q) ∧ tl E HZ Q)) →
    H c' = some (CodeO c' q) → TT tl H Q → ∃ t, PSs (gCx X Ng x sg g cd s H).nox bg t ∧ t { nx := fun _ H' => Q .non H', rt := Q } (L2.start Ng [.ref f]) H
theorem pe_askcall {X : Cx} {T : List (Addr × Str)} {TT : (XK → Hp → VK → Prop) → Hp → VK → Prop} {x a : Str} {g c P : Addr} {k : Nat} {pg : Arguments} {bg : List Stmt} {sg : Scope} {dV kV doc pm cdv ct oc : Value} {an od : Option Addr} {osl : Array (Option Value)} {Ng : List Str}
    {ps : Arguments} {b : Expr} {sc : Scope} {t : XK → TE} {p lp pos : Pos} (hg : Gl X x) (hm : X.mg x = some (.ref g)) (hk : PySem.W.keepIn X.K (.ref g) = true)
    (lk : X.K.lookup g = some ⟨oc, od, .func (PySem.W.fnOf x x pg bg sg dV kV doc pm an cdv ct), osl⟩) (hcg : PySem.W.codeIn X.K cdv x = true) (hbi : L2.Binds X.K (PySem.W.fnOf x x pg bg sg dV kV doc pm an cdv ct) [a] []) (Sg : FnScope Ng [a] sg) (hN : Ng[0]? = some a) (hv : Vis sg a)
    (hG : AsksOf X Ng x sg g cdv bg a (X.env.qual ++ "<lambda>") TT) (TB : TabB X.base X.mg c P) (hcode : X.env.code = .ref c) (hT : (P, X.env.qual ++ "<lambda>") ∈ T) (hu : ∀ p ∈ T, p.1 = P → p.2 = X.env.qual ++ "<lambda>") (hr : Room (k + 2) X.A) (L : LamS X.env.scope sc) (hdef : defaultsOf ps X.env = ([], []))
    (hb : ∀ (q : Str) (cl : List (Str × Addr)) (pm cv ctv : Value), bindArgs (PySem.W.kla_fn "<lambda>" q ps b sc cl pm cv ctv) ⟨[], []⟩ = pure [])
    (hbody : ∀ (A : Around) (o : List Env) (s : Shared) (H : Hp) (E : XK) (f c' : Addr), Room k (A.deeper (lamEnv X sc s.heap.objs.size f c')) → PE (lamCx X A o s H E sc f c') b (t E))
    (d0 : (x == ("__debug__" : Str)) = false := by decide) (d1 : (a == ("__debug__" : Str)) = false := by decide) (d2 : (a == ("__classdict__" : Str)) = false := by decide) :
    PE X (.Call (.Name x p) [.Lambda ps b sc lp] [] pos) (tLam T TT t) := by
  refine ⟨fun pins s σ H Q I ⟨hTt, h⟩ => wpAny_Call_Name_kw (ld_glob I hg hm (PySem.W.callWith_K (h₀ := X.base) I.ok.mod.kin hk ?_ (by rfl) (by rfl)) d0)⟩
  show wpAny _ _ (spliced ((false, eval (.Lambda ps b sc lp) X.env) :: backTo pos (starEach [] X.env))) _ _ s
  refine Calls.spliced_cons (lam_make2 I TB hcode hT hu hTt hdef (L.has I.ok) fun f c' pm' ctv H1 s' J eN T1 hf hfn hfr hco => Calls.spliced_nil ⟨J.kIn, ?_⟩)
  refine wpAny_call (codeAny_mono (R := CR C8.CX0 X.stack X.prog X.w H1 s' Q C8.E0) (run_ofS (N := Ng) (ps := [a]) (us := [.ref f]) (vs := [.ref f]) lk hcg Sg hr J.env0 (hbi s' [.ref f] J.kIn rfl) (.cons rfl .nil) rfl fun hr' => ?_) fun r s2 hq => ?_)
  · obtain ⟨t', ht, hq⟩ := hG f c' s' H1 Q (fun E H' Q' => t E σ H' Q') (fun σ0 W pn xe E p1 p2 tk hW => act_at (i := 0) J L hf hfn hfr (hb _ _ _ _ _) tk hW hr' (fun A o s H hr2 => hbody A o s H E f c' hr2) hN hv d1 d2) hco (h H1 eN T1)
    exact ⟨t', ht.nox, hq⟩
  · cases r with
    | error e => exact (show False from hq).elim
    | ok fl =>
      cases fl with
      | ret u => exact J.after hq
      | next => cases hq
      | brk => cases hq
      | cont => cases hq
end HL

namespace HL
open PySem PySem.Spec PyProof.Rows L2
open C8 (pss_cut)
/-! ### the text -/
def topS (i : Nat) : Stmt := PySem.Challenge.pw_hamperlot_k05_rows_written_and_read.main.body.getD i (.Pass ⟨0, 0, 0, 0⟩)
abbrev sRowText : Stmt := topS 8
abbrev sIsNum : Stmt := topS 9
abbrev sReadRow : Stmt := topS 10
abbrev sFeed : Stmt := topS 12
abbrev sDraw : Stmt := topS 13
abbrev sPick : Stmt := topS 14
abbrev sSame : Stmt := topS 15
abbrev sWord : Stmt := topS 16
abbrev sGreat : Stmt := topS 17
abbrev sRowTextL : Stmt := topS 18
abbrev sNumIn : Stmt := topS 19
abbrev sLaw : Stmt := topS 20
/-! ### heaps -/
/-- all that stood but at f stands -/
def Kp (f : Addr) (H H' : Hp) : Prop := ∀ b o, b ≠ f → H b = some o → H' b = some o
theorem Kp.refl (f : Addr) (H : Hp) : Kp f H H := fun _ _ _ h => h
theorem Kp.trans {f : Addr} {H H1 H2 : Hp} (a : Kp f H H1) (b : Kp f H1 H2) : Kp f H H2 := fun c o n h => b c o n (a c o n h)
theorem Same.kp {f : Addr} {H H' : Hp} (a : Same H H') : Kp f H H' := fun b o _ h => a b o h
theorem Kp.put {f : Addr} {H : Hp} {o : HO} : Kp f H (upd H f o) := fun b _ n h => by
  rw [upd_ne n]
  exact h
theorem same_new {H : Hp} {p : Addr} {o : HO} (h : H p = none) : Same H (upd H p o) := fun b x e => by
  rw [upd_ne (ne_of_none e h)]
  exact e
theorem Kp.new {f : Addr} {H : Hp} {p : Addr} {o : HO} (h : H p = none) : Kp f H (upd H p o) := Same.kp (same_new h)
/-- the feed at f -/
def FeedAt (c : Addr) (H : Hp) (f : Addr) : Prop := ∃ (ns : List Int) (i b m n : Int),
  H f = some (.lst [.ref c, .int i, .int b, .int m, .int n]) ∧ H c = some (.lst (ns.map V.int)) ∧ 0 ≤ i ∧ 0 ≤ b ∧ 0 ≤ m ∧ m < 2147483647
theorem FeedAt.same {c : Addr} {H H' : Hp} {f : Addr} (F : FeedAt c H f) (s : Same H H') : FeedAt c H' f := by
  obtain ⟨ns, i, b, m, n, h1, h2, h3⟩ := F
  exact ⟨ns, i, b, m, n, s _ _ h1, s _ _ h2, h3⟩
theorem FeedAt.new {c : Addr} {H : Hp} {f p : Addr} {o : HO} (F : FeedAt c H f) (h : H p = none) : FeedAt c (upd H p o) f := F.same (same_new h)
theorem FeedAt.ne {c : Addr} {H : Hp} {f p : Addr} (F : FeedAt c H f) (h : H p = none) : p ≠ f := by
  obtain ⟨ns, i, b, m, n, h1, _⟩ := F
  exact fun e => by
    rw [e, h1] at h
    cases h
theorem FeedAt.neC {c : Addr} {H : Hp} {f p : Addr} (F : FeedAt c H f) (h : H p = none) : p ≠ c := by
  obtain ⟨ns, i, b, m, n, _, h1, _⟩ := F
  exact fun e => by
    rw [e, h1] at h
    cases h
theorem FeedAt.tup {c : Addr} {H : Hp} {f p : Addr} {xs : List V} (F : FeedAt c H f) (h : H p = some (.tup xs)) : p ≠ f := by
  obtain ⟨ns, i, b, m, n, h1, _⟩ := F
  exact ne_of h h1 (fun e => by cases e)
/-- another thing than the feed is written -/
theorem FeedAt.put {c : Addr} {H : Hp} {f D : Addr} {o : HO} (F : FeedAt c H f) (n1 : D ≠ f) (n2 : D ≠ c) : FeedAt c (upd H D o) f := by
  obtain ⟨ns, i, b, m, n, h1, h2, h3⟩ := F
  exact ⟨ns, i, b, m, n, by rw [upd_ne (Ne.symm n1)]; exact h1, by rw [upd_ne (Ne.symm n2)]; exact h2, h3⟩
/-- where nothing stood behind, nothing stood ahead -/
theorem Kp.free {f : Addr} {H H' : Hp} {p : Addr} (k : Kp f H H') (n : p ≠ f) (h : H' p = none) : H p = none := by
  cases e : H p with
  | none => rfl
  | some o =>
    rw [k _ _ n e] at h
    cases h
/-- what is new since H may be written -/
theorem Kp.late {f : Addr} {H H' : Hp} {D : Addr} {o : HO} (k : Kp f H H') (nD : H D = none) : Kp f H (upd H' D o) := fun b x n e => by
  rw [upd_ne (ne_of_none e nD)]
  exact k _ _ n e
theorem same_late {H H' : Hp} {D : Addr} {o : HO} (k : Same H H') (nD : H D = none) : Same H (upd H' D o) := fun b x e => by
  rw [upd_ne (ne_of_none e nD)]
  exact k _ _ e
theorem ref_ne {c : Addr} {ns : List Int} {r : List V} : (V.ref c :: r) ≠ ns.map V.int := by
  cases ns with
  | nil => exact fun e => by cases e
  | cons x xs => exact fun e => by simp at e
/-! ### the feed -/
theorem scFeed : FnScope ["_law_script"] ["_law_script"] (defScope sFeed) := ⟨rfl, rfl, rfl, by decide +kernel, rfl, by decide +kernel, by decide +kernel⟩
theorem scDraw : FnScope ["_law_feed_here", "_law_many", "_law_cell", "_law_digit", "_law_mix"] ["_law_feed_here", "_law_many"] (defScope sDraw) := ⟨rfl, rfl, rfl, by decide +kernel, rfl, by decide +kernel, by decide +kernel⟩
theorem scPick : FnScope ["_law_feed_here", "_law_row"] ["_law_feed_here", "_law_row"] (defScope sPick) := ⟨rfl, rfl, rfl, by decide +kernel, rfl, by decide +kernel, by decide +kernel⟩
section
variable {P : Program} {w : World} {K : PySem.W.Frag} {mg : Str → Option Value} {base : Heap}
def spFeed (K : PySem.W.Frag) : Sp := fun vs H Q _ => ∃ (a : Addr) (ns : List Int), vs = [.ref a] ∧ SqL K H a (ns.map V.int) ∧ ns.length ≤ 63 ∧
  ∀ H' f c, Same H H' → H f = none → FeedAt c H' f → Q (.ref f) H'
theorem cut_ints (ns : List Int) (lo hi : Option Int) : ∃ ms : List Int, cutV (ns.map V.int) lo hi = ms.map V.int := by
  refine ⟨(ns.drop (HT.sIx ns.length 0 lo)).take (HT.sIx ns.length ns.length hi - HT.sIx ns.length 0 lo), ?_⟩
  unfold cutV
  rw [List.length_map, List.map_take, List.map_drop]
theorem ok_feed {f : Addr} {fd : FuncData} {k : Nat} (F : Fun K "_law_feed" "_law_feed" sFeed f fd) (ml : mg "list" = none) : FnOk P w K mg base CX0 (k + 1) f fd ["_law_script"] (spFeed K) := by
  refine F.ok scFeed (fun vs H Q E h => ?_) (fun cdv A outer s H vs Q E hr h => ?_)
  · obtain ⟨a, ns, rfl, _⟩ := h
    rfl
  · obtain ⟨a, ns, rfl, hS, hlen, q⟩ := h
    refine ⟨_, pss_one (ps_ret (pe_lst (pa_cons (pe_callTy call_list_of (by rfl) ml (by decide +kernel) (pa_cons (pe_slice sl_list (pv 0) po_none (po_some pe_int)) pa_nil)) (pa_cons pe_int (pa_cons pe_int (pa_cons pe_int (pa_cons pe_int pa_nil))))))), ?_⟩
    obtain ⟨ms, hms⟩ := cut_ints ns none (some 63)
    refine ⟨.ref a, rfl, 63, rfl, a, ns.map V.int, rfl, hS, fun c nc => ?_⟩
    rw [hms]
    refine ⟨c, ms.map V.int, rfl, .inl (SqL.of upd_same), fun l nl => ?_⟩
    refine ⟨(by show 5 ≤ sizeLine; decide), fun g ng => ?_⟩
    refine q _ g l ?_ ?_ ⟨ms, 0, 0, 9132, 0, upd_same, ?_, by decide, by decide, by decide, by decide⟩
    · exact (same_new nc).trans ((same_new nl).trans (same_new ng))
    · exact (same_new nc).free ((same_new nl).free ng)
    · rw [upd_ne (fun e => by rw [← e, upd_same] at ng; cases ng), upd_same]

theorem atI_int {ns : List Int} {i : Int} (h0 : 0 ≤ i) (h1 : i < (ns.length : Nat)) : ∃ z, atI (ns.map V.int) i = some (.int z) := by
  have hl : i.toNat < ns.length := by omega
  refine ⟨ns[i.toNat], ?_⟩
  have e : ((i.toNat : Nat) : Int) = i := by omega
  refine (congrArg (atI (ns.map V.int)) e.symm).trans (atI_nat (j := i.toNat) ?_)
  rw [List.getElem?_map, List.getElem?_eq_getElem hl]
  rfl
def spDraw : Sp := fun vs H Q _ => ∃ (f c : Addr) (n : Int), vs = [.ref f, .int n] ∧ 1 ≤ n ∧ n ≤ 1000000000000000000000000000000 ∧ FeedAt c H f ∧
  ∀ d H', 0 ≤ d → d < n → Kp f H H' → FeedAt c H' f → Q (.int d) H'
theorem ok_draw {f : Addr} {fd : FuncData} {k : Nat} (F : Fun K "_law_draw" "_law_draw" sDraw f fd) (ml : mg "len" = none) : FnOk P w K mg base CX0 (k + 1) f fd ["_law_feed_here", "_law_many"] spDraw := by
  refine F.ok scDraw (fun vs H Q E h => ?_) (fun cdv A outer s H vs Q E hr h => ?_)
  · obtain ⟨a, c, n, rfl, _⟩ := h
    rfl
  · obtain ⟨a, c, n, rfl, n1, n2, ⟨ns, i, b, m, t, h1, h2, i0, b0, m0, m1⟩, q⟩ := h
    refine ⟨_, pss_cut (ps_if (PW.pt (pw_and (pt_cmpR op_lt (pe_ix ix_list (pv 0) pe_int (fun _ _ => rfl)) (pv 1) (nomark _))
          (pw_and1 (pt_cmpR op_lt (pe_ix ix_list (pv 0) pe_int (fun _ _ => rfl)) (pe_callB call_len_seq (by rfl) ml PySem.boot_len (pa_cons (pe_ix ix_list (pv 0) pe_int (fun _ _ => rfl)) pa_nil)) (nomark _)))))
        (pss_cons (ps_set (i := 2) scDraw.nd rfl (.inl rfl) (pe_ix ix_list (pe_ix ix_list (pv 0) pe_int (fun _ _ => rfl)) (pe_ix ix_list (pv 0) pe_int (fun _ _ => rfl)) (fun _ _ => rfl)))
        (pss_cons (ps_asg (pe_op op_add (pe_ix ix_list (pv 0) pe_int (fun _ _ => rfl)) pe_int) (pg_sub (pv 0) pe_int set_list))
        (pss_cons (ps_asg pe_int (pg_sub (pv 0) pe_int set_list))
        (pss_one (ps_if (pt_cmpR op_ge (pv 2) (pe_op op_pow pe_int pe_int) (nomark _))
          (pss_one (ps_asg (pv 2) (pg_sub (pv 0) pe_int set_list)))
          (pss_one (ps_asg (pe_op op_mod (pe_op op_add (pe_op op_add (pe_op op_mul (pe_ix ix_list (pv 0) pe_int (fun _ _ => rfl)) pe_int) (pe_op op_mul (pe_op op_mod (pv 2) pe_int) pe_int)) pe_int) pe_int) (pg_sub (pv 0) pe_int set_list))))))))
        pss_nil)
      (pss_cons (ps_if (pt_cmpR op_ge (pe_ix ix_list (pv 0) pe_int (fun _ _ => rfl)) (pv 1) (nomark _))
        (pss_cons (ps_set (i := 3) scDraw.nd rfl (.inl rfl) (pe_op op_mod (pe_ix ix_list (pv 0) pe_int (fun _ _ => rfl)) (pv 1)))
        (pss_cons (ps_asg (pe_op op_fdivW (pe_ix ix_list (pv 0) pe_int (fun _ _ => rfl)) (pv 1)) (pg_sub (pv 0) pe_int set_list))
        (pss_one (ps_ret (pv 3))))) pss_nil)
      (pss_cons (ps_asg (pe_op op_add (pe_ix ix_list (pv 0) pe_int (fun _ _ => rfl)) pe_int) (pg_sub (pv 0) pe_int set_list))
      (pss_cons (ps_set (i := 4) scDraw.nd rfl (.inl rfl) (pe_ix ix_list (pv 0) pe_int (fun _ _ => rfl)))
      (pss_cons (ps_set (i := 4) scDraw.nd rfl (.inl rfl) (pe_op op_add (pe_op op_add (pe_op op_add (pe_op op_mul (pe_op op_mod (pe_op op_mul (pv 4) (pv 4)) pe_int) pe_int) (pe_op op_mul (pv 4) pe_int)) (pe_op op_mul pe_int (pe_ix ix_list (pv 0) pe_int (fun _ _ => rfl)))) pe_int))
      (pss_cons (ps_asg (pe_op op_mod (pv 4) pe_int) (pg_sub (pv 0) pe_int set_list))
      (pss_one (ps_ret (pe_op op_mod (pe_op op_add (pe_op op_fdiv (pe_ix ix_list (pv 0) pe_int (fun _ _ => rfl)) pe_int) (pe_op op_mul (pe_op op_mod (pe_ix ix_list (pv 0) pe_int (fun _ _ => rfl)) pe_int) pe_int)) (pv 1))))))))), ?_⟩
    have hca : c ≠ a := fun e => by
      rw [e, h1] at h2
      exact ref_ne (HO.lst.inj (Option.some.inj h2))
    refine ⟨fun σ' H' => ∃ (y2 : Option V) (i b m t : Int), σ' = [some (.ref a), some (.int n), y2, none, none] ∧ Kp a H H' ∧ H' a = some (.lst [.ref c, .int i, .int b, .int m, .int t]) ∧ 0 ≤ i ∧ 0 ≤ b ∧ 0 ≤ m ∧ m < 2147483647, ?_, ?_⟩
    · refine ⟨.ref a, rfl, a, _, 2, .int b, rfl, rfl, SqL.of h1, atI_nat (j := 2) rfl, .int n, rfl, b, n, rfl, rfl, _, rfl, ite2 (fun c1 => ?_) (fun c1 => ?_)⟩
      · refine ⟨.ref a, rfl, a, _, 1, .int i, rfl, rfl, SqL.of h1, atI_nat (j := 1) rfl, .ref a, rfl, a, _, 0, .ref c, rfl, rfl, SqL.of h1, atI_nat (j := 0) rfl, c, _, rfl, .inl (SqL.of h2), i, _, rfl, rfl, _, rfl, ite2 (fun c2 => ?_) (fun c2 => ?_)⟩
        · have hi : i < (ns.length : Nat) := by
            have := of_decide_eq_true c2
            rw [List.length_map] at this
            exact this
          obtain ⟨z, hz⟩ := atI_int i0 hi
          refine ⟨.ref a, rfl, a, _, 0, .ref c, rfl, rfl, SqL.of h1, atI_nat (j := 0) rfl, .ref a, rfl, a, _, 1, .int i, rfl, rfl, SqL.of h1, atI_nat (j := 1) rfl, c, _, i, .int z, rfl, rfl, SqL.of h2, hz, ?_⟩
          refine ⟨.ref a, rfl, a, _, 1, .int i, rfl, rfl, SqL.of h1, atI_nat (j := 1) rfl, i, 1, rfl, rfl, .ref a, rfl, a, _, 1, 1, rfl, rfl, h1, rfl, ?_⟩
          refine ⟨.ref a, rfl, a, _, 2, 2, rfl, rfl, upd_same, rfl, ?_⟩
          refine ⟨.int z, rfl, 10, 18, rfl, rfl, ⟨by decide, by decide, by decide⟩, z, _, rfl, rfl, _, rfl, ite2 (fun c3 => ?_) (fun c3 => ?_)⟩
          · have z0 : (10 : Int) ^ (18 : Int).toNat ≤ z := of_decide_eq_true c3
            have z1 : (0 : Int) ≤ z := Int.le_trans (by decide) z0
            refine ⟨.int z, rfl, .ref a, rfl, a, _, 2, 2, rfl, rfl, upd_same, rfl, ?_⟩
            exact ⟨_, i + 1, z, m, t, rfl, Kp.put.trans (Kp.put.trans Kp.put), upd_same, by omega, z1, m0, m1⟩
          · refine ⟨.ref a, rfl, a, _, 3, .int m, rfl, rfl, SqL.of upd_same, atI_nat (j := 3) rfl, m, 48271, rfl, rfl, .inr ⟨by decide, by decide⟩, .int z, rfl, z, 1000000007, rfl, rfl, (by show (0 : Int) < 1000000007; decide), _, 69621, rfl, rfl, .inr ⟨by decide, by decide⟩, _, _, rfl, rfl, _, 11, rfl, rfl, _, 2147483647, rfl, rfl, (by show (0 : Int) < 2147483647; decide), .ref a, rfl, a, _, 3, 3, rfl, rfl, upd_same, rfl, ?_⟩
            exact ⟨_, i + 1, 0, _, t, rfl, Kp.put.trans (Kp.put.trans Kp.put), upd_same, by omega, by decide, Int.emod_nonneg _ (by decide), Int.emod_lt_of_pos _ (by decide)⟩
        · exact ⟨none, i, b, m, t, rfl, Kp.refl _ _, h1, i0, b0, m0, m1⟩
      · exact ⟨none, i, b, m, t, rfl, Kp.refl _ _, h1, i0, b0, m0, m1⟩
    · rintro σ' H' ⟨y2, i, b, m, t, rfl, kp, g1, i0, b0, m0, m1⟩
      have g2 : H' c = some (.lst (ns.map V.int)) := kp _ _ hca h2
      refine ⟨.ref a, rfl, a, _, 2, .int b, rfl, rfl, SqL.of g1, atI_nat (j := 2) rfl, .int n, rfl, b, n, rfl, rfl, _, rfl, ite2 (fun c1 => ?_) (fun c1 => ?_)⟩
      · refine ⟨.ref a, rfl, a, _, 2, .int b, rfl, rfl, SqL.of g1, atI_nat (j := 2) rfl, .int n, rfl, b, n, rfl, rfl, (by show (0 : Int) < n; omega), ?_⟩
        refine ⟨.ref a, rfl, a, _, 2, .int b, rfl, rfl, SqL.of g1, atI_nat (j := 2) rfl, .int n, rfl, b, n, rfl, rfl, wide_div (b := 100) (by omega) (by omega) (by decide) (by decide), .ref a, rfl, a, _, 2, 2, rfl, rfl, g1, rfl, ?_⟩
        refine ⟨_, rfl, q _ _ (Int.emod_nonneg _ (by omega)) (Int.emod_lt_of_pos _ (by omega)) (kp.trans Kp.put) ⟨ns, i, _, m, t, upd_same, ?_, i0, Int.ediv_nonneg b0 (by omega), m0, m1⟩⟩
        rw [upd_ne hca]
        exact g2
      · refine ⟨.ref a, rfl, a, _, 4, .int t, rfl, rfl, SqL.of g1, atI_nat (j := 4) rfl, t, 1, rfl, rfl, .ref a, rfl, a, _, 4, 4, rfl, rfl, g1, rfl, ?_⟩
        refine ⟨.ref a, rfl, a, _, 3, .int m, rfl, rfl, SqL.of upd_same, atI_nat (j := 3) rfl, ?_⟩
        refine ⟨.int m, rfl, .int m, rfl, m, m, rfl, rfl, .inl ⟨by omega, by omega⟩, _, 2147483587, rfl, rfl, (by show (0 : Int) < 2147483587; decide), _, 16807, rfl, rfl, .inr ⟨by decide, by decide⟩, .int m, rfl, m, 48271, rfl, rfl, .inr ⟨by decide, by decide⟩, _, _, rfl, rfl, .ref a, rfl, a, _, 4, .int (t + 1), rfl, rfl, SqL.of upd_same, atI_nat (j := 4) rfl, 97, t + 1, rfl, rfl, .inl ⟨by decide, by decide⟩, _, _, rfl, rfl, _, 12345, rfl, rfl, ?_⟩
        refine ⟨_, rfl, _, 2147483647, rfl, rfl, (by show (0 : Int) < 2147483647; decide), .ref a, rfl, a, _, 3, 3, rfl, rfl, upd_same, rfl, ?_⟩
        refine ⟨.ref a, rfl, a, _, 3, _, rfl, rfl, SqL.of upd_same, atI_nat (j := 3) rfl, _, 64, rfl, rfl, ⟨by decide, by decide⟩, .ref a, rfl, a, _, 3, _, rfl, rfl, SqL.of upd_same, atI_nat (j := 3) rfl, _, 4093, rfl, rfl, (by show (0 : Int) < 4093; decide), _, 31, rfl, rfl, .inr ⟨by decide, by decide⟩, _, _, rfl, rfl, .int n, rfl, _, n, rfl, rfl, (by show (0 : Int) < n; omega), ?_⟩
        refine q _ _ (Int.emod_nonneg _ (by omega)) (Int.emod_lt_of_pos _ (by omega)) (kp.trans (Kp.put.trans Kp.put)) ⟨ns, i, b, _, t + 1, upd_same, ?_, i0, b0, Int.emod_nonneg _ (by decide), Int.emod_lt_of_pos _ (by decide)⟩
        rw [upd_ne hca, upd_ne hca]
        exact g2
end
end HL

namespace HL
open PySem PySem.Spec PyProof.Rows L2
open C8 (pss_cut)
/-- a def of the module as its callers take it -/
structure Cal (P : Program) (w : World) (K : PySem.W.Frag) (mg : Str → Option Value) (base : Heap) (CX : CXT) (j : Nat) (x : Str) (ps : List Str) (sp : Sp) : Prop where
  ex : ∃ f fd, FnOk P w K mg base CX j f fd ps sp ∧ mg x = some (.ref f) ∧ PySem.W.keepIn K (.ref f) = true ∧ Binds K fd ps []
section
variable {P : Program} {w : World} {K : PySem.W.Frag} {mg : Str → Option Value} {base : Heap}
/-! ### pick -/
def spPick : Sp := fun vs H Q _ => ∃ (f c r : Addr) (xs : List V), vs = [.ref f, .ref r] ∧ H r = some (.lst xs) ∧ r ≠ f ∧ 1 ≤ xs.length ∧ xs.length ≤ 1000 ∧ FeedAt c H f ∧
  ∀ v H', v ∈ xs → Kp f H H' → FeedAt c H' f → Q v H'
theorem atI_mem {xs : List V} {i : Int} (h0 : 0 ≤ i) (h1 : i < (xs.length : Nat)) : ∃ z, atI xs i = some z ∧ z ∈ xs ∧ xs[i.toNat]? = some z := by
  have hl : i.toNat < xs.length := by omega
  have e : ((i.toNat : Nat) : Int) = i := by omega
  exact ⟨xs[i.toNat], (congrArg (atI xs) e.symm).trans (atI_nat (j := i.toNat) (List.getElem?_eq_getElem hl)), List.getElem_mem hl, List.getElem?_eq_getElem hl⟩
theorem ok_pick {f : Addr} {fd : FuncData} (F : Fun K "_law_pick" "_law_pick" sPick f fd) (ml : mg "len" = none) (CD : Cal P w K mg base CX0 1 "_law_draw" ["_law_feed_here", "_law_many"] spDraw) :
    FnOk P w K mg base CX0 2 f fd ["_law_feed_here", "_law_row"] spPick := by
  obtain ⟨fD, fdD, GD, gD, kD, bD⟩ := CD.ex
  refine F.ok scPick (fun vs H Q E h => ?_) (fun cdv A outer s H vs Q E hr h => ?_)
  · obtain ⟨a, c, r, xs, rfl, _⟩ := h
    rfl
  · obtain ⟨a, c, r, xs, rfl, hx, hne, l1, l2, Fd, q⟩ := h
    refine ⟨_, pss_one (ps_ret (pe_ix ix_list (pv 1) (pe_call GD hr (by rfl) gD kD bD .nil pass0 (pa_cons (pv 0) (pa_cons (pe_callB call_len_seq (by rfl) ml PySem.boot_len (pa_cons (pv 1) pa_nil)) pa_nil))) (fun _ _ => rfl))), ?_⟩
    refine ⟨.ref r, rfl, .ref a, rfl, .ref r, rfl, r, xs, rfl, .inl (SqL.of hx), a, c, (xs.length : Nat), rfl, by omega, by omega, Fd, fun d H' d0 d1 kp F' => ?_⟩
    obtain ⟨z, hz, hm, _⟩ := atI_mem d0 d1
    exact ⟨r, xs, d, z, rfl, rfl, SqL.of (kp _ _ hne hx), hz, q z H' hm kp F'⟩
/-! ### same -/
def leafV : V → Bool
  | .non => true
  | .bl _ => true
  | .int _ => true
  | .str _ => true
  | _ => false
/-- alike at depth d: leaves, or lists or tuples of such -/
def Eqd (H : Hp) : Nat → V → V → Prop
  | 0, x, y => x = y ∧ leafV x = true
  | d + 1, x, y => (x = y ∧ leafV x = true) ∨ ∃ (a b : Addr) (xs ys : List V), x = .ref a ∧ y = .ref b ∧ ((H a = some (.lst xs) ∧ H b = some (.lst ys)) ∨ (H a = some (.tup xs) ∧ H b = some (.tup ys))) ∧
      xs.length = ys.length ∧ xs.length ≤ 1000 ∧ ∀ (i : Nat) (x y : V), xs[i]? = some x → ys[i]? = some y → Eqd H d x y
theorem Eqd.same {H H' : Hp} (s : Same H H') : ∀ {d : Nat} {x y : V}, Eqd H d x y → Eqd H' d x y
  | 0, _, _, h => h
  | d + 1, _, _, .inl h => .inl h
  | d + 1, _, _, .inr ⟨a, b, xs, ys, ex, ey, hs, hl, hz, ih⟩ => .inr ⟨a, b, xs, ys, ex, ey, hs.imp (fun q => ⟨s _ _ q.1, s _ _ q.2⟩) (fun q => ⟨s _ _ q.1, s _ _ q.2⟩), hl, hz, fun i x y h1 h2 => Eqd.same s (ih i x y h1 h2)⟩
def spSame (d : Nat) : Sp := fun vs H Q _ => ∃ x y, vs = [x, y] ∧ Eqd H d x y ∧ ∀ H', Same H H' → Q (.bl true) H'
theorem scSame : FnScope ["_law_found", "_law_due", "_law_at"] ["_law_found", "_law_due"] (defScope sSame) := ⟨rfl, rfl, rfl, by decide +kernel, rfl, by decide +kernel, by decide +kernel⟩
structure Bl (mg : Str → Option Value) : Prop where
  len : mg "len" = none
  list : mg "list" = none
  tuple : mg "tuple" = none
  dict : mg "dict" = none
  str : mg "str" = none
  int : mg "int" = none
  bool : mg "bool" = none
  isinstance : mg "isinstance" = none
  all : mg "all" = none
  range : mg "range" = none
  sum : mg "sum" = none
  min : mg "min" = none
  max : mg "max" = none
  enumerate : mg "enumerate" = none
theorem ok_same_leaf {f : Addr} {fd : FuncData} {k : Nat} (F : Fun K "_law_same" "_law_same" sSame f fd) (B : Bl mg) : FnOk P w K mg base CX0 (k + 1) f fd ["_law_found", "_law_due"] (spSame 0) := by
  refine F.ok scSame (fun vs H Q E h => ?_) (fun cdv A outer s H vs Q E hr h => ?_)
  · obtain ⟨x, y, rfl, _⟩ := h
    rfl
  · obtain ⟨x, y, rfl, ⟨rfl, hlf⟩, q⟩ := h
    refine ⟨_, pss_cons (ps_if (pt_cmpR op_isN (pv 1) pe_non (nomark _)) (pss_one (ps_ret (pe_cmp (pc_isN (pv 0)) rfl))) pss_nil)
      (pss_cons (ps_if (pt_val (pe_callB call_isi (by rfl) B.isinstance (by decide +kernel) (pa_cons (pv 1) (pa_cons (pe_bltn (v := .ty "bool") (by rfl) B.bool (by decide +kernel) rfl) pa_nil))))
          (pss_one (ps_ret (pe_and (pe_callB call_isi (by rfl) B.isinstance (by decide +kernel) (pa_cons (pv 0) (pa_cons (pe_bltn (v := .ty "bool") (by rfl) B.bool (by decide +kernel) rfl) pa_nil))) (pe_one (pe_cmpR op_eq (pv 0) (pv 1) (nomark _)))))) pss_nil)
      (pss_cons (ps_if (pt_val (pe_callB call_isi (by rfl) B.isinstance (by decide +kernel) (pa_cons (pv 1) (pa_cons (pe_bltn (v := .ty "int") (by rfl) B.int (by decide +kernel) rfl) pa_nil))))
          (pss_one (ps_ret (pe_and (pe_callB call_isi (by rfl) B.isinstance (by decide +kernel) (pa_cons (pv 0) (pa_cons (pe_bltn (v := .ty "int") (by rfl) B.int (by decide +kernel) rfl) pa_nil)))
            (pe_and (pe_not (pe_callB call_isi (by rfl) B.isinstance (by decide +kernel) (pa_cons (pv 0) (pa_cons (pe_bltn (v := .ty "bool") (by rfl) B.bool (by decide +kernel) rfl) pa_nil)))) (pe_one (pe_cmpR op_eq (pv 0) (pv 1) (nomark _))))))) pss_nil)
      (pss_cons (ps_if (pt_val (pe_callB call_isi (by rfl) B.isinstance (by decide +kernel) (pa_cons (pv 1) (pa_cons (pe_bltn (v := .ty "str") (by rfl) B.str (by decide +kernel) rfl) pa_nil))))
          (pss_one (ps_ret (pe_and (pe_callB call_isi (by rfl) B.isinstance (by decide +kernel) (pa_cons (pv 0) (pa_cons (pe_bltn (v := .ty "str") (by rfl) B.str (by decide +kernel) rfl) pa_nil))) (pe_one (pe_cmpR op_eq (pv 0) (pv 1) (nomark _)))))) pss_nil)
      pss_never))), ?_⟩
    cases x with
    | non => exact ⟨_, rfl, rfl, _, rfl, iteT ⟨_, rfl, q _ (Same.refl _)⟩⟩
    | bl b =>
      refine ⟨_, rfl, rfl, _, rfl, iteF ?_⟩
      refine ⟨_, rfl, _, _, _, _, true, rfl, .ty "bool", .base (.bl b), kit_ty (by decide +kernel), _, rfl, iteT ?_⟩
      refine ⟨_, rfl, _, _, _, _, true, rfl, .ty "bool", .base (.bl b), kit_ty (by decide +kernel), _, rfl, iteT ?_⟩
      refine ⟨_, rfl, _, rfl, rfl, ?_⟩
      rw [decide_eq_true rfl]
      exact q _ (Same.refl _)
    | int i =>
      refine ⟨_, rfl, rfl, _, rfl, iteF ?_⟩
      refine ⟨_, rfl, _, _, _, _, false, rfl, .ty "bool", .base (.int i), kit_ty (by decide +kernel), _, rfl, iteF ?_⟩
      refine ⟨_, rfl, _, _, _, _, true, rfl, .ty "int", .base (.int i), kit_ty (by decide +kernel), _, rfl, iteT ?_⟩
      refine ⟨_, rfl, _, _, _, _, true, rfl, .ty "int", .base (.int i), kit_ty (by decide +kernel), _, rfl, iteT ?_⟩
      refine ⟨_, rfl, _, _, _, _, false, rfl, .ty "bool", .base (.int i), kit_ty (by decide +kernel), _, rfl, _, rfl, iteT ?_⟩
      refine ⟨_, rfl, _, rfl, rfl, ?_⟩
      rw [decide_eq_true rfl]
      exact q _ (Same.refl _)
    | str z =>
      refine ⟨_, rfl, rfl, _, rfl, iteF ?_⟩
      refine ⟨_, rfl, _, _, _, _, false, rfl, .ty "bool", .base (.str z), kit_ty (by decide +kernel), _, rfl, iteF ?_⟩
      refine ⟨_, rfl, _, _, _, _, false, rfl, .ty "int", .base (.str z), kit_ty (by decide +kernel), _, rfl, iteF ?_⟩
      refine ⟨_, rfl, _, _, _, _, true, rfl, .ty "str", .base (.str z), kit_ty (by decide +kernel), _, rfl, iteT ?_⟩
      refine ⟨_, rfl, _, _, _, _, true, rfl, .ty "str", .base (.str z), kit_ty (by decide +kernel), _, rfl, iteT ?_⟩
      refine ⟨_, rfl, _, rfl, rfl, ?_⟩
      rw [decide_eq_true rfl]
      exact q _ (Same.refl _)
    | byt b => cases hlf
    | flt b => cases hlf
    | ref a => cases hlf
    | ty n => cases hlf

theorem leaf_or {H : Hp} {d : Nat} {x y : V} (h : Eqd H d x y) (hx : leafV x = true) : x = y := by
  cases d with
  | zero => exact h.1
  | succ d =>
    rcases h with h | ⟨a, b, xs, ys, rfl, _⟩
    · exact h.1
    · cases hx
/-- what isinstance tells of a list or tuple that is tracked -/
theorem seq_ty {K : PySem.W.Frag} {H : Hp} {a b : Addr} {xs ys : List V} (h : (H a = some (.lst xs) ∧ H b = some (.lst ys)) ∨ (H a = some (.tup xs) ∧ H b = some (.tup ys))) :
    ∃ (T : String) (bt bl : Bool), TyX K H (.ref a) (.type T) ∧ TyX K H (.ref b) (.type T) ∧ kitB T "bool" = some false ∧ kitB T "int" = some false ∧ kitB T "str" = some false ∧ kitB T "dict" = some false ∧ kitB T "tuple" = some bt ∧ kitB T "list" = some bl := by
  rcases h with ⟨h1, h2⟩ | ⟨h1, h2⟩
  · exact ⟨"list", false, true, .base (.lst h1), .base (.lst h2), by decide +kernel, by decide +kernel, by decide +kernel, by decide +kernel, by decide +kernel, by decide +kernel⟩
  · exact ⟨"tuple", true, false, .base (.tup h1), .base (.tup h2), by decide +kernel, by decide +kernel, by decide +kernel, by decide +kernel, by decide +kernel, by decide +kernel⟩
theorem fnEither {CX : CXT} {k : Nat} {f : Addr} {fd : FuncData} {ps : List Str} {sp sp1 sp2 : Sp} (F1 : FnOk P w K mg base CX k f fd ps sp1) (F2 : FnOk P w K mg base CX k f fd ps sp2) (h : ∀ vs H Q E, sp vs H Q E → sp1 vs H Q E ∨ sp2 vs H Q E) : FnOk P w K mg base CX k f fd ps sp where
  len := fun vs H Q E q => (h vs H Q E q).elim (F1.len vs H Q E) (F2.len vs H Q E)
  run := fun A outer s H args us vs Q E hr e0 hb r q => (h vs H Q E q).elim (F1.run A outer s H args us vs Q E hr e0 hb r) (F2.run A outer s H args us vs Q E hr e0 hb r)
theorem yes {σ : L2.St} {H : Hp} {Q : Bool → Hp → Prop} (h : Q true H) : tYes σ H Q := h
theorem bl_self (b : Bool) : (!decide (V.bl b = V.bl b)) = false := by rw [decide_eq_true rfl]; rfl
theorem ok_same_step {f : Addr} {fd : FuncData} {d : Nat} (F : Fun K "_law_same" "_law_same" sSame f fd) (B : Bl mg) (gS : mg "_law_same" = some (.ref f)) (kS : PySem.W.keepIn K (.ref f) = true) (bS : Binds K fd ["_law_found", "_law_due"] [])
    (G : FnOk P w K mg base CX0 (d + 1) f fd ["_law_found", "_law_due"] (spSame d)) : FnOk P w K mg base CX0 (d + 2) f fd ["_law_found", "_law_due"] (spSame (d + 1)) := by
  have key : FnOk P w K mg base CX0 (d + 2) f fd ["_law_found", "_law_due"] (fun vs H Q _ => ∃ (a b : Addr) (xs ys : List V), vs = [.ref a, .ref b] ∧ ((H a = some (.lst xs) ∧ H b = some (.lst ys)) ∨ (H a = some (.tup xs) ∧ H b = some (.tup ys))) ∧
      xs.length = ys.length ∧ xs.length ≤ 1000 ∧ (∀ (i : Nat) (x y : V), xs[i]? = some x → ys[i]? = some y → Eqd H d x y) ∧ ∀ H', Same H H' → Q (.bl true) H') := by
    refine F.ok scSame (fun vs H Q E h => ?_) (fun cdv A outer s H vs Q E hr h => ?_)
    · obtain ⟨a, b, xs, ys, rfl, _⟩ := h
      rfl
    · obtain ⟨a, b, xs, ys, rfl, hs, hl, hz, hE, q⟩ := h
      refine ⟨_, pss_cons (ps_if (pt_cmpR op_isN (pv 1) pe_non (nomark _)) pss_never pss_nil)
        (pss_cons (ps_if (pt_val (pe_callB call_isi (by rfl) B.isinstance (by decide +kernel) (pa_cons (pv 1) (pa_cons (pe_bltn (v := .ty "bool") (by rfl) B.bool (by decide +kernel) rfl) pa_nil)))) pss_never pss_nil)
        (pss_cons (ps_if (pt_val (pe_callB call_isi (by rfl) B.isinstance (by decide +kernel) (pa_cons (pv 1) (pa_cons (pe_bltn (v := .ty "int") (by rfl) B.int (by decide +kernel) rfl) pa_nil)))) pss_never pss_nil)
        (pss_cons (ps_if (pt_val (pe_callB call_isi (by rfl) B.isinstance (by decide +kernel) (pa_cons (pv 1) (pa_cons (pe_bltn (v := .ty "str") (by rfl) B.str (by decide +kernel) rfl) pa_nil)))) pss_never pss_nil)
        (pss_cons (ps_if (pt_val (pe_callB call_isi (by rfl) B.isinstance (by decide +kernel) (pa_cons (pv 1) (pa_cons (pe_bltn (v := .ty "dict") (by rfl) B.dict (by decide +kernel) rfl) pa_nil)))) pss_never pss_nil)
        (pss_cons (ps_if (PW.pt (pw_or (pt_cmpR op_ne (pe_callB call_isi (by rfl) B.isinstance (by decide +kernel) (pa_cons (pv 1) (pa_cons (pe_bltn (v := .ty "tuple") (by rfl) B.tuple (by decide +kernel) rfl) pa_nil)))
              (pe_callB call_isi (by rfl) B.isinstance (by decide +kernel) (pa_cons (pv 0) (pa_cons (pe_bltn (v := .ty "tuple") (by rfl) B.tuple (by decide +kernel) rfl) pa_nil))) (nomark _))
            (pw_or1 (pt_cmpR op_ne (pe_callB call_isi (by rfl) B.isinstance (by decide +kernel) (pa_cons (pv 1) (pa_cons (pe_bltn (v := .ty "list") (by rfl) B.list (by decide +kernel) rfl) pa_nil)))
              (pe_callB call_isi (by rfl) B.isinstance (by decide +kernel) (pa_cons (pv 0) (pa_cons (pe_bltn (v := .ty "list") (by rfl) B.list (by decide +kernel) rfl) pa_nil))) (nomark _))))) pss_never pss_nil)
        (pss_cons (ps_if (pt_cmpR op_ne (pe_callB call_len_seq (by rfl) B.len PySem.boot_len (pa_cons (pv 0) pa_nil)) (pe_callB call_len_seq (by rfl) B.len PySem.boot_len (pa_cons (pv 1) pa_nil)) (nomark _)) pss_never pss_nil)
        (pss_one (ps_ret (pe_callB (cr_all rfl) (by rfl) B.all (by decide +kernel) (pa_cons
          (pe_lc (own := [("_law_at", 2)]) (g := gName 2) (tt := tYes) rfl scSame.nd (pi_range1 (by rfl) B.range (pa_cons (pe_callB call_len_seq (by rfl) B.len PySem.boot_len (pa_cons (pv 1) pa_nil)) pa_nil))
            (blkOk_by (own := [("_law_at", 2)]) (N := ["_law_found", "_law_due", "_law_at"]) (sc := defScope sSame) (by decide +kernel)) (fun _ _ _ _ _ => pg_name (i := 2) scSame.nd rfl (Or.inl rfl)) (fun _ _ _ _ _ => pts_nil)
            (fun _ _ _ _ _ => pe_call G hr (by rfl) gS kS bS .nil pass0 (pa_cons (pe_ix (r := rIx K) ix_seq (pv 0) (pv 2) (fun _ _ => rfl)) (pa_cons (pe_ix (r := rIx K) ix_seq (pv 1) (pv 2) (fun _ _ => rfl)) pa_nil)))) pa_nil)))))))))), ?_⟩
      obtain ⟨T, bt, bl, ta, tb, k1, k2, k3, k4, k5, k6⟩ := seq_ty (K := K) hs
      refine ⟨.ref b, rfl, rfl, _, rfl, iteF ?_⟩
      refine ⟨.ref b, rfl, _, _, _, _, false, rfl, .ty "bool", tb, kit_ty k1, _, rfl, iteF ?_⟩
      refine ⟨.ref b, rfl, _, _, _, _, false, rfl, .ty "int", tb, kit_ty k2, _, rfl, iteF ?_⟩
      refine ⟨.ref b, rfl, _, _, _, _, false, rfl, .ty "str", tb, kit_ty k3, _, rfl, iteF ?_⟩
      refine ⟨.ref b, rfl, _, _, _, _, false, rfl, .ty "dict", tb, kit_ty k4, _, rfl, iteF ?_⟩
      refine ⟨.ref b, rfl, _, _, _, _, bt, rfl, .ty "tuple", tb, kit_ty k5, .ref a, rfl, _, _, _, _, bt, rfl, .ty "tuple", ta, kit_ty k5, rfl, _, rfl, ?_⟩
      rw [bl_self]
      refine iteF ?_
      refine ⟨.ref b, rfl, _, _, _, _, bl, rfl, .ty "list", tb, kit_ty k6, .ref a, rfl, _, _, _, _, bl, rfl, .ty "list", ta, kit_ty k6, rfl, _, rfl, ?_⟩
      rw [bl_self]
      refine iteF ?_
      have sA : SqL K H a xs ∨ SqT K H a xs := hs.imp (fun q => SqL.of q.1) (fun q => SqT.of q.1)
      have sB : SqL K H b ys ∨ SqT K H b ys := hs.imp (fun q => SqL.of q.2) (fun q => SqT.of q.2)
      refine ⟨.ref a, rfl, a, xs, rfl, sA, .ref b, rfl, b, ys, rfl, sB, rfl, _, rfl, ?_⟩
      rw [hl, decide_eq_true rfl]
      refine iteF ?_
      refine ⟨.ref b, rfl, b, ys, rfl, sB, (ys.length : Nat), rfl, by omega, by omega, fun D nD => ?_⟩
      refine lc_range (lo := 0) (n := ((ys.length : Nat) : Int).toNat) (fun i H' => Same H H' ∧ H' D = some (.lst ((List.replicate i true).map V.bl))) ⟨same_new nD, upd_same⟩ (fun i H' hi ⟨sm, hD⟩ => ?_) (fun H' ⟨sm, hD⟩ => ?_)
      · have hi' : i < ys.length := by omega
        have hx : xs[i]? = some (xs[i]'(by omega)) := List.getElem?_eq_getElem (by omega)
        have hy : ys[i]? = some ys[i] := List.getElem?_eq_getElem hi'
        have ez : (0 : Int) + (i : Nat) = ((i : Nat) : Int) := by omega
        rw [ez]
        have sA' : rIx K (.ref a) (.int ((i : Nat) : Int)) H' = rIx K (.ref a) (.int ((i : Nat) : Int)) H' := rfl
        have rdA : ∀ Q : VK, Q (xs[i]'(by omega)) H' → rIx K (.ref a) (.int ((i : Nat) : Int)) H' Q := fun Q hQ => by
          rcases hs with ⟨h1, _⟩ | ⟨h1, _⟩
          · exact .inl ⟨a, xs, _, _, rfl, rfl, SqL.of (sm _ _ h1), atI_nat hx, hQ⟩
          · exact .inr (.inl ⟨a, xs, _, _, rfl, rfl, SqT.of (sm _ _ h1), atI_nat hx, hQ⟩)
        have rdB : ∀ Q : VK, Q ys[i] H' → rIx K (.ref b) (.int ((i : Nat) : Int)) H' Q := fun Q hQ => by
          rcases hs with ⟨_, h1⟩ | ⟨_, h1⟩
          · exact .inl ⟨b, ys, _, _, rfl, rfl, SqL.of (sm _ _ h1), atI_nat hy, hQ⟩
          · exact .inr (.inl ⟨b, ys, _, _, rfl, rfl, SqT.of (sm _ _ h1), atI_nat hy, hQ⟩)
        refine ⟨rfl, yes (iteT ?_)⟩
        refine ⟨.ref a, rfl, .int ((i : Nat) : Int), rfl, rdA _ ⟨.ref b, rfl, .int ((i : Nat) : Int), rfl, rdB _ ?_⟩⟩
        refine ⟨_, _, rfl, (hE i _ _ hx hy).same sm, fun H2 s2 => ⟨_, s2 _ _ hD, ?_, ?_, ?_⟩⟩
        · rw [List.length_map, List.length_replicate]
          exact small1000 (by omega)
        · exact fun c o e => by
            have nc : c ≠ D := fun z => by rw [z, nD] at e; cases e
            rw [upd_ne nc]
            exact s2 _ _ (sm _ _ e)
        · rw [upd_same, List.replicate_succ', List.map_append]
          rfl
      · refine ⟨D, _, rfl, SqL.of hD, ?_⟩
        have e : (List.replicate ((ys.length : Nat) : Int).toNat true).all id = true := by
          rw [List.all_eq_true]
          intro x hx
          exact (List.eq_of_mem_replicate hx)
        rw [e]
        exact q _ sm
  have leaf : FnOk P w K mg base CX0 (d + 2) f fd ["_law_found", "_law_due"] (spSame 0) := ok_same_leaf F B
  exact fnEither key leaf fun vs H Q E ⟨x, y, ev, h, q⟩ => by
    rcases h with h | ⟨a, b, xs, ys, rfl, rfl, hs, hl, hz, hE⟩
    · exact .inr ⟨x, y, ev, h, q⟩
    · exact .inl ⟨a, b, xs, ys, ev, hs, hl, hz, hE, q⟩
theorem ok_same {f : Addr} {fd : FuncData} (F : Fun K "_law_same" "_law_same" sSame f fd) (B : Bl mg) (gS : mg "_law_same" = some (.ref f)) (bS : Binds K fd ["_law_found", "_law_due"] []) :
    ∀ d : Nat, FnOk P w K mg base CX0 (d + 1) f fd ["_law_found", "_law_due"] (spSame d)
  | 0 => ok_same_leaf F B
  | d + 1 => ok_same_step F B gS F.kp bS (ok_same F B gS bS d)
end
end HL

namespace HL
open PySem PySem.Spec PyProof.Rows L2 SX
open TL (tl)
/-! ### numbers in a text -/
abbrev ten : List Nat := [48, 49, 50, 51, 52, 53, 54, 55, 56, 57]
def figs : List Nat → List Nat
  | 45 :: r => r
  | z => z
def dig (c : Nat) : Bool := decide (c ∈ ten)
def hd0 (z : List Nat) : Bool := decide (z.head? = some 48)
def isNum (z : List Nat) : Bool := decide (1 ≤ (figs z).length ∧ (figs z).length ≤ 30) && ((figs z).all dig && (!hd0 (figs z) || decide (z = [48])))
def valW (z : List Nat) : Int := match z with
  | 45 :: r => -((NumText.digitsVal r : Nat) : Int)
  | z => ((NumText.digitsVal z : Nat) : Int)
def numV (z : List Nat) : V := if isNum z = true then .int (valW z) else .non
theorem dig_iff {c : Nat} : dig c = true ↔ 48 ≤ c ∧ c ≤ 57 := by
  unfold dig ten
  rw [decide_eq_true_iff]
  simp only [List.mem_cons, List.mem_nil_iff, or_false]
  omega
theorem figs_ne {z : List Nat} (h : z.head? ≠ some 45) : figs z = z := by
  unfold figs
  split
  · exact absurd rfl h
  · rfl
theorem figs_le (z : List Nat) : (figs z).length ≤ z.length := by
  unfold figs
  split
  · rw [List.length_cons]
    omega
  · exact Nat.le_refl _
theorem valW_ne {z : List Nat} (h : z.head? ≠ some 45) : valW z = ((NumText.digitsVal z : Nat) : Int) := by
  unfold valW
  split
  · exact absurd rfl h
  · rfl
theorem isNum_parts {z : List Nat} (h : isNum z = true) : 1 ≤ (figs z).length ∧ (figs z).length ≤ 30 ∧ NumText.AllDigits (figs z) := by
  unfold isNum at h
  rw [Bool.and_eq_true, Bool.and_eq_true, decide_eq_true_iff, List.all_eq_true] at h
  exact ⟨h.1.1, h.1.2, fun c hc => dig_iff.mp (h.2.1 c hc)⟩
theorem int_word {z : List Nat} (h : isNum z = true) : intText? (S z) = some (valW z) ∧ (S z).length ≤ 640 := by
  obtain ⟨h1, h2, h3⟩ := isNum_parts h
  have hz : z.length ≤ 31 := by
    unfold figs at h2
    split at h2
    · rw [List.length_cons]
      omega
    · omega
  have hl : (S z).length ≤ 640 := by
    rw [S_len]
    omega
  refine ⟨?_, hl⟩
  by_cases c : z.head? = some 45
  · cases z with
    | nil => cases c
    | cons x r =>
      have e : x = 45 := Option.some.inj c
      subst e
      have h3' : NumText.AllDigits r := h3
      have h1' : 1 ≤ r.length := h1
      have := intText_neg (x := S (45 :: r)) (cs := r) rfl h3' (fun e => by rw [e] at h1'; simp at h1') (by omega)
      exact this
  · rw [figs_ne c] at h1 h3
    have := intText_digits (x := S z) h3 (fun e => by rw [show z = [] from e] at h1; simp at h1) (by omega)
    rw [valW_ne c]
    exact this
/-! ### numbers written -/
def wr (n : Int) : List Nat := if 0 ≤ n then TL.numL n.toNat else 45 :: TL.numL n.natAbs
theorem tl_wr (n : Int) : Str.ofString (toString n) = S (wr n) := by
  refine TL.ext_tl ?_
  unfold wr
  by_cases h : 0 ≤ n
  · rw [if_pos h]
    have e : n = ((n.toNat : Nat) : Int) := by omega
    have := TL.tl_num n.toNat
    rw [← e] at this
    exact this
  · rw [if_neg h]
    obtain ⟨m, rfl⟩ : ∃ m : Nat, n = Int.negSucc m := by
      cases n with
      | ofNat m => exact absurd (Int.natCast_nonneg m) h
      | negSucc m => exact ⟨m, rfl⟩
    have e1 : toString (Int.negSucc m) = "-" ++ toString ((m + 1 : Nat) : Int) := rfl
    rw [e1]
    have e2 : Str.ofString ("-" ++ toString ((m + 1 : Nat) : Int)) = Str.ofString "-" ++ Str.ofString (toString ((m + 1 : Nat) : Int)) := by
      refine TL.ext_tl ?_
      rw [TL.tl_append, TL.tl_ofString, TL.tl_ofString, TL.tl_ofString, String.toList_append, List.map_append]
    rw [e2, TL.tl_append, TL.tl_num]
    rfl
theorem numL_head {n : Nat} (h : 0 < n) : (TL.numL n).head? ≠ some 48 := by
  induction n using Nat.strongRecOn with
  | _ n ih =>
    by_cases c : n < 10
    · rw [TL.numL_lt c]
      intro e
      have := Option.some.inj e
      omega
    · have i1 := ih (n / 10) (by omega) (by omega)
      rw [TL.numL_step (by omega)]
      cases e : TL.numL (n / 10) with
      | nil => exact absurd e (TL.numL_ne _)
      | cons x r =>
        rw [e] at i1
        exact i1
theorem numL_h45 (n : Nat) : (TL.numL n).head? ≠ some 45 := fun e => by
  have hm : 45 ∈ TL.numL n := List.mem_of_mem_head? e
  have := TL.numL_digits n 45 hm
  omega
theorem wr_free {n : Int} {s : Nat} (h : s < 48 ∨ 57 < s) (h2 : s ≠ 45) : s ∉ wr n := by
  unfold wr
  split
  · exact TL.numL_free h
  · intro hm
    rcases List.mem_cons.mp hm with e | e
    · exact h2 e
    · exact TL.numL_free h e
theorem wr_len {n : Int} (h : n.natAbs < 10 ^ 30) : (wr n).length ≤ 31 := by
  unfold wr
  split
  · have := TL.numL_len (n := n.toNat) (k := 30) (by decide) (by omega)
    omega
  · have := TL.numL_len (n := n.natAbs) (k := 30) (by decide) h
    rw [List.length_cons]
    omega
theorem wr_num {n : Int} (h : n.natAbs < 10 ^ 30) : isNum (wr n) = true ∧ valW (wr n) = n := by
  by_cases c : 0 ≤ n
  · have e : wr n = TL.numL n.toNat := by unfold wr; rw [if_pos c]
    have hf : figs (TL.numL n.toNat) = TL.numL n.toNat := figs_ne (numL_h45 _)
    have hl := TL.numL_len (n := n.toNat) (k := 30) (by decide) (by omega)
    have hn : 1 ≤ (TL.numL n.toNat).length := by
      cases z : TL.numL n.toNat with
      | nil => exact absurd z (TL.numL_ne _)
      | cons x r => rw [List.length_cons]; omega
    rw [e]
    refine ⟨?_, ?_⟩
    · unfold isNum
      rw [hf, Bool.and_eq_true, Bool.and_eq_true, decide_eq_true_iff, List.all_eq_true]
      refine ⟨⟨hn, hl⟩, fun x hx => dig_iff.mpr (TL.numL_digits _ x hx), ?_⟩
      by_cases z : n.toNat = 0
      · rw [z]
        decide
      · have : hd0 (TL.numL n.toNat) = false := decide_eq_false (numL_head (by omega))
        rw [this]
        rfl
    · rw [valW_ne (numL_h45 _), TL.numL_val]
      omega
  · have e : wr n = 45 :: TL.numL n.natAbs := by unfold wr; rw [if_neg c]
    have hl := TL.numL_len (n := n.natAbs) (k := 30) (by decide) h
    have hn : 1 ≤ (TL.numL n.natAbs).length := by
      cases z : TL.numL n.natAbs with
      | nil => exact absurd z (TL.numL_ne _)
      | cons x r => rw [List.length_cons]; omega
    rw [e]
    refine ⟨?_, ?_⟩
    · show (decide (1 ≤ (TL.numL n.natAbs).length ∧ (TL.numL n.natAbs).length ≤ 30) && ((TL.numL n.natAbs).all dig && (!hd0 (TL.numL n.natAbs) || decide (45 :: TL.numL n.natAbs = [48])))) = true
      rw [Bool.and_eq_true, Bool.and_eq_true, decide_eq_true_iff, List.all_eq_true]
      refine ⟨⟨hn, hl⟩, fun x hx => dig_iff.mpr (TL.numL_digits _ x hx), ?_⟩
      have : hd0 (TL.numL n.natAbs) = false := decide_eq_false (numL_head (by omega))
      rw [this]
      rfl
    · show -((NumText.digitsVal (TL.numL n.natAbs) : Nat) : Int) = n
      rw [TL.numL_val]
      omega
/-! ### rows in a text -/
def wordsOf (z : List Nat) : List (List Nat) := TL.spl [44] 0 [] z
theorem split_words (z : List Nat) : Txt.split (S z) (S [44]) = (wordsOf z).map S := split_S (by decide) (by decide)
def rowL (ns : List Int) : List Nat := TL.joinL [44] (ns.map wr)
theorem words_row {ns : List Int} (h : ns ≠ []) : wordsOf (rowL ns) = ns.map wr := by
  refine TL.spl_join (fun e => h (List.map_eq_nil_iff.mp e)) fun p hp => ?_
  obtain ⟨n, _, rfl⟩ := List.mem_map.mp hp
  exact wr_free (.inl (by decide)) (by decide)
theorem join_row (ns : List Int) : Txt.join (S [44]) ((ns.map wr).map S) = S (rowL ns) := join_S _ _
theorem joinL_len : ∀ {ps : List (List Nat)} {k : Nat}, (∀ p ∈ ps, p.length ≤ k) → (TL.joinL [44] ps).length ≤ ps.length * (k + 1)
  | [], k, _ => Nat.zero_le _
  | [p], k, h => by
    have := h p List.mem_cons_self
    show p.length ≤ 1 * (k + 1)
    omega
  | p :: q :: r, k, h => by
    have h1 := h p List.mem_cons_self
    have h2 := joinL_len (ps := q :: r) (k := k) fun z hz => h z (List.mem_cons_of_mem _ hz)
    show (p ++ ([44] ++ TL.joinL [44] (q :: r))).length ≤ (q :: r).length.succ * (k + 1)
    rw [List.length_append, List.length_append, List.length_singleton, Nat.succ_mul]
    omega
theorem rowL_len {ns : List Int} (h : ∀ n ∈ ns, n.natAbs < 10 ^ 30) : (rowL ns).length ≤ ns.length * 32 := by
  have := joinL_len (ps := ns.map wr) (k := 31) fun p hp => by
    obtain ⟨n, hn, rfl⟩ := List.mem_map.mp hp
    exact wr_len (h n hn)
  rw [List.length_map] at this
  exact this
theorem spl_len : ∀ (z acc : List Nat), (TL.spl [44] 0 acc z).length ≤ z.length + 1 ∧ ∀ p ∈ TL.spl [44] 0 acc z, p.length ≤ acc.length + z.length
  | [], acc => by
    rw [TL.spl_nil]
    exact ⟨Nat.le_refl _, fun p hp => by rw [List.mem_singleton.mp hp]; exact Nat.le_refl _⟩
  | c :: r, acc => by
    cases e : TL.pre [44] (c :: r) with
    | true =>
      rw [TL.spl_hit e]
      obtain ⟨h1, h2⟩ := spl_len r []
      refine ⟨by rw [List.length_cons, List.length_cons]; exact Nat.succ_le_succ h1, fun p hp => ?_⟩
      rcases List.mem_cons.mp hp with x | x
      · rw [x]; omega
      · have := h2 p x
        rw [List.length_cons]
        simp at this
        omega
    | false =>
      rw [TL.spl_miss e]
      obtain ⟨h1, h2⟩ := spl_len r (acc ++ [c])
      refine ⟨by rw [List.length_cons]; omega, fun p hp => ?_⟩
      have := h2 p hp
      rw [List.length_append, List.length_singleton] at this
      rw [List.length_cons]
      omega
theorem words_len (z : List Nat) : (wordsOf z).length ≤ z.length + 1 ∧ ∀ p ∈ wordsOf z, p.length ≤ z.length := by
  have := spl_len z []
  exact ⟨this.1, fun p hp => by have := this.2 p hp; simp at this; exact this⟩
/-- a prefix taken away -/
theorem rp_eq (z : List Nat) : Txt.removeprefix (S z) (S [45]) = S (figs z) := by
  rw [PySem.StrLaws.removeprefix_eq]
  have key := TL.at_iff (x := S z) (y := S [45]) (by decide) 0
  rw [List.drop_zero] at key
  have key2 : (decide (0 + (S [45]).length ≤ (S z).length) && Builtin.Str.subAt (S z) (S [45]) 0) = true ↔ TL.pre [45] z = true := by
    rw [Bool.and_eq_true, decide_eq_true_iff]
    exact key
  cases z with
  | nil =>
    rw [if_neg (fun h => by have := key2.mp h; cases this)]
    rfl
  | cons c r =>
    by_cases h : c = 45
    · subst h
      rw [if_pos (key2.mpr (TL.pre_self [45] r))]
      refine TL.ext_tl ?_
      show (List.drop 1 (45 :: r)).take _ = r
      rw [List.drop_succ_cons, List.drop_zero]
      refine List.take_of_length_le ?_
      rw [S_len, S_len, List.length_cons, List.length_singleton]
      omega
    · rw [if_neg (fun h2 => ?_)]
      · rw [figs_ne (z := c :: r) (fun e => h (Option.some.inj e))]
      · have := key2.mp h2
        rw [TL.pre_of_head [] r h] at this
        cases this
end HL

namespace HL
open PySem PySem.Spec PyProof.Rows L2
open C8 (pss_cut)
open SX (S S_len)
/-! ### the refusal -/
abbrev sTextInit : Stmt := inClass (topS 2) 0
theorem scBT : FnScope ["self", "at"] ["self", "at"] (defScope sTextInit) := ⟨rfl, rfl, rfl, by decide +kernel, rfl, by decide +kernel, by decide +kernel⟩
/-- what is known of a refusal's class whose __init__ stores a word and a field -/
structure Cls2 (K : PySem.W.Frag) (C : Addr) (f : Str) : Prop where
  ox : OexC K C
  noW : PySem.W.findIn K (.ref C) "word" = some none
  noF : PySem.W.findIn K (.ref C) f = some none
abbrev exF (f wd : Str) (v : V) : List (Str × V) := [(f, v), ("word", .str wd)]
def spInit2 (C : Addr) (f wd : Str) : Sp := fun vs H Q _ => ∃ (a : Addr) (v : V), vs = [.ref a, v] ∧ H a = some (exo a C none) ∧
  ∀ dx, H dx = none → dx ≠ a → Q .non (upd (upd (upd H dx (exd dx [("word", .str wd)])) a (exo a C (some dx))) dx (exd dx (exF f wd v)))
section
variable {P : Program} {w : World} {K : PySem.W.Frag} {mg : Str → Option Value} {base : Heap}
theorem ok_textInit {f : Addr} {fd : FuncData} {k : Nat} {C : Addr} (F : Fun K "__init__" "BadText.__init__" sTextInit f fd) (T : Cls2 K C "at") : FnOk P w K mg base CX0 (k + 1) f fd ["self", "at"] (spInit2 C "at" "bad text") := by
  refine F.ok scBT (fun vs H Q E h => ?_) (fun cdv A outer s H vs Q E hr h => ?_)
  · obtain ⟨a, v, rfl, _⟩ := h
    rfl
  · obtain ⟨a, v, rfl, ha, q⟩ := h
    refine ⟨_, pss_cons (ps_ost (pv 0) pe_str) (pss_one (ps_ost (pv 0) (pv 1))), ?_⟩
    refine ⟨.ref a, rfl, a, C, rfl, T.ox, T.noW, .inl ⟨ha, fun dx nd ne => ?_⟩⟩
    refine ⟨v, rfl, .ref a, rfl, a, C, rfl, T.ox, T.noF, .inr ⟨dx, _, upd_same, ?_, (by show 1 ≤ 900; decide), q dx nd ne⟩⟩
    rw [upd_ne ne, upd_same]
/-- the heap behind a refusal that was made -/
theorem xd_same {H : Hp} {a dx : Addr} {o1 o2 o3 o4 o5 : HO} (na : H a = none) (nd : H dx = none) : Same H (upd (del (upd (upd (upd (upd H a o1) dx o2) a o3) dx o4) a) dx o5) := fun b o e => by
  have n1 := ne_of_none e na
  have n2 := ne_of_none e nd
  rw [upd_ne n2, del_ne n1, upd_ne n2, upd_ne n1, upd_ne n2, upd_ne n1]
  exact e
/-- refused with the class at C, field f holding v -/
def Refd (C : Addr) (f wd : Str) (v : V) (H : Hp) (E : XK) : Prop := ∀ H' d, Same H H' → H d = none → H' d = some (.xd (exF f wd v)) → E (.ref C) (some d) H'
theorem Refd.same {C : Addr} {f wd : Str} {v : V} {H H1 : Hp} {E : XK} (h : Refd C f wd v H E) (s : Same H H1) : Refd C f wd v H1 E := fun H' d s' n e => h H' d (s.trans s') (s.free n) e
/-- raise C(v): its reading from what is wanted -/
theorem mk_refd {C : Addr} {f wd : Str} {v : V} {H : Hp} {E : XK} (h : Refd C f wd v H E) : [v].length ≤ 1000 ∧ ∀ a, H a = none → spInit2 C f wd (.ref a :: ([v] ++ [])) (upd H a (exo a C none))
    (fun u H2 => u = .non ∧ ∃ (d : Addr) (fs : List (Str × V)), H2 a = some (exo a C (some d)) ∧ H2 d = some (exd d fs) ∧ H d = none ∧ E (.ref C) (some d) (upd (del H2 a) d (.xd fs))) (fun _ _ _ => False) := by
  refine ⟨(by show 1 ≤ 1000; decide), fun a na => ⟨a, v, rfl, upd_same, fun dx nd ne => ⟨rfl, dx, exF f wd v, ?_, upd_same, ?_, ?_⟩⟩⟩
  · rw [upd_ne (Ne.symm ne), upd_same]
  · rw [upd_ne ne] at nd
    exact nd
  · rw [upd_ne ne] at nd
    exact h _ dx (xd_same na nd) nd upd_same
end
/-- a tuple of ints -/
def IntsAt (H : Hp) (p : Addr) (ns : List Int) : Prop := H p = some (.tup (ns.map V.int))
theorem IntsAt.same {H H' : Hp} {p : Addr} {ns : List Int} (h : IntsAt H p ns) (s : Same H H') : IntsAt H' p ns := s _ _ h
theorem IntsAt.kp {H H' : Hp} {f c p : Addr} {ns : List Int} (h : IntsAt H p ns) (F : FeedAt c H f) (k : Kp f H H') : IntsAt H' p ns := k _ _ (F.tup h) h
theorem sz1000 {n : Nat} (h : n ≤ 1000) : n ≤ sizeLine := Nat.le_of_lt (small1000 h)
theorem chainI {i j L : Int} {H : Hp} {Q : Bool → Hp → Prop} (h : Q (decide (i ≤ L ∧ L ≤ j)) H) :
    if decide (i ≤ L) = true then (∃ a b : Int, V.int L = V.int a ∧ V.int j = V.int b ∧ ∃ k, V.bl (decide (a ≤ b)) = V.bl k ∧ Q k H) else ∃ k, V.bl false = V.bl k ∧ Q k H := by
  by_cases c : i ≤ L
  · rw [if_pos (decide_eq_true c)]
    refine ⟨L, j, rfl, rfl, _, rfl, ?_⟩
    rw [show decide (L ≤ j) = decide (i ≤ L ∧ L ≤ j) by simp [c]]
    exact h
  · rw [if_neg (fun z => c (of_decide_eq_true z))]
    refine ⟨false, rfl, ?_⟩
    rw [show false = decide (i ≤ L ∧ L ≤ j) by simp [c]]
    exact h
theorem nilA {σ : L2.St} {H : Hp} {Q : List V → Hp → Prop} (h : Q [] H) : tNil σ H Q := h
theorem scGreat : FnScope ["_law_feed_here", "_law_size"] ["_law_feed_here"] (defScope sGreat) := ⟨rfl, rfl, rfl, by decide +kernel, rfl, by decide +kernel, by decide +kernel⟩
theorem scIN : FnScope ["word", "figures", "figure"] ["word"] (defScope sIsNum) := ⟨rfl, rfl, rfl, by decide +kernel, rfl, by decide +kernel, by decide +kernel⟩
theorem scRT : FnScope ["row", "number"] ["row"] (defScope sRowText) := ⟨rfl, rfl, rfl, by decide +kernel, rfl, by decide +kernel, by decide +kernel⟩
theorem scRR : FnScope ["text", "words", "word"] ["text"] (defScope sReadRow) := ⟨rfl, rfl, rfl, by decide +kernel, rfl, by decide +kernel, by decide +kernel⟩
theorem st_dash : (Str.ofString "-" : Str) = S [45] := TL.ext_tl (by rw [TL.tl_ofString]; rfl)
theorem st_comma : (Str.ofString "," : Str) = S [44] := TL.ext_tl (by rw [TL.tl_ofString]; rfl)
theorem st_zero : (Str.ofString "0" : Str) = S [48] := TL.ext_tl (by rw [TL.tl_ofString]; rfl)
theorem st_ten : (Str.ofString "0123456789" : Str) = S ten := TL.ext_tl (by rw [TL.tl_ofString]; rfl)
theorem rp_dash (z : List Nat) : Txt.removeprefix (S z) (Str.ofString "-") = S (figs z) := by rw [st_dash]; exact rp_eq z
section
variable {P : Program} {w : World} {K : PySem.W.Frag} {mg : Str → Option Value} {base : Heap}
structure BadTxt (P : Program) (w : World) (K : PySem.W.Frag) (mg : Str → Option Value) (base : Heap) (x : Str) (C : Addr) (f wd : Str) : Prop where
  c2 : Cls2 K C f
  gC : mg x = some (.ref C)
  ini : ∃ (fI : Addr) (fd : FuncData), PySem.W.findIn K (.ref C) "__init__" = some (some (.ref fI)) ∧ PySem.W.typeIn K (.ref fI) = some (.type "function") ∧
    FnOk P w K mg base CX0 1 fI fd ["self", f] (spInit2 C f wd) ∧ Binds K fd ["self", f] []
def spGreat : Sp := fun vs H Q _ => ∃ (f c : Addr), vs = [.ref f] ∧ FeedAt c H f ∧ ∀ d H', 0 ≤ d → d < 100000000000000000000000000000 → Kp f H H' → FeedAt c H' f → Q (.int d) H'
theorem ok_great {f : Addr} {fd : FuncData} (F : Fun K "_law_great" "_law_great" sGreat f fd) (CD : Cal P w K mg base CX0 1 "_law_draw" ["_law_feed_here", "_law_many"] spDraw) (CP : Cal P w K mg base CX0 2 "_law_pick" ["_law_feed_here", "_law_row"] spPick) :
    FnOk P w K mg base CX0 3 f fd ["_law_feed_here"] spGreat := by
  obtain ⟨fD, fdD, GD, gD, kD, bD⟩ := CD.ex
  obtain ⟨fP, fdP, GP, gP, kP, bP⟩ := CP.ex
  refine F.ok scGreat (fun vs H Q E h => ?_) (fun cdv A outer s H vs Q E hr h => ?_)
  · obtain ⟨a, c, rfl, _⟩ := h
    rfl
  · obtain ⟨a, c, rfl, Fd, q⟩ := h
    refine ⟨_, pss_cons (ps_set (i := 1) scGreat.nd rfl (.inl rfl) (pe_call GP hr (by rfl) gP kP bP .nil pass0 (pa_cons (pv 0) (pa_cons (pe_lst (pa_cons pe_int (pa_cons pe_int (pa_cons (pe_op op_pow pe_int pe_int) (pa_cons (pe_op op_pow pe_int pe_int) (pa_cons (pe_op op_pow pe_int pe_int) pa_nil)))))) pa_nil))))
      (pss_one (ps_ret (pe_call GD (hr.mono (by decide)) (by rfl) gD kD bD .nil pass0 (pa_cons (pv 0) (pa_cons (pv 1) pa_nil))))), ?_⟩
    refine ⟨.ref a, rfl, 10, 6, rfl, rfl, ⟨by decide, by decide, by decide⟩, 10, 15, rfl, rfl, ⟨by decide, by decide, by decide⟩, 10, 29, rfl, rfl, ⟨by decide, by decide, by decide⟩, (by show 5 ≤ sizeLine; decide), fun l nl => ?_⟩
    refine ⟨a, c, l, _, rfl, upd_same, Fd.ne nl, by decide, by decide, Fd.new nl, fun v H2 hv k2 F2 => ?_⟩
    obtain ⟨z, rfl, z1, z2⟩ : ∃ z : Int, v = .int z ∧ 1 ≤ z ∧ z ≤ 100000000000000000000000000000 := by
      simp only [List.mem_cons, List.mem_nil_iff, or_false] at hv
      rcases hv with h | h | h | h | h <;> exact ⟨_, h, by decide, by decide⟩
    refine ⟨.ref a, rfl, .int z, rfl, a, c, z, rfl, z1, by omega, F2, fun d H3 d0 d1 k3 F3 => q d H3 d0 (by omega) ((Kp.new nl).trans (k2.trans k3)) F3⟩

structure Consts (mg : Str → Option Value) : Prop where
  figures : ∃ t, mg "FIGURES" = some (.str "0123456789" t)
  most : ∃ t, mg "MOST_FIGURES" = some (.int 30 t)
/-! ### is_number -/
def spIsNum : Sp := fun vs H Q _ => ∃ z : List Nat, vs = [.str (S z)] ∧ z.length ≤ 1000 ∧ ∀ H', Same H H' → Q (.bl (isNum z)) H'
theorem ok_isNum {f : Addr} {fd : FuncData} {k : Nat} (F : Fun K "is_number" "is_number" sIsNum f fd) (B : Bl mg) (M : Consts mg) : FnOk P w K mg base CX0 (k + 1) f fd ["word"] spIsNum := by
  obtain ⟨tF, mF⟩ := M.figures
  obtain ⟨t3, m3⟩ := M.most
  refine F.ok scIN (fun vs H Q E h => ?_) (fun cdv A outer s H vs Q E hr h => ?_)
  · obtain ⟨z, rfl, _⟩ := h
    rfl
  · obtain ⟨z, rfl, hz, q⟩ := h
    refine ⟨_, pss_cons (ps_set (i := 1) scIN.nd rfl (.inl rfl) (pe_m1 PySem.F.slot_str_removeprefix PySem.F.type_str_removeprefix mt_removeprefix (pv 0) pe_str))
      (pss_cons (ps_if (pt_not (pt_chain op_le op_le pe_int (pe_callB call_len_str (by rfl) B.len PySem.boot_len (pa_cons (pv 1) pa_nil)) (pe_glob (v := .int 30) rfl m3 ⟨_, rfl⟩))) (pss_one (ps_ret pe_bl)) pss_nil)
      (pss_cons (ps_if (pt_not (pt_val (pe_callB (cr_all rfl) (by rfl) B.all (by decide +kernel) (pa_cons (pe_lc (own := [("figure", 2)]) (g := gName 2) (tt := tYes) rfl scIN.nd (pi_str (pv 1))
          (blkOk_by (own := [("figure", 2)]) (N := ["word", "figures", "figure"]) (sc := defScope sIsNum) (by decide +kernel)) (fun _ _ _ _ _ => pg_name (i := 2) scIN.nd rfl (Or.inl rfl)) (fun _ _ _ _ _ => pts_nil)
          (fun _ _ _ _ _ => pe_cmpR op_in_sign (pv 2) (pe_glob (v := .str "0123456789") rfl mF ⟨_, rfl⟩) (by rfl))) pa_nil)))) (pss_one (ps_ret pe_bl)) pss_nil)
      (pss_one (ps_ret (pe_or (pe_cmpR op_ne (pe_ix ix_str (pv 1) pe_int (fun _ _ => rfl)) pe_str (nomark _)) (pe_one (pe_cmpR op_eq (pv 0) pe_str (nomark _)))))))), ?_⟩
    have lf : (S (figs z)).length ≤ sizeLine := by
      rw [S_len]
      exact sz1000 (Nat.le_trans (figs_le z) hz)
    refine ⟨.str (S z), rfl, ⟨_, rfl⟩, S z, _, rfl, rfl, by rw [S_len]; exact sz1000 hz, ?_⟩
    rw [rp_dash]
    refine ⟨.str (S (figs z)), rfl, S (figs z), rfl, lf, 1, _, rfl, rfl, _, rfl, chainI ?_⟩
    rw [S_len]
    refine ite2 (fun c1 => ?_) (fun c1 => ?_)
    · have e : isNum z = false := by
        unfold isNum
        have : decide (1 ≤ (figs z).length ∧ (figs z).length ≤ 30) = false := decide_eq_false (fun y => by simp at c1; omega)
        rw [this]
        rfl
      have q1 := q H (Same.refl _)
      rw [e] at q1
      exact q1
    · have c1' : 1 ≤ (figs z).length ∧ (figs z).length ≤ 30 := by
        simp at c1
        omega
      have ed : decide (1 ≤ (figs z).length ∧ (figs z).length ≤ 30) = true := decide_eq_true c1'
      refine ⟨.str (S (figs z)), rfl, S (figs z), rfl, fun D nD => ?_⟩
      refine lc_it walk_str (fun i H' => Same H H' ∧ H' D = some (.lst ((((figs z).take i).map dig).map V.bl))) ⟨same_new nD, upd_same⟩ (fun _ _ _ _ => True.intro) (fun i x H' H2 hi ⟨sm, hD⟩ ⟨eH, c, hc, ex⟩ => ?_) (fun H' ⟨sm, hD⟩ => ?_)
      · subst eH ex
        have hc' : (figs z)[i]? = some c := by simpa using hc
        refine ⟨rfl, yes (iteT ?_)⟩
        refine ⟨_, rfl, c, _, rfl, rfl, _, hD, ?_, same_late sm nD, ?_⟩
        · rw [List.length_map, List.length_map]
          exact small1000 (Nat.le_trans (List.length_take_le' _ _) (Nat.le_trans (figs_le z) hz))
        · rw [upd_same, List.take_add_one, hc', List.map_append, List.map_append]
          rfl
      · have e0 : (S (figs z)).cps.size = (figs z).length := S_len (figs z)
        rw [e0, List.take_length] at hD
        refine ⟨D, _, rfl, SqL.of hD, _, rfl, ?_⟩
        have eall : (((figs z).map dig).all id) = (figs z).all dig := by
          rw [List.all_map]
          rfl
        rw [eall]
        refine ite2 (fun c2 => ?_) (fun c2 => ?_)
        · have e : isNum z = false := by
            unfold isNum
            cases y : (figs z).all dig with
            | false => rw [Bool.false_and, Bool.and_false]
            | true => rw [y] at c2; cases c2
          have q1 := q H' sm
          rw [e] at q1
          exact q1
        · have y : (figs z).all dig = true := by
            cases y : (figs z).all dig with
            | true => rfl
            | false => rw [y] at c2; exact absurd rfl c2
          obtain ⟨c, r, ef⟩ : ∃ c r, figs z = c :: r := by
            cases e : figs z with
            | nil => rw [e] at c1'; exact absurd c1'.1 (by decide)
            | cons c r => exact ⟨c, r, rfl⟩
          refine ⟨.str (S (figs z)), rfl, S (figs z), 0, c, rfl, rfl, lf, atI_nat (j := 0) (by show (figs z)[0]? = some c; rw [ef]; rfl), rfl, _, rfl, ?_⟩
          have e1 : decide (V.str (⟨#[c]⟩ : Str) = V.str (Str.ofString "0")) = hd0 (figs z) := by
            unfold hd0
            rw [ef, st_zero]
            by_cases h : c = 48
            · rw [h, decide_eq_true rfl]
              rfl
            · show _ = decide (some c = some 48)
              rw [decide_eq_false (fun e => h ?_), decide_eq_false (fun e => h (Option.some.inj e))]
              have e2 := SX.S_inj (a := [c]) (b := [48]) (V.str.inj e)
              exact (List.cons.inj e2).1
          have e3 : decide (V.str (S z) = V.str (Str.ofString "0")) = decide (z = [48]) := by
            rw [st_zero]
            by_cases h : z = [48]
            · rw [h, decide_eq_true rfl, decide_eq_true rfl]
            · rw [decide_eq_false h, decide_eq_false (fun e => h (SX.S_inj (V.str.inj e)))]
          have ei : isNum z = (!hd0 (figs z) || decide (z = [48])) := by
            unfold isNum
            rw [ed, y, Bool.true_and, Bool.true_and]
          have q1 := q H' sm
          rw [ei] at q1
          rw [e1]
          refine ite2 (fun c3 => ?_) (fun c3 => ?_)
          · rw [show (!hd0 (figs z)) = true from c3] at q1
            exact q1
          · rw [Bool.eq_false_iff.mpr c3] at q1
            refine ⟨.str (S z), rfl, rfl, ?_⟩
            rw [e3]
            exact q1
end
end HL

namespace HL
open PySem PySem.Spec PyProof.Rows L2
open C8 (pss_cut)
open SX (S S_len)
theorem scRTL : FnScope ["_law_row", "_law_number"] ["_law_row"] (defScope sRowTextL) := ⟨rfl, rfl, rfl, by decide +kernel, rfl, by decide +kernel, by decide +kernel⟩
theorem scNI : FnScope ["_law_word_here", "_law_figures", "_law_sign"] ["_law_word_here"] (defScope sNumIn) := ⟨rfl, rfl, rfl, by decide +kernel, rfl, by decide +kernel, by decide +kernel⟩
/-- numbers of at most thirty figures -/
def Small (ns : List Int) : Prop := ∀ n ∈ ns, n.natAbs < 10 ^ 30
theorem log_small {n : Int} (h : n.natAbs < 10 ^ 30) : n.natAbs.log2 < 1920 := by
  by_cases z : n.natAbs = 0
  · rw [z]
    decide
  · refine (Nat.log2_lt z).mpr (Nat.lt_of_lt_of_le h ?_)
    exact Nat.le_trans (show 10 ^ 30 ≤ 2 ^ 100 by decide) (Nat.pow_le_pow_right (by decide) (by decide))
theorem sum_lens {ns : List Int} (h : Small ns) (hz : ns.length ≤ 100) : (((ns.map wr).map S).map (·.length)).sum + ((ns.map wr).map S).length * (Str.ofString ",").length ≤ 16777216 := by
  have e1 : (Str.ofString ",").length = 1 := by rw [st_comma, S_len]; rfl
  rw [e1, List.length_map, List.length_map]
  have key : ∀ ms : List Int, Small ms → (((ms.map wr).map S).map (·.length)).sum ≤ ms.length * 31 := by
    intro ms
    induction ms with
    | nil => intro _; exact Nat.le_refl _
    | cons m ms ih =>
      intro hm
      have h1 := wr_len (hm m List.mem_cons_self)
      have h2 := ih fun n hn => hm n (List.mem_cons_of_mem _ hn)
      rw [List.map_cons, List.map_cons, List.map_cons, List.sum_cons, List.length_cons, S_len, Nat.succ_mul]
      omega
  have := key ns h
  omega
section
variable {P : Program} {w : World} {K : PySem.W.Frag} {mg : Str → Option Value} {base : Heap}
/-! ### row_text -/
def spRowText (K : PySem.W.Frag) : Sp := fun vs H Q _ => ∃ (p : Addr) (ns : List Int), vs = [.ref p] ∧ SqT K H p (ns.map V.int) ∧ ns.length ≤ 100 ∧ Small ns ∧ ∀ H', Same H H' → Q (.str (S (rowL ns))) H'
theorem sqT_same {K : PySem.W.Frag} {H H' : Hp} {a : Addr} {xs : List V} (h : SqT K H a xs) (s : Same H H') : SqT K H' a xs := by
  rcases h with (h | ⟨o, h⟩) | h
  · exact .inl (.inl (s _ _ h))
  · exact .inl (.inr ⟨o, s _ _ h⟩)
  · exact .inr h
theorem ok_rowText {f : Addr} {fd : FuncData} {k : Nat} (F : Fun K "row_text" "row_text" sRowText f fd) (B : Bl mg) : FnOk P w K mg base CX0 (k + 1) f fd ["row"] (spRowText K) := by
  refine F.ok scRT (fun vs H Q E h => ?_) (fun cdv A outer s H vs Q E hr h => ?_)
  · obtain ⟨p, ns, rfl, _⟩ := h
    rfl
  · obtain ⟨p, ns, rfl, hp, hz, hs, q⟩ := h
    refine ⟨_, pss_one (ps_ret (pe_join pe_str (pe_lc (own := [("number", 1)]) (g := gName 1) (tt := tYes) rfl scRT.nd (pi_tup (pv 0))
          (blkOk_by (own := [("number", 1)]) (N := ["row", "number"]) (sc := defScope sRowText) (by decide +kernel)) (fun _ _ _ _ _ => pg_name (i := 1) scRT.nd rfl (Or.inl rfl)) (fun _ _ _ _ _ => pts_nil)
          (fun _ _ _ _ _ => pe_callTy call_str_int (by rfl) B.str (by decide +kernel) (pa_cons (pv 1) pa_nil))))), ?_⟩
    refine ⟨⟨_, rfl⟩, .ref p, rfl, p, rfl, ⟨_, hp⟩, fun D nD => ?_⟩
    refine lc_tup (K := K) (a := p) (xs := ns.map V.int) (fun i H' => Same H H' ∧ H' D = some (.lst ((((ns.map wr).map S).take i).map V.str))) ⟨same_new nD, upd_same⟩ (fun i H' _ ⟨sm, _⟩ => sqT_same hp sm) (fun i x H' hx ⟨sm, hD⟩ => ?_) (fun H' ⟨sm, hD⟩ => ?_)
    · obtain ⟨n, hn, rfl⟩ : ∃ n, ns[i]? = some n ∧ x = V.int n := by
        rw [List.getElem?_map] at hx
        cases e : ns[i]? with
        | none => rw [e] at hx; cases hx
        | some n => rw [e] at hx; exact ⟨n, rfl, (Option.some.inj hx).symm⟩
      refine ⟨rfl, yes (iteT ?_)⟩
      refine ⟨_, rfl, n, rfl, log_small (hs n (List.mem_of_getElem? hn)), _, hD, ?_, same_late sm nD, ?_⟩
      · rw [List.length_map]
        exact small1000 (Nat.le_trans (List.length_take_le' _ _) (by rw [List.length_map, List.length_map]; omega))
      · have e : ((ns.map wr).map S)[i]? = some (S (wr n)) := by rw [List.getElem?_map, List.getElem?_map, hn]; rfl
        rw [upd_same, List.take_add_one, e, List.map_append, ← tl_wr]
        rfl
    · have e : ((ns.map wr).map S).take (ns.map V.int).length = (ns.map wr).map S := List.take_of_length_le (by rw [List.length_map, List.length_map, List.length_map]; omega)
      rw [e] at hD
      refine ⟨_, D, _, rfl, rfl, .inl (SqL.of hD), sum_lens hs hz, ?_⟩
      rw [show Txt.join (Str.ofString ",") ((ns.map wr).map S) = S (rowL ns) by rw [st_comma]; exact join_row ns]
      exact q H' sm
/-! ### read_row -/
def spReadRow (C : Addr) : Sp := fun vs H Q E => ∃ z : List Nat, vs = [.str (S z)] ∧ z.length ≤ 900 ∧ ((wordsOf z).all isNum = true → ∀ H' p, Same H H' → IntsAt H' p ((wordsOf z).map valW) → Q (.ref p) H') ∧
  ((wordsOf z).all isNum = false → Refd C "at" "bad text" (.int 0) H E)
theorem str_at {ws : List (List Nat)} {i : Nat} {x : V} (h : ((ws.map S).map V.str)[i]? = some x) : ∃ z, ws[i]? = some z ∧ x = .str (S z) := by
  rw [List.getElem?_map, List.getElem?_map] at h
  cases e : ws[i]? with
  | none => rw [e] at h; cases h
  | some z => rw [e] at h; exact ⟨z, rfl, (Option.some.inj h).symm⟩
theorem sp_comma (z : List Nat) : Txt.split (S z) (Str.ofString ",") = (wordsOf z).map S := by rw [st_comma]; exact split_words z
theorem ok_readRow {f : Addr} {fd : FuncData} {C : Addr} (F : Fun K "read_row" "read_row" sReadRow f fd) (B : Bl mg) (T : BadTxt P w K mg base "BadText" C "at" "bad text") (CN : Cal P w K mg base CX0 1 "is_number" ["word"] spIsNum) :
    FnOk P w K mg base (L2.CX P w) 3 f fd ["text"] (spReadRow C) := by
  obtain ⟨fN, fdN, GN, gN, kN, bN⟩ := CN.ex
  obtain ⟨fI, fdI, iC, tI, GI, bI⟩ := T.ini
  refine F.okX scRR (fun vs H Q E h => ?_) (fun cdv A outer s H vs Q E hr h => ?_)
  · obtain ⟨z, rfl, _⟩ := h
    rfl
  · obtain ⟨z, rfl, hz, q1, q2⟩ := h
    refine ⟨_, pss_cons (ps_set (i := 1) scRR.nd rfl (.inl rfl) (pe_split (pv 0) pe_str))
      (pss_cons (ps_if (pt_not (pt_val (pe_callB (cr_all rfl) (by rfl) B.all (by decide +kernel) (pa_cons (pe_lc (own := [("word", 2)]) (g := gName 2) (tt := tYes) rfl scRR.nd (pi_list (pv 1))
          (blkOk_by (own := [("word", 2)]) (N := ["text", "words", "word"]) (sc := defScope sReadRow) (by decide +kernel)) (fun _ _ _ _ _ => pg_name (i := 2) scRR.nd rfl (Or.inl rfl)) (fun _ _ _ _ _ => pts_nil)
          (fun _ _ _ _ _ => pe_call GN (hr.mono (by decide)) (by rfl) gN kN bN .nil pass0 (pa_cons (pv 2) pa_nil))) pa_nil))))
        (pss_one (ps_raise rfl (takes_of rfl rfl rfl rfl) (pmk_oex T.c2.ox iC tI GI hr bI .nil pass0 (by rfl) T.gC (pa_cons pe_int pa_nil)))) pss_nil)
      (pss_one (ps_ret (pe_callTy call_tuple_of (by rfl) B.tuple (by decide +kernel) (pa_cons (pe_lc (own := [("word", 2)]) (g := gName 2) (tt := tYes) rfl scRR.nd (pi_list (pv 1))
          (blkOk_by (own := [("word", 2)]) (N := ["text", "words", "word"]) (sc := defScope sReadRow) (by decide +kernel)) (fun _ _ _ _ _ => pg_name (i := 2) scRR.nd rfl (Or.inl rfl)) (fun _ _ _ _ _ => pts_nil)
          (fun _ _ _ _ _ => pe_callTy call_int_str (by rfl) B.int (by decide +kernel) (pa_cons (pv 2) pa_nil))) pa_nil))))), ?_⟩
    obtain ⟨w1, w2⟩ := words_len z
    refine ⟨.str (S z), rfl, ⟨_, rfl⟩, S z, _, rfl, rfl, by decide +kernel, by rw [S_len]; exact sz1000 (by omega), fun p np => ?_⟩
    rw [sp_comma]
    have sp := same_new (o := .lst (((wordsOf z).map S).map V.str)) np
    refine ⟨.ref p, rfl, p, rfl, ⟨_, SqL.of upd_same⟩, fun D nD => ?_⟩
    have nD0 : H D = none := sp.free nD
    refine lc_list (K := K) (a := p) (xs := ((wordsOf z).map S).map V.str) (fun i H' => Same (upd H p (.lst (((wordsOf z).map S).map V.str))) H' ∧ H' D = some (.lst ((((wordsOf z).take i).map isNum).map V.bl))) ⟨same_new nD, upd_same⟩ (fun i H' _ ⟨sm, _⟩ => SqL.of (sm _ _ upd_same)) (fun i x H' hx ⟨sm, hD⟩ => ?_) (fun H' ⟨sm, hD⟩ => ?_)
    · obtain ⟨u, hu, rfl⟩ := str_at hx
      have hul := w2 u (List.mem_of_getElem? hu)
      refine ⟨rfl, yes (iteT ?_)⟩
      refine ⟨_, rfl, u, rfl, by omega, fun H2 s2 => ⟨_, s2 _ _ hD, ?_, same_late (sm.trans s2) nD, ?_⟩⟩
      · rw [List.length_map, List.length_map]
        exact small1000 (Nat.le_trans (List.length_take_le' _ _) (by omega))
      · rw [upd_same, List.take_add_one, hu, List.map_append, List.map_append]
        rfl
    · rw [List.length_map, List.length_map, List.take_length] at hD
      refine ⟨D, _, rfl, SqL.of hD, _, rfl, ?_⟩
      have eall : (((wordsOf z).map isNum).all id) = (wordsOf z).all isNum := by
        rw [List.all_map]
        rfl
      rw [eall]
      refine ite2 (fun c => ?_) (fun c => ?_)
      · have e : (wordsOf z).all isNum = false := by
          cases y : (wordsOf z).all isNum with
          | false => rfl
          | true => rw [y] at c; cases c
        exact mk_refd ((q2 e).same (sp.trans sm))
      · have e : (wordsOf z).all isNum = true := by
          cases y : (wordsOf z).all isNum with
          | true => rfl
          | false => rw [y] at c; exact absurd rfl c
        refine ⟨.ref p, rfl, p, rfl, ⟨_, SqL.of (sm _ _ upd_same)⟩, fun D2 nD2 => ?_⟩
        have s0 : Same H H' := sp.trans sm
        refine lc_list (K := K) (a := p) (xs := ((wordsOf z).map S).map V.str) (fun i H2 => Same H' H2 ∧ H2 D2 = some (.lst ((((wordsOf z).map valW).take i).map V.int))) ⟨same_new nD2, upd_same⟩ (fun i H2 _ ⟨s2, _⟩ => SqL.of (s2 _ _ (sm _ _ upd_same))) (fun i x H2 hx ⟨s2, hD2⟩ => ?_) (fun H2 ⟨s2, hD2⟩ => ?_)
        · obtain ⟨u, hu, rfl⟩ := str_at hx
          have hn := (List.all_eq_true.mp e) u (List.mem_of_getElem? hu)
          obtain ⟨i1, i2⟩ := int_word hn
          refine ⟨rfl, yes (iteT ?_)⟩
          refine ⟨_, rfl, _, _, rfl, i1, i2, _, hD2, ?_, same_late s2 nD2, ?_⟩
          · rw [List.length_map]
            exact small1000 (Nat.le_trans (List.length_take_le' _ _) (by rw [List.length_map]; omega))
          · have e : ((wordsOf z).map valW)[i]? = some (valW u) := by rw [List.getElem?_map, hu]; rfl
            rw [upd_same, List.take_add_one, e, List.map_append]
            rfl
        · rw [List.length_map, List.length_map] at hD2
          rw [List.take_of_length_le (by rw [List.length_map]; exact Nat.le_refl _)] at hD2
          exact ⟨D2, _, rfl, .inl ⟨SqL.of hD2, fun t nt => q1 e _ t (s0.trans (s2.trans (same_new nt))) upd_same⟩⟩
end
end HL

namespace HL
open PySem PySem.Spec PyProof.Rows L2
open C8 (pss_cut)
open SX (S S_len S_tl S_cat)
open LamX (CodeO Tabs TabS TabB ExtN tLam LamS lamS_by lamCx lamEnv codeO_ne)
theorem st_nine : (Str.ofString "9" : Str) = S [57] := TL.ext_tl (by rw [TL.tl_ofString]; rfl)
theorem st_d0 : (Str.ofString "-0" : Str) = S [45, 48] := TL.ext_tl (by rw [TL.tl_ofString]; rfl)
/-- '9' * 31 -/
theorem op_nines {X : Cx} : OpR X (binaryOp .Mult) (fun x y H Q => x = .str (S [57]) ∧ y = .int 31 ∧ Q (.str (S (List.replicate 31 57))) H) := by
  intro pins s σ H x y v u Q I rx ry h
  obtain ⟨rfl, rfl, q⟩ := h
  obtain ⟨t, rfl⟩ := rx
  obtain ⟨t', rfl⟩ := ry
  refine PySem.P.mul_str (by decide) (fun _ _ => by decide) (fun _ _ => by decide) ?_
  have e : (⟨(List.replicate (31 : Int).toNat (S [57]).cps).foldl (· ++ ·) #[]⟩ : Str) = S (List.replicate 31 57) := by decide +kernel
  have c1 : ¬ ((31 : Int) < 1) := by decide
  have c2 : ¬ ((((31 : Int) == 1) || (S [57]).length == 0) = true) := by decide
  rw [if_neg c1, if_neg c2, e]
  exact ⟨by rw [S_len]; decide, .str _, H, I.tok _, ⟨_, rfl⟩, q⟩
theorem noPart {σ : L2.St} {H : Hp} {Q : Option Int → Hp → Prop} (h : Q none H) : tNoPart σ H Q := h
/-! ### slices of a text -/
theorem cut_head (z : List Nat) : cutS (S z) none (some 1) = S (z.take 1) := by
  refine TL.ext_tl ?_
  show (z.drop (HT.sIx (S z).length 0 none)).take (HT.sIx (S z).length (S z).length (some 1) - HT.sIx (S z).length 0 none) = z.take 1
  rw [HT.sIx_none, show (some (1 : Int)) = some ((1 : Nat) : Int) from rfl, HT.sIx_nat, List.drop_zero, Nat.sub_zero, S_len]
  cases z with
  | nil => rfl
  | cons x r =>
    rw [List.length_cons, Nat.min_eq_left (by omega)]
theorem cut_tail (z : List Nat) : cutS (S z) (some 1) none = S (z.drop 1) := by
  refine TL.ext_tl ?_
  show (z.drop (HT.sIx (S z).length 0 (some 1))).take (HT.sIx (S z).length (S z).length none - HT.sIx (S z).length 0 (some 1)) = z.drop 1
  rw [HT.sIx_none, show (some (1 : Int)) = some ((1 : Nat) : Int) from rfl, HT.sIx_nat, S_len]
  cases z with
  | nil => rfl
  | cons x r =>
    rw [List.length_cons, Nat.min_eq_left (by omega)]
    refine List.take_of_length_le ?_
    rw [List.length_drop, List.length_cons]
    omega
theorem figs_law (z : List Nat) : figs z = if z.take 1 = [45] then z.drop 1 else z := by
  cases z with
  | nil => rfl
  | cons x r =>
    by_cases h : x = 45
    · subst h
      rw [if_pos (show List.take 1 (45 :: r) = [45] from rfl)]
      rfl
    · rw [if_neg (show ¬ List.take 1 (x :: r) = [45] from fun e => h (List.cons.inj e).1), figs_ne (z := x :: r) (fun e => h (Option.some.inj e))]
theorem num_law {z : List Nat} (h1 : 1 ≤ (figs z).length ∧ (figs z).length ≤ 30) (h2 : (figs z).all dig = true) : isNum z = !((decide (1 < (figs z).length) && hd0 (figs z)) || decide (z = [45, 48])) := by
  have e : isNum z = (!hd0 (figs z) || decide (z = [48])) := by
    unfold isNum
    rw [decide_eq_true h1, h2, Bool.true_and, Bool.true_and]
  rw [e]
  cases z with
  | nil => exact absurd h1.1 (by decide)
  | cons x r =>
    by_cases hx : x = 45
    · subst hx
      show (!hd0 r || decide (45 :: r = [48])) = !((decide (1 < r.length) && hd0 r) || decide (45 :: r = [45, 48]))
      have e1 : decide (45 :: r = [48]) = false := decide_eq_false (fun q => by cases q)
      rw [e1, Bool.or_false]
      cases r with
      | nil => rfl
      | cons y t =>
        by_cases hy : y = 48
        · subst hy
          cases t with
          | nil => rfl
          | cons u t' =>
            have : decide (1 < (48 :: u :: t').length) = true := decide_eq_true (by rw [List.length_cons, List.length_cons]; omega)
            rw [this]
            rfl
        · have e2 : hd0 (y :: t) = false := decide_eq_false (fun q => hy (Option.some.inj q))
          have e3 : decide (45 :: y :: t = [45, 48]) = false := decide_eq_false (fun q => hy (List.cons.inj (List.cons.inj q).2).1)
          rw [e2, e3, Bool.and_false]
          rfl
    · have ef : figs (x :: r) = x :: r := figs_ne (fun q => hx (Option.some.inj q))
      have e3 : decide (x :: r = [45, 48]) = false := decide_eq_false (fun q => hx (List.cons.inj q).1)
      rw [ef, e3, Bool.or_false]
      by_cases hy : x = 48
      · subst hy
        cases r with
        | nil => rfl
        | cons u t' =>
          have : decide (1 < (48 :: u :: t').length) = true := decide_eq_true (by rw [List.length_cons, List.length_cons]; omega)
          have e4 : decide (48 :: u :: t' = [48]) = false := decide_eq_false (fun q => by cases (List.cons.inj q).2)
          rw [this, e4]
          rfl
      · have e2 : hd0 (x :: r) = false := decide_eq_false (fun q => hy (Option.some.inj q))
        rw [e2, Bool.and_false]
        rfl
section
variable {P : Program} {w : World} {K : PySem.W.Frag} {mg : Str → Option Value} {base : Heap}
/-! ### the law's own row_text -/
def spRowTextL : Sp := fun vs H Q _ => ∃ (p : Addr) (ns : List Int), vs = [.ref p] ∧ H p = some (.lst (ns.map V.int)) ∧ ns.length ≤ 100 ∧ Small ns ∧ ∀ H', Same H H' → Q (.str (S (rowL ns))) H'
theorem ok_rowTextL {f : Addr} {fd : FuncData} {k : Nat} (F : Fun K "_law_row_text" "_law_row_text" sRowTextL f fd) (B : Bl mg) : FnOk P w K mg base CX0 (k + 1) f fd ["_law_row"] spRowTextL := by
  refine F.ok scRTL (fun vs H Q E h => ?_) (fun cdv A outer s H vs Q E hr h => ?_)
  · obtain ⟨p, ns, rfl, _⟩ := h
    rfl
  · obtain ⟨p, ns, rfl, hp, hz, hs, q⟩ := h
    refine ⟨_, pss_one (ps_ret (pe_join pe_str (pe_lc (own := [("_law_number", 1)]) (g := gName 1) (tt := tYes) rfl scRTL.nd (pi_list (pv 0))
          (blkOk_by (own := [("_law_number", 1)]) (N := ["_law_row", "_law_number"]) (sc := defScope sRowTextL) (by decide +kernel)) (fun _ _ _ _ _ => pg_name (i := 1) scRTL.nd rfl (Or.inl rfl)) (fun _ _ _ _ _ => pts_nil)
          (fun _ _ _ _ _ => pe_callTy call_str_int (by rfl) B.str (by decide +kernel) (pa_cons (pv 1) pa_nil))))), ?_⟩
    refine ⟨⟨_, rfl⟩, .ref p, rfl, p, rfl, ⟨_, SqL.of hp⟩, fun D nD => ?_⟩
    refine lc_list (K := K) (a := p) (xs := ns.map V.int) (fun i H' => Same H H' ∧ H' D = some (.lst ((((ns.map wr).map S).take i).map V.str))) ⟨same_new nD, upd_same⟩ (fun i H' _ ⟨sm, _⟩ => SqL.of (sm _ _ hp)) (fun i x H' hx ⟨sm, hD⟩ => ?_) (fun H' ⟨sm, hD⟩ => ?_)
    · obtain ⟨n, hn, rfl⟩ : ∃ n, ns[i]? = some n ∧ x = V.int n := by
        rw [List.getElem?_map] at hx
        cases e : ns[i]? with
        | none => rw [e] at hx; cases hx
        | some n => rw [e] at hx; exact ⟨n, rfl, (Option.some.inj hx).symm⟩
      refine ⟨rfl, yes (iteT ?_)⟩
      refine ⟨_, rfl, n, rfl, log_small (hs n (List.mem_of_getElem? hn)), _, hD, ?_, same_late sm nD, ?_⟩
      · rw [List.length_map]
        exact small1000 (Nat.le_trans (List.length_take_le' _ _) (by rw [List.length_map, List.length_map]; omega))
      · have e : ((ns.map wr).map S)[i]? = some (S (wr n)) := by rw [List.getElem?_map, List.getElem?_map, hn]; rfl
        rw [upd_same, List.take_add_one, e, List.map_append, ← tl_wr]
        rfl
    · have e : ((ns.map wr).map S).take (ns.map V.int).length = (ns.map wr).map S := List.take_of_length_le (by rw [List.length_map, List.length_map, List.length_map]; omega)
      rw [e] at hD
      refine ⟨_, D, _, rfl, rfl, .inl (SqL.of hD), sum_lens hs hz, ?_⟩
      rw [show Txt.join (Str.ofString ",") ((ns.map wr).map S) = S (rowL ns) by rw [st_comma]; exact join_row ns]
      exact q H' sm
/-! ### a number in a word, by the law -/
def spNumIn : Sp := fun vs H Q _ => ∃ z : List Nat, vs = [.str (S z)] ∧ z.length ≤ 1000 ∧ ∀ H', Same H H' → Q (numV z) H'
theorem ok_numIn {f : Addr} {fd : FuncData} {k : Nat} (F : Fun K "_law_number_in" "_law_number_in" sNumIn f fd) (B : Bl mg) : FnOk P w K mg base CX0 (k + 1) f fd ["_law_word_here"] spNumIn := by
  refine F.ok scNI (fun vs H Q E h => ?_) (fun cdv A outer s H vs Q E hr h => ?_)
  · obtain ⟨z, rfl, _⟩ := h
    rfl
  · obtain ⟨z, rfl, hz, q⟩ := h
    refine ⟨_, pss_cons (ps_set (i := 1) scNI.nd rfl (.inl rfl) (pe_ifExp (pt_cmpR op_eq (pe_slice sl_str (pv 0) po_none (po_some pe_int)) pe_str (nomark _)) (pe_slice sl_str (pv 0) (po_some pe_int) po_none) (pv 0)))
      (pss_cons (ps_if (PW.pt (pw_or (pt_not (pt_chain op_le op_le pe_int (pe_callB call_len_str (by rfl) B.len PySem.boot_len (pa_cons (pv 1) pa_nil)) pe_int))
          (pw_or1 (pt_not (pt_val (pe_callB (cr_all rfl) (by rfl) B.all (by decide +kernel) (pa_cons (pe_lc (own := [("_law_sign", 2)]) (g := gName 2) (tt := tYes) rfl scNI.nd (pi_str (pv 1))
          (blkOk_by (own := [("_law_sign", 2)]) (N := ["_law_word_here", "_law_figures", "_law_sign"]) (sc := defScope sNumIn) (by decide +kernel)) (fun _ _ _ _ _ => pg_name (i := 2) scNI.nd rfl (Or.inl rfl)) (fun _ _ _ _ _ => pts_nil)
          (fun _ _ _ _ _ => pe_cmpR op_in_sign (pv 2) pe_str (by rfl))) pa_nil))))))) (pss_one (ps_ret pe_non)) pss_nil)
      (pss_cons (ps_if (PW.pt (pw_or (PW.pt (pw_and (pt_cmpR op_gt (pe_callB call_len_str (by rfl) B.len PySem.boot_len (pa_cons (pv 1) pa_nil)) pe_int (nomark _)) (pw_and1 (pt_cmpR op_eq (pe_ix ix_str (pv 1) pe_int (fun _ _ => rfl)) pe_str (nomark _)))))
          (pw_or1 (pt_cmpR op_eq (pv 0) pe_str (nomark _))))) (pss_one (ps_ret pe_non)) pss_nil)
      (pss_one (ps_ret (pe_callTy call_int_str (by rfl) B.int (by decide +kernel) (pa_cons (pv 0) pa_nil)))))), ?_⟩
    have hs : (S z).length ≤ sizeLine := by rw [S_len]; exact sz1000 hz
    have hf := figs_le z
    have lf : (S (figs z)).length ≤ sizeLine := by rw [S_len]; exact sz1000 (by omega)
    have hno : isNum z = false → Q .non H := fun e => by
      have q1 := q H (Same.refl _)
      unfold numV at q1
      rw [e] at q1
      exact q1
    refine ⟨.str (S z), rfl, 1, rfl, S z, rfl, hs, ?_⟩
    rw [cut_head]
    refine ⟨rfl, _, rfl, ?_⟩
    have e1 : decide (V.str (S (z.take 1)) = V.str (Str.ofString "-")) = decide (z.take 1 = [45]) := by
      rw [st_dash]
      by_cases h : z.take 1 = [45]
      · rw [h, decide_eq_true rfl, decide_eq_true rfl]
      · rw [decide_eq_false h, decide_eq_false (fun e => h (SX.S_inj (V.str.inj e)))]
    rw [e1]
    have ef := figs_law z
    refine ite2 (fun c => ?A) (fun c => ?B)
    case' A =>
      rw [if_pos (of_decide_eq_true c)] at ef
      refine ⟨.str (S z), rfl, 1, rfl, noPart ⟨S z, rfl, hs, ?_⟩⟩
      rw [cut_tail, ← ef]
    case' B =>
      rw [if_neg (fun y => c (decide_eq_true y))] at ef
      refine ⟨.str (S (figs z)), (show some (some (V.str (S z))) = some (some (V.str (S (figs z)))) by rw [ef]), ?_⟩
    all_goals
      refine ⟨.str (S (figs z)), rfl, S (figs z), rfl, lf, 1, _, rfl, rfl, _, rfl, chainI ?_⟩
      rw [S_len]
      refine ite2 (fun c1 => iteT (hno ?_)) (fun c1 => ?_)
      · unfold isNum
        have : decide (1 ≤ (figs z).length ∧ (figs z).length ≤ 30) = false := decide_eq_false (fun y => by simp at c1; omega)
        rw [this]
        rfl
      have c1' : 1 ≤ (figs z).length ∧ (figs z).length ≤ 30 := by
        simp at c1
        omega
      refine ⟨.str (S (figs z)), rfl, S (figs z), rfl, fun D nD => ?_⟩
      refine lc_it walk_str (fun i H' => Same H H' ∧ H' D = some (.lst ((((figs z).take i).map dig).map V.bl))) ⟨same_new nD, upd_same⟩ (fun _ _ _ _ => True.intro) (fun i x H' H2 hi ⟨sm, hD⟩ ⟨eH, u, hc, ex⟩ => ?_) (fun H' ⟨sm, hD⟩ => ?_)
      · subst eH ex
        have hc' : (figs z)[i]? = some u := by simpa using hc
        refine ⟨rfl, yes (iteT ?_)⟩
        refine ⟨_, rfl, u, _, rfl, rfl, _, hD, ?_, same_late sm nD, ?_⟩
        · rw [List.length_map, List.length_map]
          exact small1000 (Nat.le_trans (List.length_take_le' _ _) (by omega))
        · rw [upd_same, List.take_add_one, hc', List.map_append, List.map_append]
          rfl
      have e0 : (S (figs z)).cps.size = (figs z).length := S_len (figs z)
      rw [e0, List.take_length] at hD
      have hno' : isNum z = false → Q .non H' := fun e => by
        have q1 := q H' sm
        unfold numV at q1
        rw [e] at q1
        exact q1
      refine ⟨D, _, rfl, SqL.of hD, _, rfl, ?_⟩
      have eall : (((figs z).map dig).all id) = (figs z).all dig := by
        rw [List.all_map]
        rfl
      rw [eall]
      refine ite2 (fun c2 => hno' ?_) (fun c2 => ?_)
      · unfold isNum
        cases y : (figs z).all dig with
        | false => rw [Bool.false_and, Bool.and_false]
        | true => rw [y] at c2; cases c2
      have y : (figs z).all dig = true := by
        cases y : (figs z).all dig with
        | true => rfl
        | false => rw [y] at c2; exact absurd rfl c2
      have ei := num_law c1' y
      obtain ⟨u, r, eu⟩ : ∃ u r, figs z = u :: r := by
        cases e : figs z with
        | nil => rw [e] at c1'; exact absurd c1'.1 (by decide)
        | cons u r => exact ⟨u, r, rfl⟩
      have e2 : decide (V.str (⟨#[u]⟩ : Str) = V.str (Str.ofString "0")) = hd0 (figs z) := by
        unfold hd0
        rw [eu, st_zero]
        by_cases h : u = 48
        · rw [h, decide_eq_true rfl]
          rfl
        · show _ = decide (some u = some 48)
          rw [decide_eq_false (fun e => h ?_), decide_eq_false (fun e => h (Option.some.inj e))]
          have e2 := SX.S_inj (a := [u]) (b := [48]) (V.str.inj e)
          exact (List.cons.inj e2).1
      have e3 : decide (V.str (S z) = V.str (Str.ofString "-0")) = decide (z = [45, 48]) := by
        rw [st_d0]
        by_cases h : z = [45, 48]
        · rw [h, decide_eq_true rfl, decide_eq_true rfl]
        · rw [decide_eq_false h, decide_eq_false (fun e => h (SX.S_inj (V.str.inj e)))]
      refine ⟨.str (S (figs z)), rfl, S (figs z), rfl, lf, _, 1, rfl, rfl, _, rfl, ?_⟩
      rw [S_len]
      refine ite2 (fun c4 => ?_) (fun c4 => ?_)
      · refine ⟨.str (S (figs z)), rfl, S (figs z), 0, u, rfl, rfl, lf, atI_nat (j := 0) (by show (figs z)[0]? = some u; rw [eu]; rfl), rfl, _, rfl, ?_⟩
        rw [e2]
        have c4' : 1 < (figs z).length := by have := of_decide_eq_true c4; omega
        refine ite2 (fun c5 => hno' (by rw [ei, decide_eq_true c4', c5]; rfl)) (fun c5 => ?_)
        have h3 : (decide (1 < (figs z).length) && hd0 (figs z)) = false := by rw [Bool.eq_false_iff.mpr c5, Bool.and_false]
        rw [h3, Bool.false_or] at ei
        refine ⟨.str (S z), rfl, rfl, _, rfl, ?_⟩
        rw [e3]
        refine ite2 (fun c3 => hno' (by rw [ei, c3]; rfl)) (fun c3 => ?_)
        rw [Bool.eq_false_iff.mpr c3] at ei
        have ei' : isNum z = true := ei
        obtain ⟨i1, i2⟩ := int_word ei'
        refine ⟨.str (S z), rfl, S z, _, rfl, i1, i2, ?_⟩
        have q1 := q H' sm
        unfold numV at q1
        rw [if_pos ei'] at q1
        exact q1
      · have c4' : ¬ 1 < (figs z).length := fun h => c4 (decide_eq_true (by omega))
        have h3 : (decide (1 < (figs z).length) && hd0 (figs z)) = false := by rw [decide_eq_false c4']; rfl
        rw [h3, Bool.false_or] at ei
        refine ⟨.str (S z), rfl, rfl, _, rfl, ?_⟩
        rw [e3]
        refine ite2 (fun c3 => hno' (by rw [ei, c3]; rfl)) (fun c3 => ?_)
        rw [Bool.eq_false_iff.mpr c3] at ei
        have ei' : isNum z = true := ei
        obtain ⟨i1, i2⟩ := int_word ei'
        refine ⟨.str (S z), rfl, S z, _, rfl, i1, i2, ?_⟩
        have q1 := q H' sm
        unfold numV at q1
        rw [if_pos ei'] at q1
        exact q1
end
end HL

namespace HL
open PySem PySem.Spec PyProof.Rows L2
open C8 (pss_cut)
open SX (S S_len S_tl S_cat)
open LamX (CodeO Tabs TabS TabB ExtN tLam LamS lamS_by lamCx lamEnv codeO_ne)
/-- f(k = v, ..) -/
theorem pe_kw0 {X : Cx} {CX : CXT} {k : Nat} {f : Addr} {fd : FuncData} {ps ks : List Str} {sp : Sp} {E : XK} {x : Str} {p pos : Pos} {kws : List Keyword} {tk : TA} {g : List Value → List Value → List Value} {gV : List V → List V → List V}
    (F : FnOk X.prog X.w X.K X.mg X.base CX k f fd ps sp) (hr : Room k X.A) (hg : Gl X x) (hm : X.mg x = some (.ref f)) (hk : PySem.W.keepIn X.K (.ref f) = true) (hb : KBn X.K fd ps 0 ks g gV) (hx : Passes CX X E) (hkw : PK X kws tk)
    (hall : (backToKw pos (keywordEach kws X.env)).all (·.1.isSome) = true := by rfl)
    (hks : (backToKw pos (keywordEach kws X.env)).filterMap (·.1) = ks := by rfl) (hdb : (x == ("__debug__" : Str)) = false := by decide)
    (hpl : ((backTo pos (starEach [] X.env)).any (·.1) || (backToKw pos (keywordEach kws X.env)).any (·.1.isNone)) = false := by rfl) : PE X (.Call (.Name x p) [] kws pos) (tCallN 0 ks.length sp gV E tNil tk) := by
  refine ⟨fun pins s σ H Q I h => wpAny_Call_Name_kw (ld_glob I hg hm ?_ hdb)⟩
  refine PySem.W.callWith_KW0 (h₀ := X.base) I.ok.mod.kin hk hall (thn (hkw.run pos pins s σ H _ I h) fun ws s2 ⟨zs, H2, I2, rz, l1, l2, q2⟩ => ⟨I2.kIn, ?_⟩) hpl
  rw [hks]
  exact run_fnN (us := []) (vs := []) F hr hb hx I2 .nil rz rfl l2 q2
theorem FeedAt.ext {c : Addr} {H H' : Hp} {f : Addr} (F : FeedAt c H f) (e : ExtN H H') : FeedAt c H' f := by
  obtain ⟨ns, i, b, m, n, h1, h2, h3⟩ := F
  exact ⟨ns, i, b, m, n, e _ _ h1 (fun ps z => by cases z), e _ _ h2 (fun ps z => by cases z), h3⟩
theorem IntsAt.ext {H H' : Hp} {p : Addr} {ns : List Int} (h : IntsAt H p ns) (e : ExtN H H') : IntsAt H' p ns := e _ _ h (fun ps z => by cases z)
theorem tabs_kp {T : List (Addr × Str)} {H H' : Hp} {f c : Addr} (t : Tabs T H) (F : FeedAt c H f) (k : Kp f H H') : Tabs T H' := fun p hp => by
  obtain ⟨ps, h1, h2, h3⟩ := t p hp
  obtain ⟨ns, i, b, m, n, g1, _⟩ := F
  refine ⟨ps, k _ _ (ne_of h1 g1 (fun z => by cases z)) h1, h2, fun pos cv hc => ?_⟩
  obtain ⟨c0, e1, e2⟩ := h3 pos cv hc
  refine ⟨c0, e1, k _ _ (ne_of e2 g1 (fun z => ?_)) e2⟩
  unfold CodeO at z
  cases z
theorem tabs_list {T : List (Addr × Str)} {H : Hp} {l : Addr} {xs ys : List V} (t : Tabs T H) (h : H l = some (.lst xs)) : Tabs T (upd H l (.lst ys)) := fun p hp => by
  obtain ⟨ps, h1, h2, h3⟩ := t p hp
  refine ⟨ps, by rw [upd_ne (ne_of h1 h (fun z => by cases z))]; exact h1, h2, fun pos cv hc => ?_⟩
  obtain ⟨c0, e1, e2⟩ := h3 pos cv hc
  refine ⟨c0, e1, ?_⟩
  rw [upd_ne (ne_of e2 h (fun z => ?_))]
  · exact e2
  · unfold CodeO at z
    cases z
/-- the slots of a def are as many as its names -/
theorem takes_len {X : Cx} {W : WX} (tk : Takes X W) : Takes X (fun cls d σ H => σ.length = X.N.length → W cls d σ H) := fun u s' ⟨a, B, sI, pins, σ, H, cls, d, e, I, nb, up, sky, na, os, ag, w⟩ =>
  tk u s' ⟨a, B, sI, pins, σ, H, cls, d, e, I, nb, up, sky, na, os, ag, w I.len⟩
theorem eqd_tup {H : Hp} {a b : Addr} {xs : List V} {d : Nat} (ha : H a = some (.tup xs)) (hb : H b = some (.tup xs)) (hz : xs.length ≤ 1000) (hl : ∀ x ∈ xs, leafV x = true) : Eqd H (d + 1) (.ref a) (.ref b) :=
  .inr ⟨a, b, xs, xs, rfl, rfl, .inr ⟨ha, hb⟩, rfl, hz, fun i x y h1 h2 => by
    rw [h1] at h2
    cases h2
    have e := hl x (List.mem_of_getElem? h1)
    cases d with
    | zero => exact ⟨rfl, e⟩
    | succ d => exact .inl ⟨rfl, e⟩⟩
theorem sz_2 (v w : V) : [v, w].length ≤ sizeLine := by
  show 2 ≤ sizeLine
  decide
theorem sz_1 (v : V) : [v].length ≤ sizeLine := by
  show 1 ≤ sizeLine
  decide
/-! ### an ask, told by its word -/
abbrev NW : List Str := ["_law_ask", "_law_word_here", "_law_answer", "e"]
theorem scWord : FnScope NW ["_law_ask"] (defScope sWord) := ⟨rfl, rfl, rfl, by decide +kernel, rfl, by decide +kernel, by decide +kernel⟩
structure ClsW (K : PySem.W.Frag) (mg : Str → Option Value) (C CE CM CN : Addr) : Prop where
  gC : mg "BadText" = some (.ref C)
  gE : mg "LotError" = some (.ref CE)
  gM : mg "Missing" = some (.ref CM)
  gN : mg "NothingLeft" = some (.ref CN)
  x : XfC K C
  nW : PySem.W.findIn K (.ref C) "word" = some none
  nA : PySem.W.findIn K (.ref C) "at" = some none
  ce : PySem.W.exmOne K (.ref C) (.ref CE) = some true
  cc : PySem.W.exmOne K (.ref C) (.ref C) = some true
def CatchW (C : Addr) (Q : VK) : XK := fun cls d H' => ∃ (dd : Addr) (v : V), d = some dd ∧ cls = .ref C ∧ H' dd = some (.xd (exF "at" "bad text" v)) ∧ ∀ t, H' t = none → Q (.ref t) (upd H' t (.tup [.non, .str "bad text"]))
def TTw (C : Addr) : (XK → Hp → VK → Prop) → Hp → VK → Prop := fun tl H Q => tl (CatchW C Q) H (fun v H' => ∀ t, H' t = none → Q (.ref t) (upd H' t (.tup [v, .str ""])))
theorem word_gives {X : Cx} {q : Str} {g C CE CM CN : Addr} {cdg : Value} (T : ClsW X.K X.mg C CE CM CN) : AsksOf X NW "_law_word" (defScope sWord) g cdg (defBody sWord) "_law_ask" q (TTw C) := by
  intro f c' s H Q tl act hc h
  refine ⟨_, pss_cons (ps_set (i := 1) scWord.nd rfl (.inl rfl) pe_str) (pss_cons (ps_set (i := 2) scWord.nd rfl (.inl rfl) pe_non) (pss_cons (ps_try_manyA (i := 3) (n := "e")
      (tb := fun W D σ H => ∃ Ech : XK, (∀ cls d H', Ech cls d H' → W cls d σ H') ∧ σ[0]? = some (some (.ref f)) ∧ H c' = some (CodeO c' q) ∧ tl Ech H (fun v H' => D.nx (σ.set 2 (some v)) H')) (Wout := fun _ _ _ _ => False)
      (l := [(.ref CE, fun a cls d => tAsg (tXf a cls d C "word" (tVar 3)) (gName 1)), (.ref CM, fun a cls d => tAsg (tXf a cls d C "word" (tVar 3)) (gName 1)), (.ref CN, fun a cls d => tAsg (tXf a cls d C "word" (tVar 3)) (gName 1))])
      rfl rfl scWord.nd rfl rfl LamX.takes0 (fun W pn xe tk _ => ⟨fun pins s' σ H' D I h' => ?_⟩)
      (.cons ⟨rfl, by decide, .inl T.gE⟩ (fun a oe cls d pn hz hf => pss_one (ps_set (i := 1) scWord.nd rfl (.inl rfl) (pe_xf T.x T.nW hz hf (pv 3))))
      (.cons ⟨rfl, by decide, .inl T.gM⟩ (fun a oe cls d pn hz hf => pss_one (ps_set (i := 1) scWord.nd rfl (.inl rfl) (pe_xf T.x T.nW hz hf (pv 3))))
      (.cons ⟨rfl, by decide, .inl T.gN⟩ (fun a oe cls d pn hz hf => pss_one (ps_set (i := 1) scWord.nd rfl (.inl rfl) (pe_xf T.x T.nW hz hf (pv 3)))) .nil))))
    (pss_one (ps_ret (pe_tup (pa_cons (pv 2) (pa_cons (pv 1) pa_nil)))))))  , ?_⟩
  · obtain ⟨Ech, hW, h1, h2, h3⟩ := h'
    exact (pss_one (ps_set (i := 2) scWord.nd rfl (.inl rfl) (act σ W pn xe Ech _ _ tk hW))).run pins s' σ H' D I ⟨rfl, h1, h2, h3⟩
  · refine ⟨CatchW C Q, fun cls d H' hE => ?_, rfl, hc, ?_⟩
    · obtain ⟨dd, v, rfl, rfl, hd, hQ⟩ := hE
      refine ⟨true, T.ce, fun _ a na => ?_, fun z => Bool.noConfusion z⟩
      exact ⟨.ref a, rfl, rfl, rfl, dd, _, .str "bad text", rfl, hd, rfl, .non, rfl, .str "bad text", rfl, sz_2 _ _, fun t nt => hQ t nt⟩
    · have e2 : (fun (v : V) (H' : Hp) => ∃ x2, ([some (.ref f), some (.str ""), some v, none] : L2.St)[2]? = some (some x2) ∧ ∃ x1, ([some (.ref f), some (.str ""), some v, none] : L2.St)[1]? = some (some x1) ∧ ([x2, x1].length ≤ sizeLine ∧ ∀ t, H' t = none → Q (.ref t) (upd H' t (.tup [x2, x1])))) =
          (fun (v : V) (H' : Hp) => ∀ t, H' t = none → Q (.ref t) (upd H' t (.tup [v, .str ""]))) := by
        funext v H'
        refine propext ⟨fun ⟨x2, h2, x1, h1, _, hq⟩ => ?_, fun hq => ⟨v, rfl, .str "", rfl, sz_2 _ _, hq⟩⟩
        cases Option.some.inj (Option.some.inj h2)
        cases Option.some.inj (Option.some.inj h1)
        exact hq
      have h' : tl (CatchW C Q) H (fun (v : V) (H' : Hp) => ∃ x2, ([some (.ref f), some (.str ""), some v, none] : L2.St)[2]? = some (some x2) ∧ ∃ x1, ([some (.ref f), some (.str ""), some v, none] : L2.St)[1]? = some (some x1) ∧ ([x2, x1].length ≤ sizeLine ∧ ∀ t, H' t = none → Q (.ref t) (upd H' t (.tup [x2, x1])))) := by
        rw [e2]
        exact h
      exact h'
theorem word_read {T : List (Addr × Str)} {C : Addr} {σ : L2.St} {H : Hp} {Q : VK} {z : List Nat} {te : TE} (hT : Tabs T H) (hz : z.length ≤ 900) (hte : ∀ (H' : Hp) (Q' : VK), Q' (.str (S z)) H' → te σ H' Q')
    (q1 : (wordsOf z).all isNum = true → ∀ H5 H' p t, ExtN H H5 → Tabs T H5 → Same H5 H' → IntsAt H' p ((wordsOf z).map valW) → H' t = some (.tup [.ref p, .str ""]) → Q (.ref t) H')
    (q2 : (wordsOf z).all isNum = false → ∀ H5 H' t, ExtN H H5 → Tabs T H5 → Same H5 H' → H' t = some (.tup [.non, .str "bad text"]) → Q (.ref t) H') : tLam T (TTw C) (fun E => tCall (spReadRow C) [] E (tCons te tNil)) σ H Q :=
  ⟨hT, fun H5 e5 T5 => hte _ _ (nilA ⟨z, rfl, hz, fun e H' p s hp t nt => q1 e H5 _ p t e5 T5 (s.trans (same_new nt)) (hp.same (same_new nt)) upd_same,
    fun e H' d s nd hd => ⟨d, .int 0, rfl, rfl, hd, fun t nt => q2 e H5 _ t e5 T5 (s.trans (same_new nt)) upd_same⟩⟩)⟩
end HL

namespace HL
open PySem PySem.Spec PyProof.Rows L2
open C8 (pss_cut)
open SX (S S_len S_tl S_cat)
open LamX (CodeO Tabs TabS TabB ExtN tLam LamS lamS_by lamCx lamEnv codeO_ne)
abbrev NL : List Str := ["_law_script", "_law_feed_here", "_law_turn", "_law_row", "_law_k", "_law_number", "_law_mtext", "_law_at", "_law_sign", "_law_some", "_law_due", "_law_want", "_law_where", "e", "_law_words", "_law_bent", "_law_word_here"]
theorem scLaw : FnScope NL ["_law_script"] (defScope sLaw) := ⟨rfl, rfl, rfl, by decide +kernel, rfl, by decide +kernel, by decide +kernel⟩
abbrev qLam : Str := ((Str.ofString "law" : Str) ++ (Str.ofString ".<locals>." : Str)) ++ (Str.ofString "<lambda>" : Str)
/-- all that the law takes from the module -/
structure Txt (P : Program) (w : World) (K : PySem.W.Frag) (mg : Str → Option Value) (base : Heap) (C CE CM CN : Addr) : Prop where
  B : Bl mg
  feed : Cal P w K mg base CX0 1 "_law_feed" ["_law_script"] (spFeed K)
  draw : Cal P w K mg base CX0 1 "_law_draw" ["_law_feed_here", "_law_many"] spDraw
  pick : Cal P w K mg base CX0 2 "_law_pick" ["_law_feed_here", "_law_row"] spPick
  great : Cal P w K mg base CX0 3 "_law_great" ["_law_feed_here"] spGreat
  rtl : Cal P w K mg base CX0 1 "_law_row_text" ["_law_row"] spRowTextL
  numIn : Cal P w K mg base CX0 1 "_law_number_in" ["_law_word_here"] spNumIn
  same2 : Cal P w K mg base CX0 3 "_law_same" ["_law_found", "_law_due"] (spSame 2)
  rt : Cal P w K mg base CX0 1 "row_text" ["row"] (spRowText K)
  rr : ∃ (f : Addr) (fd : FuncData), FnOk P w K mg base (L2.CX P w) 3 f fd ["text"] (spReadRow C) ∧ mg "read_row" = some (.ref f) ∧ PySem.W.keepIn K (.ref f) = true ∧ Binds K fd ["text"] [] ∧ KBn K fd ["text"] 0 ["text"] (fun _ ws => ws) (fun _ zs => zs)
  word : ∃ (g : Addr) (oc : Value) (od : Option Addr) (kV doc pm : Value) (an : Option Addr) (cdv ct : Value) (osl : Array (Option Value)), mg "_law_word" = some (.ref g) ∧ PySem.W.keepIn K (.ref g) = true ∧
    K.lookup g = some ⟨oc, od, .func (PySem.W.fnOf "_law_word" "_law_word" (defArgs sWord) (defBody sWord) (defScope sWord) .none kV doc pm an cdv ct), osl⟩ ∧ PySem.W.codeIn K cdv "_law_word" = true ∧
    L2.Binds K (PySem.W.fnOf "_law_word" "_law_word" (defArgs sWord) (defBody sWord) (defScope sWord) .none kV doc pm an cdv ct) ["_law_ask"] []
  cls : ClsW K mg C CE CM CN
/-- the law's turn: what it knows of the heap -/
structure S1 (cf fe Pt : Addr) (H : Hp) : Prop where
  F : FeedAt cf H fe
  T : Tabs [(Pt, qLam)] H
section
variable {cf fe Pt : Addr} {H H' : Hp}
theorem S1.same (x : S1 cf fe Pt H) (s : Same H H') : S1 cf fe Pt H' := ⟨x.F.same s, x.T.ext s⟩
theorem S1.ext (x : S1 cf fe Pt H) (s : ExtN H H') (t : Tabs [(Pt, qLam)] H') : S1 cf fe Pt H' := ⟨x.F.ext s, t⟩
theorem S1.kp (x : S1 cf fe Pt H) (k : Kp fe H H') (F : FeedAt cf H' fe) : S1 cf fe Pt H' := ⟨F, tabs_kp x.T x.F k⟩
theorem S1.put {l : Addr} {xs ys : List V} (x : S1 cf fe Pt H) (h : H l = some (.lst xs)) (n1 : l ≠ fe) (n2 : l ≠ cf) : S1 cf fe Pt (upd H l (.lst ys)) := ⟨x.F.put n1 n2, tabs_list x.T h⟩
end
theorem str_len (x y : Str) : (x ++ y).length = x.length + y.length := by
  rw [TL.len_tl, TL.tl_append, List.length_append, ← TL.len_tl, ← TL.len_tl]
theorem in_none {ws : List (List Nat)} : inV .non (ws.map numV) = !(ws.all isNum) := by
  unfold inV
  induction ws with
  | nil => rfl
  | cons z ws ih =>
    rw [List.map_cons, List.any_cons, List.all_cons, ih]
    unfold numV
    cases e : isNum z with
    | true => rfl
    | false => rfl
theorem flat_num (ws : List (List Nat)) : (ws.map numV).all flatV = true := by
  rw [List.all_eq_true]
  intro x hx
  obtain ⟨z, _, rfl⟩ := List.mem_map.mp hx
  unfold numV
  split <;> rfl
theorem nums_ints {ws : List (List Nat)} (h : ws.all isNum = true) : ws.map numV = (ws.map valW).map V.int := by
  rw [List.map_map]
  refine List.map_congr_left fun z hz => ?_
  unfold numV
  rw [if_pos ((List.all_eq_true.mp h) z hz)]
  rfl
theorem vals_row {ns : List Int} (hs : Small ns) (hne : ns ≠ []) : (wordsOf (rowL ns)).all isNum = true ∧ (wordsOf (rowL ns)).map valW = ns := by
  rw [words_row hne]
  refine ⟨?_, ?_⟩
  · rw [List.all_eq_true]
    intro z hz
    obtain ⟨n, hn, rfl⟩ := List.mem_map.mp hz
    exact (wr_num (hs n hn)).1
  · rw [List.map_map]
    have : ∀ n ∈ ns, (valW ∘ wr) n = n := fun n hn => (wr_num (hs n hn)).2
    rw [List.map_congr_left this]
    exact List.map_id' ns
abbrev t31 : List Nat := List.replicate 31 57
theorem no_31 : (wordsOf t31).all isNum = false := by decide +kernel
theorem no_0 : (wordsOf []).all isNum = false := by decide +kernel
theorem no_d1 : (wordsOf [45, 45, 49]).all isNum = false := by decide +kernel
theorem no_12 : (wordsOf [49, 44, 44, 50]).all isNum = false := by decide +kernel
theorem st_12 : (Str.ofString "1,,2" : Str) = S [49, 44, 44, 50] := TL.ext_tl (by rw [TL.tl_ofString]; rfl)
theorem st_d1 : (Str.ofString "--1" : Str) = S [45, 45, 49] := TL.ext_tl (by rw [TL.tl_ofString]; rfl)
theorem st_e : (Str.ofString "" : Str) = S [] := TL.ext_tl (by rw [TL.tl_ofString]; rfl)
def badD : PyData := .tuple [.none, .str "bad text"]
def badsD : PyData := .list [badD, badD, badD]
theorem badsD_shaped : SeqAt.shaped badsD = true := by decide +kernel
theorem badsD_eqv : PyData.eqv badsD badsD = true := by decide +kernel
theorem badD_dp {K : PySem.W.Frag} {H : Hp} {t : Addr} (h : H t = some (.tup [.non, .str "bad text"])) : Dp K H (.ref t) badD := .tup (SqT.of h) (.cons .non (.cons (.str _) .nil))
section
variable {P : Program} {w : World} {K : PySem.W.Frag} {mg : Str → Option Value} {base : Heap}
def spLaw (K : PySem.W.Frag) (Pt : Addr) : Sp := fun vs H Q _ => ∃ (a : Addr) (ns : List Int), vs = [.ref a] ∧ SqL K H a (ns.map V.int) ∧ ns.length ≤ 63 ∧ Tabs [(Pt, qLam)] H ∧ ∀ H', Q (.bl true) H'
theorem ok_law {f C CE CM CN c Pt : Addr} {oc : Value} {od : Option Addr} {kV doc pm : Value} {an : Option Addr} {ct : Value} {osl : Array (Option Value)}
    (lk : K.lookup f = some ⟨oc, od, .func (PySem.W.fnOf "law" "law" (defArgs sLaw) (defBody sLaw) (defScope sLaw) .none kV doc pm an (.ref c) ct), osl⟩) (hcd : PySem.W.codeIn K (.ref c) "law" = true) (T : Txt P w K mg base C CE CM CN) (TB : TabB base mg c Pt) :
    FnOk P w K mg base CX0 9 f (PySem.W.fnOf "law" "law" (defArgs sLaw) (defBody sLaw) (defScope sLaw) .none kV doc pm an (.ref c) ct) ["_law_script"] (spLaw K Pt) := by
  have B := T.B
  obtain ⟨fF, fdF, GF, gF, kF, bF⟩ := T.feed.ex
  obtain ⟨fD, fdD, GD, gD, kD, bD⟩ := T.draw.ex
  obtain ⟨fP, fdP, GP, gP, kP, bP⟩ := T.pick.ex
  obtain ⟨fGr, fdGr, GGr, gGr, kGr, bGr⟩ := T.great.ex
  obtain ⟨fRL, fdRL, GRL, gRL, kRL, bRL⟩ := T.rtl.ex
  obtain ⟨fNI, fdNI, GNI, gNI, kNI, bNI⟩ := T.numIn.ex
  obtain ⟨fS2, fdS2, GS2, gS2, kS2, bS2⟩ := T.same2.ex
  obtain ⟨fRT, fdRT, GRT, gRT, kRT, bRT⟩ := T.rt.ex
  obtain ⟨fRR, fdRR, GRR, gRR, kRR, bRR, kbT⟩ := T.rr
  obtain ⟨gT, toc, tod, tkV, tdoc, tpm, tan, tcdv, tct, tosl, gW, kW, lkW, cdW, bW⟩ := T.word
  refine fn_of lk hcd scLaw (fun vs H Q E h => ?_) fun A outer s H vs Q E hr h => ?_
  · obtain ⟨a, ns, rfl, _⟩ := h
    rfl
  · obtain ⟨a, ns, rfl, hS, hlen, hT, q⟩ := h
    have tl : ∀ {X : Cx} (eK : X.K = K) (em : X.mg = mg) {q : Str} {cdg : Value} {g : Addr}, AsksOf X NW "_law_word" (defScope sWord) g cdg (defBody sWord) "_law_ask" q (TTw C) := fun {X} eK em {q cdg g} => by
      subst eK em
      exact word_gives T.cls
    have build : ∃ t, PSs (cxOf CX0 P w K mg base NL "law" (defScope sLaw) f (.ref c) A outer s H E).nox (defBody sLaw) t ∧ t { nx := fun _ H' => Q .non H', rt := Q } (L2.start NL [.ref a]) H := by
      refine ⟨_, pss_cons (ps_set (i := 1) scLaw.nd rfl (.inl rfl) (pe_call GF (hr.mono (by decide)) (by rfl) gF kF bF .nil pass0 (pa_cons (pv 0) pa_nil)))
        (pss_cons (ps_for PassesOwn.never rfl (pi_range1 (by rfl) B.range (pa_cons pe_int pa_nil)) (pg_name (i := 2) scLaw.nd rfl (.inl rfl))
          (pss_cons (ps_set (i := 3) scLaw.nd rfl (.inl rfl) (pe_lst pa_nil))
          (pss_cons (ps_for PassesOwn.never rfl (pi_range1 (by rfl) B.range (pa_cons (pe_op op_add pe_int (pe_call GD (hr.mono (by decide)) (by rfl) gD kD bD .nil pass0 (pa_cons (pv 1) (pa_cons pe_int pa_nil)))) pa_nil)) (pg_name (i := 4) scLaw.nd rfl (.inl rfl))
            (pss_cons (ps_set (i := 5) scLaw.nd rfl (.inl rfl) (pe_call GGr (hr.mono (by decide)) (by rfl) gGr kGr bGr .nil pass0 (pa_cons (pv 1) pa_nil)))
            (pss_one (ps_expr (pe_bm PySem.F.plainAttrs_list PySem.F.slot_list_append PySem.F.type_list_append mt_append (pv 3) (pa_cons (pe_call GP (hr.mono (by decide)) (by rfl) gP kP bP .nil pass0 (pa_cons (pv 1) (pa_cons
              (pe_lst (pa_cons (pv 5) (pa_cons (pe_op op_sub pe_int (pv 5)) (pa_cons (pe_op op_sub (pe_op op_sub (pe_op op_pow pe_int pe_int) pe_int) (pv 5)) (pa_cons pe_int pa_nil))))) pa_nil))) pa_nil))))))
          (pss_cons (ps_set (i := 6) scLaw.nd rfl (.inl rfl) (pe_call GRL (hr.mono (by decide)) (by rfl) gRL kRL bRL .nil pass0 (pa_cons (pv 3) pa_nil)))
          (pss_cons (ps_if (pt_not (pt_val (pe_call GS2 (hr.mono (by decide)) (by rfl) gS2 kS2 bS2 .nil pass0 (pa_cons (pe_lst (pa_cons (pe_call GRT (hr.mono (by decide)) (by rfl) gRT kRT bRT .nil pass0 (pa_cons (pe_callTy call_tuple_of (by rfl) B.tuple (by decide +kernel) (pa_cons (pv 3) pa_nil)) pa_nil)) (pa_cons (pe_call GRR (hr.mono (by decide)) (by rfl) gRR kRR bRR .nil passL (pa_cons (pv 6) pa_nil)) pa_nil)))
              (pa_cons (pe_lst (pa_cons (pv 6) (pa_cons (pe_callTy call_tuple_of (by rfl) B.tuple (by decide +kernel) (pa_cons (pv 3) pa_nil)) pa_nil))) pa_nil))))) pss_never pss_nil)
          (pss_cons (ps_set (i := 7) scLaw.nd rfl (.inl rfl) (pe_call GD (hr.mono (by decide)) (by rfl) gD kD bD .nil pass0 (pa_cons (pv 1) (pa_cons (pe_op op_add (pe_callB call_len_str (by rfl) B.len PySem.boot_len (pa_cons (pv 6) pa_nil)) pe_int) pa_nil))))
          (pss_cons (ps_set (i := 8) scLaw.nd rfl (.inl rfl) (pe_call GP (hr.mono (by decide)) (by rfl) gP kP bP .nil pass0 (pa_cons (pv 1) (pa_cons (pe_lst (pa_cons pe_str (pa_cons pe_str (pa_cons pe_str (pa_cons pe_str (pa_cons pe_str (pa_cons pe_str (pa_cons pe_str (pa_cons pe_str pa_nil))))))))) pa_nil))))
          (pss_cons (ps_set (i := 9) scLaw.nd rfl (.inl rfl) (pe_lst (pa_cons (pe_op op_add_str (pe_op op_add_str (pe_slice sl_str (pv 6) po_none (po_some (pv 7))) (pv 8)) (pe_slice sl_str (pv 6) (po_some (pv 7)) po_none))
              (pa_cons (pe_op op_add_str (pe_slice sl_str (pv 6) po_none (po_some (pv 7))) (pe_slice sl_str (pv 6) (po_some (pe_op op_add (pv 7) pe_int)) po_none)) pa_nil))))
          (pss_cons (ps_set (i := 15) scLaw.nd rfl (.inr rfl) (pe_call GP (hr.mono (by decide)) (by rfl) gP kP bP .nil pass0 (pa_cons (pv 1) (pa_cons (pe_op op_cat (pv 9) (pe_lst (pa_cons (pe_op op_add_str (pe_op op_add_str (pe_slice sl_str (pv 6) po_none (po_some (pv 7))) (pv 8)) (pe_slice sl_str (pv 6) (po_some (pe_op op_add (pv 7) pe_int)) po_none)) pa_nil))) pa_nil))))
          (pss_cons (ps_setLc (i := 10) (own := [("_law_word_here", 16)]) (g := gName 16) (tt := tYes) rfl scLaw.nd rfl rfl (sw_true rfl rfl rfl (by decide +kernel)) (pi_list (pe_split (pv 15) pe_str))
              (blkOk_by (own := [("_law_word_here", 16)]) (N := NL) (sc := defScope sLaw) (by decide +kernel)) (fun _ _ _ _ _ => pg_name (i := 16) scLaw.nd rfl (Or.inl rfl)) (fun _ _ _ _ _ => pts_nil)
              (fun _ _ _ _ _ => pe_call GNI (hr.mono (by decide)) (by rfl) gNI kNI bNI .nil pass0 (pa_cons (pv 16) pa_nil)))
          (pss_cons (ps_set (i := 11) scLaw.nd rfl (.inl rfl) (pe_ifExp (pt_cmpR op_in_seq pe_non (pv 10) (by rfl)) (pe_tup (pa_cons pe_non (pa_cons pe_str pa_nil))) (pe_tup (pa_cons (pe_callTy call_tuple_of (by rfl) B.tuple (by decide +kernel) (pa_cons (pv 10) pa_nil)) (pa_cons pe_str pa_nil)))))
          (pss_one (ps_if (pt_not (pt_val (pe_call GS2 (hr.mono (by decide)) (by rfl) gS2 kS2 bS2 .nil pass0 (pa_cons (pe_askcall (k := 6) (T := [(Pt, qLam)]) (TT := TTw C) (t := fun E => tCall (spReadRow C) [] E (tCons (tVar 15) tNil)) (by rfl) gW kW lkW cdW bW scWord rfl (.inl rfl) (tl rfl rfl) TB rfl List.mem_cons_self (fun p hp _ => by rw [List.mem_singleton.mp hp]; rfl) hr (lamS_by (sc := defScope sLaw) (by decide +kernel)) rfl (fun _ _ _ _ _ => rfl)
              (fun A outer s H E f c' hr2 => pe_call GRR (hr2.mono (by decide)) (by rfl) gRR kRR bRR .nil (passes_call (takes_of rfl rfl rfl rfl) (fun _ _ _ _ h => h)) (pa_cons (pv 15) pa_nil))) (pa_cons (pv 11) pa_nil))))) pss_never pss_nil)))))))))))))
        (pss_cons (ps_set (i := 12) scLaw.nd rfl (.inl rfl) (pe_un un_neg pe_int))
        (pss_cons (ps_try_manyA (i := 13) (n := "e") (tb := fun W D σ H => ∃ Ech : XK, (∀ cls d σ' H', Ech cls d H' → σ'.length = 17 → W cls d σ' H') ∧ spReadRow C [.str (Str.ofString "1,,2")] H (fun _ H' => D.nx σ H') Ech) (Wout := fun _ _ _ _ => False)
            (l := [(.ref C, fun a cls d => tAsg (tXf a cls d C "at" (tVar 13)) (gName 12))]) rfl rfl scLaw.nd rfl rfl LamX.takes0 (fun W pn xe tk _ => ⟨fun pins s' σ H' D I h' => by
              obtain ⟨Ech, hW, h1⟩ := h'
              exact (pss_one (ps_expr (pe_kw0 GRR (hr.mono (by decide)) (by rfl) gRR kRR kbT (passes_call (takes_len tk) hW) (pk_cons pe_str pk_nil)))).run pins s' σ H' D I ⟨rfl, rfl, h1⟩⟩)
            (.cons ⟨rfl, by decide, .inl T.cls.gC⟩ (fun a oe cls d pn hz hf => pss_one (ps_set (i := 12) scLaw.nd rfl (.inl rfl) (pe_xf T.cls.x T.cls.nA hz hf (pv 13)))) .nil))
        (pss_cons (ps_set (i := 14) scLaw.nd rfl (.inl rfl) (pe_lst (pa_cons (pe_askcall (k := 6) (T := [(Pt, qLam)]) (TT := TTw C) (t := fun E => tCall (spReadRow C) [] E (tCons (tOp (fun x y H Q => x = .str (S [57]) ∧ y = .int 31 ∧ Q (.str (S (List.replicate 31 57))) H) (tC (.str (Str.ofString "9"))) (tC (.int 31))) tNil)) (by rfl) gW kW lkW cdW bW scWord rfl (.inl rfl) (tl rfl rfl) TB rfl List.mem_cons_self (fun p hp _ => by rw [List.mem_singleton.mp hp]; rfl) hr (lamS_by (sc := defScope sLaw) (by decide +kernel)) rfl (fun _ _ _ _ _ => rfl)
              (fun A outer s H E f c' hr2 => pe_call GRR (hr2.mono (by decide)) (by rfl) gRR kRR bRR .nil (passes_call (takes_of rfl rfl rfl rfl) (fun _ _ _ _ h => h)) (pa_cons (pe_op op_nines pe_str pe_int) pa_nil))) pa_nil)))
        (pss_cons (ps_expr (pe_bm PySem.F.plainAttrs_list PySem.F.slot_list_append PySem.F.type_list_append mt_append (pv 14) (pa_cons (pe_askcall (k := 6) (T := [(Pt, qLam)]) (TT := TTw C) (t := fun E => tCall (spReadRow C) [] E (tCons (tC (.str (Str.ofString ""))) tNil)) (by rfl) gW kW lkW cdW bW scWord rfl (.inl rfl) (tl rfl rfl) TB rfl List.mem_cons_self (fun p hp _ => by rw [List.mem_singleton.mp hp]; rfl) hr (lamS_by (sc := defScope sLaw) (by decide +kernel)) rfl (fun _ _ _ _ _ => rfl)
              (fun A outer s H E f c' hr2 => pe_call GRR (hr2.mono (by decide)) (by rfl) gRR kRR bRR .nil (passes_call (takes_of rfl rfl rfl rfl) (fun _ _ _ _ h => h)) (pa_cons pe_str pa_nil))) pa_nil)))
        (pss_cons (ps_expr (pe_bm PySem.F.plainAttrs_list PySem.F.slot_list_append PySem.F.type_list_append mt_append (pv 14) (pa_cons (pe_askcall (k := 6) (T := [(Pt, qLam)]) (TT := TTw C) (t := fun E => tCall (spReadRow C) [] E (tCons (tC (.str (Str.ofString "--1"))) tNil)) (by rfl) gW kW lkW cdW bW scWord rfl (.inl rfl) (tl rfl rfl) TB rfl List.mem_cons_self (fun p hp _ => by rw [List.mem_singleton.mp hp]; rfl) hr (lamS_by (sc := defScope sLaw) (by decide +kernel)) rfl (fun _ _ _ _ _ => rfl)
              (fun A outer s H E f c' hr2 => pe_call GRR (hr2.mono (by decide)) (by rfl) gRR kRR bRR .nil (passes_call (takes_of rfl rfl rfl rfl) (fun _ _ _ _ h => h)) (pa_cons pe_str pa_nil))) pa_nil)))
        (pss_one (ps_ret (pe_and (pe_cmpR op_eq (pv 12) pe_int (nomark _)) (pe_and (pe_cmpR (op_eqD hr.units) (pv 14) (pe_op op_rep (pe_lst (pa_cons (pe_tup (pa_cons pe_non (pa_cons pe_str pa_nil))) pa_nil)) pe_int) (nomark _)) (pe_one (pe_cmpR op_eq (pe_call GRT (hr.mono (by decide)) (by rfl) gRT kRT bRT .nil pass0 (pa_cons (pe_tup pa_nil) pa_nil)) pe_str (nomark _))))))))))))), ?_⟩
      refine ⟨.ref a, rfl, a, ns, rfl, hS, hlen, fun H1 fe cf s1 nf F1 => ?_⟩
      refine ⟨5, rfl, by decide, by decide, ?_⟩
      refine for_range (lo := 0) (n := 5) (fun i σ H' => (∃ y2 y3 y4 y5 y6 y7 y8 y9 y10 y11 y12 y13 y14 y15, σ = [some (.ref a), some (.ref fe), y2, y3, y4, y5, y6, y7, y8, y9, y10, y11, y12, y13, y14, y15, none]) ∧ S1 cf fe Pt H')
        ⟨⟨none, none, none, none, none, none, none, none, none, none, none, none, none, none, rfl⟩, F1, hT.ext s1⟩ (fun i σ H2 hi ⟨⟨y2, y3, y4, y5, y6, y7, y8, y9, y10, y11, y12, y13, y14, y15, eσ⟩, X2⟩ => ?_) (fun σ H2 ⟨⟨y2, y3, y4, y5, y6, y7, y8, y9, y10, y11, y12, y13, y14, y15, eσ⟩, X2⟩ => ?_)
      · subst eσ
        refine ⟨Nat.zero_le _, fun r nr => ?_⟩
        have n1 : r ≠ fe := X2.F.ne nr
        have n2 : r ≠ cf := X2.F.neC nr
        have X3 := X2.same (same_new (o := .lst []) nr)
        refine ⟨.ref fe, rfl, fe, cf, 9, rfl, by decide, by decide, X3.F, fun d H4 d0 d1 k4 F4 => ?_⟩
        have X4 := X3.kp k4 F4
        have hr4 : H4 r = some (.lst []) := k4 _ _ n1 upd_same
        refine ⟨1, d, rfl, rfl, 1 + d, rfl, by omega, by omega, ?_⟩
        refine for_range (lo := 0) (n := (1 + d).toNat) (fun i σ H' => (∃ y2 y4 y5, σ = [some (.ref a), some (.ref fe), y2, some (.ref r), y4, y5, y6, y7, y8, y9, y10, y11, y12, y13, y14, y15, none]) ∧ S1 cf fe Pt H' ∧ ∃ ms : List Int, H' r = some (.lst (ms.map V.int)) ∧ ms.length = i ∧ Small ms)
          ⟨⟨_, _, _, rfl⟩, X4, [], hr4, rfl, fun n hn => by cases hn⟩ (fun i σ H5 hi ⟨⟨y2, y4, y5, eσ⟩, X5, ms, hms, lms, sms⟩ => ?_) (fun σ H5 ⟨⟨y2, y4, y5, eσ⟩, X5, ms, hms, lms, sms⟩ => ?_)
        · subst eσ
          refine ⟨.ref fe, rfl, fe, cf, rfl, X5.F, fun g H6 g0 g1 k6 F6 => ?_⟩
          have X6 := X5.kp k6 F6
          have hms6 := k6 _ _ n1 hms
          refine ⟨.ref r, rfl, .inl ⟨rfl, _, SqL.of hms6⟩, .ref fe, rfl, .int g, rfl, .int g, rfl, 0, g, rfl, rfl, 10, 30, rfl, rfl, ⟨by decide, by decide, by decide⟩, _, 1, rfl, rfl, .int g, rfl, _, g, rfl, rfl, (by show 4 ≤ sizeLine; decide), fun l nl => ?_⟩
          refine ⟨fe, cf, l, _, rfl, upd_same, X6.F.ne nl, (by show 1 ≤ 4; decide), (by show 4 ≤ 1000; decide), X6.F.new nl, fun v H7 hv k7 F7 => ?_⟩
          obtain ⟨m, rfl, hm⟩ : ∃ m : Int, v = .int m ∧ m.natAbs < 10 ^ 30 := by
            have e30 : (10 : Nat) ^ 30 = 1000000000000000000000000000000 := by decide
            have e31 : (10 : Int) ^ (30 : Int).toNat = 1000000000000000000000000000000 := by decide
            rw [e30]
            rw [e31] at hv
            simp only [List.mem_cons, List.mem_nil_iff, or_false] at hv
            rcases hv with h | h | h | h
            · exact ⟨_, h, by omega⟩
            · exact ⟨_, h, by omega⟩
            · exact ⟨_, h, by omega⟩
            · exact ⟨_, h, by decide⟩
          have sl := same_new (o := .lst [.int g, .int (0 - g), .int (10 ^ (30 : Int).toNat - 1 - g), .int 0]) nl
          have X7 := (X6.same sl).kp k7 F7
          have hms7 : H7 r = some (.lst (ms.map V.int)) := k7 _ _ n1 (sl _ _ hms6)
          refine ⟨r, _, _, rfl, rfl, hms7, small1000 (by rw [List.length_map]; omega), ⟨_, _, _, rfl⟩, X7.put hms7 n1 n2, ms ++ [m], ?_, ?_, ?_⟩
          · rw [upd_same, List.map_append]
            rfl
          · rw [List.length_append, lms]
            rfl
          · intro n hn
            rcases List.mem_append.mp hn with h | h
            · exact sms n h
            · rw [List.mem_singleton.mp h]
              exact hm
        · subst eσ
          have hne : ms ≠ [] := fun e => by
            rw [e] at lms
            simp at lms
            omega
          have hl9 : ms.length ≤ 9 := by omega
          obtain ⟨w1, w2⟩ := vals_row sms hne
          have hrl : (rowL ms).length ≤ 288 := by
            have := rowL_len sms
            omega
          have hs : (S (rowL ms)).length ≤ sizeLine := by
            rw [S_len]
            exact sz1000 (by omega)
          refine ⟨.ref r, rfl, r, ms, rfl, hms, by omega, sms, fun H6 s6 => ?_⟩
          have X6 := X5.same s6
          have hms6 := s6 _ _ hms
          -- there and back
          refine ⟨.ref r, rfl, r, _, rfl, .inl ⟨SqL.of hms6, fun t1 nt1 => ?_⟩⟩
          have s7 := same_new (o := .tup (ms.map V.int)) nt1
          refine ⟨t1, ms, rfl, SqT.of upd_same, by omega, sms, fun H8 s8 => ?_⟩
          refine ⟨.str (S (rowL ms)), rfl, rowL ms, rfl, by omega, fun _ H9 p9 s9 hp9 => ?_, fun e => ?_⟩
          rotate_left
          · rw [w1] at e
            cases e
          rw [w2] at hp9
          refine ⟨sz_2 _ _, fun l1 nl1 => ?_⟩
          have s10 := same_new (o := .lst [.str (S (rowL ms)), .ref p9]) nl1
          have s610 := s7.trans (s8.trans (s9.trans s10))
          refine ⟨.str (S (rowL ms)), rfl, .ref r, rfl, r, _, rfl, .inl ⟨SqL.of (s610 _ _ hms6), fun t2 nt2 => ?_⟩⟩
          have s11 := same_new (o := .tup (ms.map V.int)) nt2
          refine ⟨sz_2 _ _, fun l2 nl2 => ?_⟩
          have s12 := same_new (o := .lst [.str (S (rowL ms)), .ref t2]) nl2
          have lf : ∀ (ns : List Int), ∀ x ∈ ns.map V.int, leafV x = true := fun ns x hx => by
            obtain ⟨n, _, rfl⟩ := List.mem_map.mp hx
            rfl
          refine ⟨.ref l1, .ref l2, rfl, .inr ⟨l1, l2, [.str (S (rowL ms)), .ref p9], [.str (S (rowL ms)), .ref t2], rfl, rfl, .inl ⟨s12 _ _ (s11 _ _ upd_same), upd_same⟩, rfl, (by show 2 ≤ 1000; decide), fun j x y h1 h2 => ?_⟩, fun H13 s13 => ⟨_, rfl, iteF ?_⟩⟩
          · match j, h1, h2 with
            | 0, h1, h2 =>
              cases Option.some.inj h1
              cases Option.some.inj h2
              exact .inl ⟨rfl, rfl⟩
            | 1, h1, h2 =>
              cases Option.some.inj h1
              cases Option.some.inj h2
              exact eqd_tup (d := 0) (hp9.same (s10.trans (s11.trans s12))) (s12 _ _ upd_same) (by rw [List.length_map]; omega) (lf _)
            | j + 2, h1, h2 => simp at h1
          have s613 := s610.trans (s11.trans (s12.trans s13))
          have X13 := X6.same s613
          -- bent at a place
          refine ⟨.ref fe, rfl, .str (S (rowL ms)), rfl, S (rowL ms), rfl, hs, _, 1, rfl, rfl, fe, cf, _, rfl, by omega, by rw [S_len]; omega, X13.F, fun at_ H14 a0 a1 k14 F14 => ?_⟩
          have X14 := X13.kp k14 F14
          refine ⟨.ref fe, rfl, (by show 8 ≤ sizeLine; decide), fun l nl => ?_⟩
          have X15 := fun o => X14.same (same_new (o := o) nl)
          refine ⟨fe, cf, l, _, rfl, upd_same, X14.F.ne nl, by decide, by decide, (X15 _).F, fun v H16 hv k16 F16 => ?_⟩
          obtain ⟨sg, rfl, hsg⟩ : ∃ sg : Str, v = .str sg ∧ sg.length ≤ 1 := by
            simp only [List.mem_cons, List.mem_nil_iff, or_false] at hv
            rcases hv with h | h | h | h | h | h | h | h <;> exact ⟨_, h, by decide +kernel⟩
          have X16 := (X15 _).kp k16 F16
          have c1 : (cutS (S (rowL ms)) none (some at_)).length ≤ 288 := Nat.le_trans (cutS_length _ _ _) (by rw [S_len]; exact hrl)
          have c2 : (cutS (S (rowL ms)) (some at_) none).length ≤ 288 := Nat.le_trans (cutS_length _ _ _) (by rw [S_len]; exact hrl)
          have c3 : (cutS (S (rowL ms)) (some (at_ + 1)) none).length ≤ 288 := Nat.le_trans (cutS_length _ _ _) (by rw [S_len]; exact hrl)
          have b1 : (cutS (S (rowL ms)) none (some at_) ++ sg).length ≤ 289 := by rw [str_len]; omega
          refine ⟨.str (S (rowL ms)), rfl, .int at_, rfl, at_, rfl, S (rowL ms), rfl, hs, .str sg, rfl, _, _, rfl, rfl, sz1000 (by omega), ?_⟩
          refine ⟨.str (S (rowL ms)), rfl, .int at_, rfl, at_, rfl, noPart ⟨S (rowL ms), rfl, hs, _, _, rfl, rfl, sz1000 (by omega), ?_⟩⟩
          refine ⟨.str (S (rowL ms)), rfl, .int at_, rfl, at_, rfl, S (rowL ms), rfl, hs, ?_⟩
          refine ⟨.str (S (rowL ms)), rfl, .int at_, rfl, at_, 1, rfl, rfl, at_ + 1, rfl, noPart ⟨S (rowL ms), rfl, hs, _, _, rfl, rfl, sz1000 (by omega), ?_⟩⟩
          refine ⟨sz_2 _ _, fun l3 nl3 => ?_⟩
          have X17 := fun o => X16.same (same_new (o := o) nl3)
          refine ⟨.ref fe, rfl, .ref l3, rfl, .str (S (rowL ms)), rfl, .int at_, rfl, at_, rfl, S (rowL ms), rfl, hs, .str sg, rfl, _, _, rfl, rfl, sz1000 (by omega), ?_⟩
          refine ⟨.str (S (rowL ms)), rfl, .int at_, rfl, at_, 1, rfl, rfl, at_ + 1, rfl, noPart ⟨S (rowL ms), rfl, hs, _, _, rfl, rfl, sz1000 (by omega), ?_⟩⟩
          refine ⟨sz_1 _, fun l4 nl4 => ?_⟩
          refine ⟨l3, l4, _, _, rfl, rfl, same_new nl4 _ _ upd_same, upd_same, sz1000 (by show 2 + 1 ≤ 1000; decide), fun l5 nl5 => ?_⟩
          have X19 := fun o => (X17 _).same (same_new (o := o) nl4)
          have X20 := fun o => (X19 _).same (same_new (o := o) nl5)
          refine ⟨fe, cf, l5, _, rfl, upd_same, (X19 _).F.ne nl5, (by show 1 ≤ 3; decide), (by show 3 ≤ 1000; decide), (X20 _).F, fun v H21 hv k21 F21 => ?_⟩
          obtain ⟨zb, rfl, hzb⟩ : ∃ zb : List Nat, v = .str (S zb) ∧ zb.length ≤ 900 := by
            obtain ⟨x, hx, hxl⟩ : ∃ x : Str, v = .str x ∧ x.length ≤ 900 := by
              simp only [List.mem_append, List.mem_cons, List.mem_nil_iff, or_false] at hv
              rcases hv with (h | h) | h
              · exact ⟨_, h, by rw [str_len]; omega⟩
              · exact ⟨_, h, by rw [str_len]; omega⟩
              · exact ⟨_, h, by rw [str_len]; omega⟩
            refine ⟨x.cps.toList, by rw [S_tl]; exact hx, ?_⟩
            rw [← S_len, S_tl]
            exact hxl
          have X21 := (X20 _).kp k21 F21
          clear X20 X19 X17 X16 X15 X14 X13 X6 X5 X4 X3
          -- what is due
          obtain ⟨v1, v2⟩ := words_len zb
          refine ⟨.str (S zb), rfl, ⟨_, rfl⟩, S zb, _, rfl, rfl, by decide +kernel, by rw [S_len]; exact sz1000 (by omega), fun p np => ?_⟩
          rw [sp_comma]
          have s22 := same_new (o := .lst (((wordsOf zb).map S).map V.str)) np
          refine ⟨p, rfl, ⟨_, SqL.of upd_same⟩, fun D nD => ?_⟩
          refine lc_list (K := K) (a := p) (xs := ((wordsOf zb).map S).map V.str) (fun i H' => Same (upd H21 p (.lst (((wordsOf zb).map S).map V.str))) H' ∧ H' D = some (.lst (((wordsOf zb).map numV).take i))) ⟨same_new nD, upd_same⟩ (fun i H' _ ⟨sm, _⟩ => SqL.of (sm _ _ upd_same)) (fun i x H' hx ⟨sm, hD⟩ => ?_) (fun H23 ⟨sm, hD⟩ => ?_)
          · obtain ⟨u, hu, rfl⟩ := str_at hx
            have hul := v2 u (List.mem_of_getElem? hu)
            refine ⟨rfl, yes (iteT ?_)⟩
            refine ⟨_, rfl, u, rfl, by omega, fun H2 s2 => ⟨_, s2 _ _ hD, ?_, same_late (sm.trans s2) nD, ?_⟩⟩
            · exact small1000 (Nat.le_trans (List.length_take_le' _ _) (by rw [List.length_map]; omega))
            · have e : ((wordsOf zb).map numV)[i]? = some (numV u) := by rw [List.getElem?_map, hu]; rfl
              rw [upd_same, List.take_add_one, e]
              rfl
          rw [List.length_map, List.length_map, List.take_of_length_le (by rw [List.length_map]; exact Nat.le_refl _)] at hD
          have X23 := X21.same (s22.trans sm)
          refine ⟨.ref D, rfl, D, _, rfl, .inl (SqL.of hD), rfl, flat_num _, _, rfl, ?_⟩
          rw [show (if false = true then !inV V.non ((wordsOf zb).map numV) else inV V.non ((wordsOf zb).map numV)) = !((wordsOf zb).all isNum) from in_none]
          cases eb : (wordsOf zb).all isNum with
          | false =>
            refine iteT ⟨sz_2 _ _, fun tw ntw => ?_⟩
            have s24 := same_new (o := .tup [.non, .str "bad text"]) ntw
            have X24 := X23.same s24
            refine word_read X24.T hzb (fun H' Q' h => ⟨_, rfl, h⟩) (fun e => by rw [eb] at e; cases e) (fun _ H25 H26 t e25 T25 s26 ht => ?_)
            have X26 := (X24.ext e25 T25).same s26
            refine ⟨.ref tw, rfl, .ref t, .ref tw, rfl, eqd_tup (d := 1) ht (s26 _ _ (e25 _ _ upd_same (fun ps z => by cases z))) (by show 2 ≤ 1000; decide) (fun x hx => ?_), fun H27 s27 => ⟨_, rfl, iteF ⟨⟨_, _, _, _, _, _, _, _, _, _, _, _, _, _, rfl⟩, X26.same s27⟩⟩⟩
            rcases List.mem_cons.mp hx with z | z
            · rw [z]; rfl
            · rw [List.mem_singleton.mp z]; rfl
          | true =>
            refine iteF ⟨.ref D, rfl, D, _, rfl, .inl ⟨SqL.of hD, fun pw npw => ⟨sz_2 _ _, fun tw ntw => ?_⟩⟩⟩
            have s24 := same_new (o := .tup ((wordsOf zb).map numV)) npw
            have s25 := same_new (o := .tup [.ref pw, .str ""]) ntw
            have X25 := X23.same (s24.trans s25)
            refine word_read X25.T hzb (fun H' Q' h => ⟨_, rfl, h⟩) (fun _ H26 H27 p t e26 T26 s27 hp ht => ?_) (fun e => by rw [eb] at e; cases e)
            have X27 := (X25.ext e26 T26).same s27
            have hpw : H27 pw = some (.tup (((wordsOf zb).map valW).map V.int)) := by
              rw [← nums_ints eb]
              exact s27 _ _ (e26 _ _ (s25 _ _ upd_same) (fun ps z => by cases z))
            refine ⟨.ref tw, rfl, .ref t, .ref tw, rfl, .inr ⟨t, tw, [.ref p, .str ""], [.ref pw, .str ""], rfl, rfl, .inr ⟨ht, s27 _ _ (e26 _ _ upd_same (fun ps z => by cases z))⟩, rfl, (by show 2 ≤ 1000; decide), fun j x y h1 h2 => ?_⟩, fun H28 s28 => ⟨_, rfl, iteF ⟨⟨_, _, _, _, _, _, _, _, _, _, _, _, _, _, rfl⟩, X27.same s28⟩⟩⟩
            match j, h1, h2 with
            | 0, h1, h2 =>
              cases Option.some.inj h1
              cases Option.some.inj h2
              exact eqd_tup (d := 0) hp hpw (by rw [List.length_map, List.length_map]; omega) (lf _)
            | 1, h1, h2 =>
              cases Option.some.inj h1
              cases Option.some.inj h2
              exact .inl ⟨rfl, rfl⟩
            | j + 2, h1, h2 => simp at h1
      · subst eσ
        refine ⟨1, rfl, ?_⟩
        refine ⟨fun cls d H' => ∃ dd : Addr, d = some dd ∧ cls = .ref C ∧ H' dd = some (.xd (exF "at" "bad text" (.int 0))) ∧ Tabs [(Pt, qLam)] H', fun cls d σ' H' hE hl => ?_, ⟨[49, 44, 44, 50], by rw [st_12], by decide, fun e => ?_, fun _ H' d s' nd hd => ⟨d, rfl, rfl, hd, X2.T.ext s'⟩⟩⟩
        rotate_left
        · rw [no_12] at e
          cases e
        obtain ⟨dd, rfl, rfl, hd, T3⟩ := hE
        obtain ⟨x0, x1, x2, x3, x4, x5, x6, x7, x8, x9, x10, x11, x12, x13, x14, x15, x16, rfl⟩ : ∃ x0 x1 x2 x3 x4 x5 x6 x7 x8 x9 x10 x11 x12 x13 x14 x15 x16, σ' = [x0, x1, x2, x3, x4, x5, x6, x7, x8, x9, x10, x11, x12, x13, x14, x15, x16] := by
          match σ', hl with
          | [x0, x1, x2, x3, x4, x5, x6, x7, x8, x9, x10, x11, x12, x13, x14, x15, x16], _ => exact ⟨x0, x1, x2, x3, x4, x5, x6, x7, x8, x9, x10, x11, x12, x13, x14, x15, x16, rfl⟩
        refine ⟨true, T.cls.cc, fun _ xa na => ?_, fun z => Bool.noConfusion z⟩
        refine ⟨.ref xa, rfl, rfl, rfl, dd, _, .int 0, rfl, hd, rfl, ?_⟩
        -- three texts that are no rows
        refine word_read (z := t31) T3 (by decide) (fun H' Q' h => ⟨congrArg V.str st_nine, rfl, h⟩) (fun e => by rw [no_31] at e; cases e) (fun _ H4 H5 u1 e4 T4 s5 hu1 => ?_)
        have T5 := T4.ext s5
        refine ⟨sz_1 _, fun la nla => ?_⟩
        have s6 := same_new (o := .lst [.ref u1]) nla
        refine ⟨.ref la, rfl, .inl ⟨rfl, _, SqL.of upd_same⟩, word_read (z := []) (T5.ext s6) (by decide) (fun H' Q' h => by rw [← st_e] at h; exact h) (fun e => by rw [no_0] at e; cases e) (fun _ H7 H8 u2 e7 T7 s8 hu2 => ?_)⟩
        have T8 := T7.ext s8
        have hla8 : H8 la = some (.lst [.ref u1]) := s8 _ _ (e7 _ _ upd_same (fun ps z => by cases z))
        have hu1' : H8 u1 = some (.tup [.non, .str "bad text"]) := s8 _ _ (e7 _ _ (s6 _ _ hu1) (fun ps z => by cases z))
        refine ⟨la, _, _, rfl, rfl, hla8, small1000 (by show 1 ≤ 1000; decide), ?_⟩
        have T9 := tabs_list (ys := [.ref u1] ++ [.ref u2]) T8 hla8
        have kt : ∀ (G : Hp) (x l : Addr) (xs ys : List V) (zs : List V), G l = some (.lst xs) → G x = some (.tup zs) → upd G l (.lst ys) x = some (.tup zs) := fun G x l xs ys zs hg hx => by
          rw [upd_ne (ne_of hx hg (fun z => by cases z))]
          exact hx
        refine ⟨.ref la, rfl, .inl ⟨rfl, _, SqL.of upd_same⟩, word_read (z := [45, 45, 49]) T9 (by decide) (fun H' Q' h => by rw [← st_d1] at h; exact h) (fun e => by rw [no_d1] at e; cases e) (fun _ H10 H11 u3 e10 T10 s11 hu3 => ?_)⟩
        have hla11 : H11 la = some (.lst ([.ref u1] ++ [.ref u2])) := s11 _ _ (e10 _ _ upd_same (fun ps z => by cases z))
        have hu1'' : H11 u1 = some (.tup [.non, .str "bad text"]) := s11 _ _ (e10 _ _ (kt _ _ _ _ _ _ hla8 hu1') (fun ps z => by cases z))
        have hu2'' : H11 u2 = some (.tup [.non, .str "bad text"]) := s11 _ _ (e10 _ _ (kt _ _ _ _ _ _ hla8 hu2) (fun ps z => by cases z))
        refine ⟨la, _, _, rfl, rfl, hla11, small1000 (by show 2 ≤ 1000; decide), ?_⟩
        refine ⟨.int 0, rfl, rfl, _, rfl, iteT ?_⟩
        refine ⟨.ref la, rfl, sz_2 _ _, fun t0 nt0 => ⟨sz_1 _, fun l0 nl0 => ⟨l0, 3, _, rfl, rfl, upd_same, by decide, by decide, sz1000 (by show 1 * 3 ≤ 1000; decide), fun lr nlr => ?_⟩⟩⟩
        have z1 := same_new (o := .tup [.non, .str "bad text"]) nt0
        have z2 := same_new (o := .lst [.ref t0]) nl0
        have z3 := same_new (o := .lst (List.replicate (3 : Int).toNat [V.ref t0]).flatten) nlr
        have z13 := z1.trans (z2.trans z3)
        refine ⟨badsD, badsD, .lst (SqL.of (z13 _ _ upd_same)) (.cons (badD_dp (z13 _ _ (kt _ _ _ _ _ _ hla11 hu1''))) (.cons (badD_dp (z13 _ _ (kt _ _ _ _ _ _ hla11 hu2''))) (.cons (badD_dp (z13 _ _ (kt _ _ _ _ _ _ hla11 hu3))) .nil))),
          .lst (xs := [.ref t0, .ref t0, .ref t0]) (SqL.of upd_same) (.cons (badD_dp (z3 _ _ (z2 _ _ upd_same))) (.cons (badD_dp (z3 _ _ (z2 _ _ upd_same))) (.cons (badD_dp (z3 _ _ (z2 _ _ upd_same))) .nil))), badsD_shaped, badsD_shaped, _, rfl, ?_⟩
        rw [badsD_eqv]
        refine iteT ⟨Nat.zero_le _, fun te nte => ⟨te, [], rfl, SqT.of upd_same, by decide, (fun n hn => by cases hn), fun H20 s20 => ⟨rfl, ?_⟩⟩⟩
        rw [show rowL [] = [] from rfl, ← st_e, decide_eq_true rfl]
        exact q _
    obtain ⟨t, h1, h2⟩ := build
    exact ⟨t, h1.nox, h2⟩
end
end HL

namespace HL
open PySem PySem.Spec PyProof.Rows L2
open LamX (Tabs TabS TabB LawAtS)
/-- whether an error of the class T is what an except clause of S takes -/
theorem exm_by {K : PySem.W.Frag} {S T : Addr} {b : Bool} (h1 : PySem.W.subIn K (.ref S) (.type "BaseException") = some true) (h2 : PySem.W.isClsIn K S = true) (h3 : PySem.W.typeIn K (.ref S) = some (.type "type"))
    (h4 : PySem.W.subIn K (.ref T) (.ref S) = some b) : PySem.W.exmOne K (.ref T) (.ref S) = some b := by
  have e1 : (PySem.W.subIn K (.ref S) (.type "BaseException") == some true) = true := by rw [h1] <;> rfl
  have e2 : ((PySem.W.clsIn K S).isSome && PySem.W.typeIn K (.ref S) == some (.type "type")) = true := by
    have h2' : (PySem.W.clsIn K S).isSome = true := h2
    rw [h2', h3] <;> rfl
  show (if (PySem.W.subIn K (.ref S) (.type "BaseException") == some true) = true then (if ((PySem.W.clsIn K S).isSome && PySem.W.typeIn K (.ref S) == some (.type "type")) = true then PySem.W.subIn K (.ref T) (.ref S) else none) else none) = some b
  rw [if_pos e1, if_pos e2]
  exact h4
theorem all_mk {l : PySem.W.OpenLaw} {w : World} {K : PySem.W.Frag} {h : Heap} {mg : Str → Option Value} {fa : Addr} (X : K.In h) (G : h.Ns mainGlobals mg) (hfa : mg "law" = some (.ref fa))
    {f0 : Addr} {oc0 kV0 dc0 pm0 cd0 ct0 : Value} {od0 an0 : Option Addr} {sl0 : Array (Option Value)}
    {f1 : Addr} {oc1 kV1 dc1 pm1 cd1 ct1 : Value} {od1 an1 : Option Addr} {sl1 : Array (Option Value)}
    {f2 : Addr} {oc2 kV2 dc2 pm2 cd2 ct2 : Value} {od2 an2 : Option Addr} {sl2 : Array (Option Value)}
    {f3 : Addr} {oc3 kV3 dc3 pm3 cd3 ct3 : Value} {od3 an3 : Option Addr} {sl3 : Array (Option Value)}
    {f4 : Addr} {oc4 kV4 dc4 pm4 cd4 ct4 : Value} {od4 an4 : Option Addr} {sl4 : Array (Option Value)}
    {f5 : Addr} {oc5 kV5 dc5 pm5 cd5 ct5 : Value} {od5 an5 : Option Addr} {sl5 : Array (Option Value)}
    {f6 : Addr} {oc6 kV6 dc6 pm6 cd6 ct6 : Value} {od6 an6 : Option Addr} {sl6 : Array (Option Value)}
    {f7 : Addr} {oc7 kV7 dc7 pm7 cd7 ct7 : Value} {od7 an7 : Option Addr} {sl7 : Array (Option Value)}
    {f8 : Addr} {oc8 kV8 dc8 pm8 cd8 ct8 : Value} {od8 an8 : Option Addr} {sl8 : Array (Option Value)}
    {f9 : Addr} {oc9 kV9 dc9 pm9 cd9 ct9 : Value} {od9 an9 : Option Addr} {sl9 : Array (Option Value)}
    {f10 : Addr} {oc10 kV10 dc10 pm10 cd10 ct10 : Value} {od10 an10 : Option Addr} {sl10 : Array (Option Value)}
    {fL cL Pt : Addr} {ocL kVL dcL pmL ctL : Value} {odL anL : Option Addr} {slL : Array (Option Value)}
    {C1 CE1 fI1 N1 : Addr} {nm1 q1 : Str} {bs1 : List Value} {sn1 : List Str} {sub1 : List Value} {ab1 : Bool} {col1 : Option Bool} {dd1 : Option Addr} {m01 m11 m21 m31 m51 : Option Value} {ocI1 kVI1 dcI1 pmI1 cdI1 ctI1 : Value} {odI1 anI1 : Option Addr} {slI1 : Array (Option Value)}
    {E1 E2 E3 : Addr}
    {t6 t5 : Tok}
    (hTab : h.get? Pt = some (PySem.W.tabObj #[]))
    (a0 : PySem.W.nsIn K mainGlobals "row_text" = some (some (.ref f0)))
    (l0 : K.lookup f0 = some ⟨oc0, od0, .func (PySem.W.fnOf "row_text" "row_text" (defArgs sRowText) (defBody sRowText) (defScope sRowText) .none kV0 dc0 pm0 an0 cd0 ct0), sl0⟩)
    (c0 : PySem.W.codeIn K cd0 "row_text" = true)
    (k0 : PySem.W.keepIn K (.ref f0) = true)
    (a1 : PySem.W.nsIn K mainGlobals "is_number" = some (some (.ref f1)))
    (l1 : K.lookup f1 = some ⟨oc1, od1, .func (PySem.W.fnOf "is_number" "is_number" (defArgs sIsNum) (defBody sIsNum) (defScope sIsNum) .none kV1 dc1 pm1 an1 cd1 ct1), sl1⟩)
    (c1 : PySem.W.codeIn K cd1 "is_number" = true)
    (k1 : PySem.W.keepIn K (.ref f1) = true)
    (a2 : PySem.W.nsIn K mainGlobals "read_row" = some (some (.ref f2)))
    (l2 : K.lookup f2 = some ⟨oc2, od2, .func (PySem.W.fnOf "read_row" "read_row" (defArgs sReadRow) (defBody sReadRow) (defScope sReadRow) .none kV2 dc2 pm2 an2 cd2 ct2), sl2⟩)
    (c2 : PySem.W.codeIn K cd2 "read_row" = true)
    (k2 : PySem.W.keepIn K (.ref f2) = true)
    (a3 : PySem.W.nsIn K mainGlobals "_law_feed" = some (some (.ref f3)))
    (l3 : K.lookup f3 = some ⟨oc3, od3, .func (PySem.W.fnOf "_law_feed" "_law_feed" (defArgs sFeed) (defBody sFeed) (defScope sFeed) .none kV3 dc3 pm3 an3 cd3 ct3), sl3⟩)
    (c3 : PySem.W.codeIn K cd3 "_law_feed" = true)
    (k3 : PySem.W.keepIn K (.ref f3) = true)
    (a4 : PySem.W.nsIn K mainGlobals "_law_draw" = some (some (.ref f4)))
    (l4 : K.lookup f4 = some ⟨oc4, od4, .func (PySem.W.fnOf "_law_draw" "_law_draw" (defArgs sDraw) (defBody sDraw) (defScope sDraw) .none kV4 dc4 pm4 an4 cd4 ct4), sl4⟩)
    (c4 : PySem.W.codeIn K cd4 "_law_draw" = true)
    (k4 : PySem.W.keepIn K (.ref f4) = true)
    (a5 : PySem.W.nsIn K mainGlobals "_law_pick" = some (some (.ref f5)))
    (l5 : K.lookup f5 = some ⟨oc5, od5, .func (PySem.W.fnOf "_law_pick" "_law_pick" (defArgs sPick) (defBody sPick) (defScope sPick) .none kV5 dc5 pm5 an5 cd5 ct5), sl5⟩)
    (c5 : PySem.W.codeIn K cd5 "_law_pick" = true)
    (k5 : PySem.W.keepIn K (.ref f5) = true)
    (a6 : PySem.W.nsIn K mainGlobals "_law_same" = some (some (.ref f6)))
    (l6 : K.lookup f6 = some ⟨oc6, od6, .func (PySem.W.fnOf "_law_same" "_law_same" (defArgs sSame) (defBody sSame) (defScope sSame) .none kV6 dc6 pm6 an6 cd6 ct6), sl6⟩)
    (c6 : PySem.W.codeIn K cd6 "_law_same" = true)
    (k6 : PySem.W.keepIn K (.ref f6) = true)
    (a7 : PySem.W.nsIn K mainGlobals "_law_word" = some (some (.ref f7)))
    (l7 : K.lookup f7 = some ⟨oc7, od7, .func (PySem.W.fnOf "_law_word" "_law_word" (defArgs sWord) (defBody sWord) (defScope sWord) .none kV7 dc7 pm7 an7 cd7 ct7), sl7⟩)
    (c7 : PySem.W.codeIn K cd7 "_law_word" = true)
    (k7 : PySem.W.keepIn K (.ref f7) = true)
    (a8 : PySem.W.nsIn K mainGlobals "_law_great" = some (some (.ref f8)))
    (l8 : K.lookup f8 = some ⟨oc8, od8, .func (PySem.W.fnOf "_law_great" "_law_great" (defArgs sGreat) (defBody sGreat) (defScope sGreat) .none kV8 dc8 pm8 an8 cd8 ct8), sl8⟩)
    (c8 : PySem.W.codeIn K cd8 "_law_great" = true)
    (k8 : PySem.W.keepIn K (.ref f8) = true)
    (a9 : PySem.W.nsIn K mainGlobals "_law_row_text" = some (some (.ref f9)))
    (l9 : K.lookup f9 = some ⟨oc9, od9, .func (PySem.W.fnOf "_law_row_text" "_law_row_text" (defArgs sRowTextL) (defBody sRowTextL) (defScope sRowTextL) .none kV9 dc9 pm9 an9 cd9 ct9), sl9⟩)
    (c9 : PySem.W.codeIn K cd9 "_law_row_text" = true)
    (k9 : PySem.W.keepIn K (.ref f9) = true)
    (a10 : PySem.W.nsIn K mainGlobals "_law_number_in" = some (some (.ref f10)))
    (l10 : K.lookup f10 = some ⟨oc10, od10, .func (PySem.W.fnOf "_law_number_in" "_law_number_in" (defArgs sNumIn) (defBody sNumIn) (defScope sNumIn) .none kV10 dc10 pm10 an10 cd10 ct10), sl10⟩)
    (c10 : PySem.W.codeIn K cd10 "_law_number_in" = true)
    (k10 : PySem.W.keepIn K (.ref f10) = true)
    (aL : PySem.W.nsIn K mainGlobals "law" = some (some (.ref fL)))
    (lL : K.lookup fL = some ⟨ocL, odL, .func (PySem.W.fnOf "law" "law" (defArgs sLaw) (defBody sLaw) (defScope sLaw) .none kVL dcL pmL anL (.ref cL) ctL), slL⟩)
    (cdL : PySem.W.codeIn K (.ref cL) "law" = true)
    (nP : K.lookup Pt = none)
    (hd : PySem.W.codeHdIn K cL Pt = true)
    (aC1 : PySem.W.nsIn K mainGlobals "BadText" = some (some (.ref C1)))
    (xL1 : K.lookup C1 = some (excClassObj nm1 q1 C1 N1 bs1 [.ref CE1, .type "ValueError", .type "Exception", .type "BaseException", .type "object"] true sn1 sub1 ab1 col1 dd1 m01 m11 m21 m31 m51 "ValueError.__new__"))
    (sa1 : PySem.W.findIn K (.ref C1) "__setattr__" = some (some (.builtin "object.__setattr__")))
    (ga1 : PySem.W.findIn K (.ref C1) "__getattribute__" = some (some (.builtin "BaseException.__getattribute__")))
    (gg1 : PySem.W.findIn K (.ref C1) "__getattr__" = some none)
    (nW1 : PySem.W.findIn K (.ref C1) "word" = some none)
    (nF1 : PySem.W.findIn K (.ref C1) "at" = some none)
    (aI1 : PySem.W.findIn K (.ref C1) "__init__" = some (some (.ref fI1)))
    (tI1 : PySem.W.typeIn K (.ref fI1) = some (.type "function"))
    (lI1 : K.lookup fI1 = some ⟨ocI1, odI1, .func (PySem.W.fnOf "__init__" "BadText.__init__" (defArgs sTextInit) (defBody sTextInit) (defScope sTextInit) .none kVI1 dcI1 pmI1 anI1 cdI1 ctI1), slI1⟩)
    (cI1 : PySem.W.codeIn K cdI1 "BadText.__init__" = true)
    (kI1 : PySem.W.keepIn K (.ref fI1) = true)
    (kC1 : PySem.W.keepIn K (.ref C1) = true)
    (eC1 : PySem.W.subIn K (.ref C1) (.type "BaseException") = some true)
    (tC1 : PySem.W.typeIn K (.ref C1) = some (.type "type"))
    (hC1 : PySem.W.hasDictIn K C1 = true)
    (iC1 : PySem.W.isClsIn K C1 = true)
    (aE1 : PySem.W.nsIn K mainGlobals "LotError" = some (some (.ref E1)))
    (aE2 : PySem.W.nsIn K mainGlobals "Missing" = some (some (.ref E2)))
    (aE3 : PySem.W.nsIn K mainGlobals "NothingLeft" = some (some (.ref E3)))
    (eE1 : PySem.W.subIn K (.ref E1) (.type "BaseException") = some true)
    (iE1 : PySem.W.isClsIn K E1 = true)
    (tE1 : PySem.W.typeIn K (.ref E1) = some (.type "type"))
    (s11 : PySem.W.subIn K (.ref C1) (.ref C1) = some true)
    (s1E : PySem.W.subIn K (.ref C1) (.ref E1) = some true)
    (z_len : PySem.W.nsIn K mainGlobals "len" = some none)
    (z_list : PySem.W.nsIn K mainGlobals "list" = some none)
    (z_tuple : PySem.W.nsIn K mainGlobals "tuple" = some none)
    (z_dict : PySem.W.nsIn K mainGlobals "dict" = some none)
    (z_str : PySem.W.nsIn K mainGlobals "str" = some none)
    (z_int : PySem.W.nsIn K mainGlobals "int" = some none)
    (z_bool : PySem.W.nsIn K mainGlobals "bool" = some none)
    (z_isinstance : PySem.W.nsIn K mainGlobals "isinstance" = some none)
    (z_all : PySem.W.nsIn K mainGlobals "all" = some none)
    (z_range : PySem.W.nsIn K mainGlobals "range" = some none)
    (z_sum : PySem.W.nsIn K mainGlobals "sum" = some none)
    (z_min : PySem.W.nsIn K mainGlobals "min" = some none)
    (z_max : PySem.W.nsIn K mainGlobals "max" = some none)
    (z_enumerate : PySem.W.nsIn K mainGlobals "enumerate" = some none)
    (v6 : PySem.W.nsIn K mainGlobals "FIGURES" = some (some (.str "0123456789" t6)))
    (v5 : PySem.W.nsIn K mainGlobals "MOST_FIGURES" = some (some (.int 30 t5)))
    : LawAtS l w K CX0 9 63 "_law_script" mg fa h := by
  have e := hfa.symm.trans (PySem.W.mg_of X G aL)
  cases e
  have F0 := fun_mk (st := sRowText) l0 c0 k0
  have b0 := F0.binds (ps := ["row"]) fun _ _ _ _ _ _ us hl => match us, hl with | [_], _ => rfl
  have g0 := PySem.W.mg_of X G a0
  have F1 := fun_mk (st := sIsNum) l1 c1 k1
  have b1 := F1.binds (ps := ["word"]) fun _ _ _ _ _ _ us hl => match us, hl with | [_], _ => rfl
  have g1 := PySem.W.mg_of X G a1
  have F2 := fun_mk (st := sReadRow) l2 c2 k2
  have b2 := F2.binds (ps := ["text"]) fun _ _ _ _ _ _ us hl => match us, hl with | [_], _ => rfl
  have g2 := PySem.W.mg_of X G a2
  have F3 := fun_mk (st := sFeed) l3 c3 k3
  have b3 := F3.binds (ps := ["_law_script"]) fun _ _ _ _ _ _ us hl => match us, hl with | [_], _ => rfl
  have g3 := PySem.W.mg_of X G a3
  have F4 := fun_mk (st := sDraw) l4 c4 k4
  have b4 := F4.binds (ps := ["_law_feed_here", "_law_many"]) fun _ _ _ _ _ _ us hl => match us, hl with | [_, _], _ => rfl
  have g4 := PySem.W.mg_of X G a4
  have F5 := fun_mk (st := sPick) l5 c5 k5
  have b5 := F5.binds (ps := ["_law_feed_here", "_law_row"]) fun _ _ _ _ _ _ us hl => match us, hl with | [_, _], _ => rfl
  have g5 := PySem.W.mg_of X G a5
  have F6 := fun_mk (st := sSame) l6 c6 k6
  have b6 := F6.binds (ps := ["_law_found", "_law_due"]) fun _ _ _ _ _ _ us hl => match us, hl with | [_, _], _ => rfl
  have g6 := PySem.W.mg_of X G a6
  have F7 := fun_mk (st := sWord) l7 c7 k7
  have b7 := F7.binds (ps := ["_law_ask"]) fun _ _ _ _ _ _ us hl => match us, hl with | [_], _ => rfl
  have g7 := PySem.W.mg_of X G a7
  have F8 := fun_mk (st := sGreat) l8 c8 k8
  have b8 := F8.binds (ps := ["_law_feed_here"]) fun _ _ _ _ _ _ us hl => match us, hl with | [_], _ => rfl
  have g8 := PySem.W.mg_of X G a8
  have F9 := fun_mk (st := sRowTextL) l9 c9 k9
  have b9 := F9.binds (ps := ["_law_row"]) fun _ _ _ _ _ _ us hl => match us, hl with | [_], _ => rfl
  have g9 := PySem.W.mg_of X G a9
  have F10 := fun_mk (st := sNumIn) l10 c10 k10
  have b10 := F10.binds (ps := ["_law_word_here"]) fun _ _ _ _ _ _ us hl => match us, hl with | [_], _ => rfl
  have g10 := PySem.W.mg_of X G a10
  have FI1 := fun_mk (st := sTextInit) lI1 cI1 kI1
  have bI1 := FI1.binds (ps := ["self", "at"]) fun _ _ _ _ _ _ us hl => match us, hl with | [_, _], _ => rfl
  have ox1 : OexC K C1 := ⟨⟨nm1, q1, N1, bs1, _, sn1, sub1, ab1, col1, dd1, m01, m11, m21, m31, m51, xL1, (show PySem.HandSPX.refsVE [.type "ValueError", .type "Exception", .type "BaseException", .type "object"] = true by decide +kernel)⟩, sa1, eC1, tC1, kC1⟩
  have kk1 : Cls2 K C1 "at" := ⟨ox1, nW1, nF1⟩
  have B : Bl mg := ⟨PySem.W.mg_none_of X G z_len, PySem.W.mg_none_of X G z_list, PySem.W.mg_none_of X G z_tuple, PySem.W.mg_none_of X G z_dict, PySem.W.mg_none_of X G z_str, PySem.W.mg_none_of X G z_int, PySem.W.mg_none_of X G z_bool, PySem.W.mg_none_of X G z_isinstance, PySem.W.mg_none_of X G z_all, PySem.W.mg_none_of X G z_range, PySem.W.mg_none_of X G z_sum, PySem.W.mg_none_of X G z_min, PySem.W.mg_none_of X G z_max, PySem.W.mg_none_of X G z_enumerate⟩
  have M : Consts mg := ⟨⟨_, PySem.W.mg_of X G v6⟩, ⟨_, PySem.W.mg_of X G v5⟩⟩
  have kbT : KBn K (PySem.W.fnOf "read_row" "read_row" (defArgs sReadRow) (defBody sReadRow) (defScope sReadRow) .none kV2 dc2 pm2 an2 cd2 ct2) ["text"] 0 ["text"] (fun _ ws => ws) (fun _ zs => zs) := ⟨fun s us ws _ h1 h2 => by
    match us, ws, h1, h2 with
    | [], [w1], _, _ => exact .of_eq rfl, fun _ r => r⟩
  refine ⟨PySem.W.fnOf "law" "law" (defArgs sLaw) (defBody sLaw) (defScope sLaw) .none kVL dcL pmL anL (.ref cL) ctL, [(cL, Pt)], spLaw K Pt, fun p hp => ?_, fun p hp => ?_, fun p hp => ?_, fun s u => .of_eq rfl, fun H a ns hl _ hH hS => ⟨a, ns, rfl, hS, hl, fun p hp => ?_, fun _ => rfl⟩, fun base KB GB TB => ?_⟩
  · rw [List.mem_singleton.mp hp]; exact hTab
  · rw [List.mem_singleton.mp hp]; exact nP
  · rw [List.mem_singleton.mp hp]; exact PySem.W.codeHd_of_K X hd
  · rw [List.mem_singleton.mp hp]; exact TabS.nil (hH (cL, Pt) List.mem_cons_self)
  · have Tb := TB (cL, Pt) List.mem_cons_self
    have cDraw : Cal l.prog w K mg base CX0 1 "_law_draw" ["_law_feed_here", "_law_many"] spDraw := ⟨⟨f4, _, ok_draw F4 B.len, g4, k4, b4⟩⟩
    have cPick : Cal l.prog w K mg base CX0 2 "_law_pick" ["_law_feed_here", "_law_row"] spPick := ⟨⟨f5, _, ok_pick F5 B.len cDraw, g5, k5, b5⟩⟩
    have cGr : Cal l.prog w K mg base CX0 3 "_law_great" ["_law_feed_here"] spGreat := ⟨⟨f8, _, ok_great F8 cDraw cPick, g8, k8, b8⟩⟩
    have cIN : Cal l.prog w K mg base CX0 1 "is_number" ["word"] spIsNum := ⟨⟨f1, _, ok_isNum F1 B M, g1, k1, b1⟩⟩
    have bad1 : BadTxt l.prog w K mg base "BadText" C1 "at" "bad text" := ⟨kk1, PySem.W.mg_of X G aC1, fI1, _, aI1, tI1, ok_textInit FI1 kk1, bI1⟩
    have T : Txt l.prog w K mg base C1 E1 E2 E3 := {
        B := B
        feed := ⟨⟨f3, _, ok_feed F3 B.list, g3, k3, b3⟩⟩
        draw := cDraw
        pick := cPick
        great := cGr
        rtl := ⟨⟨f9, _, ok_rowTextL F9 B, g9, k9, b9⟩⟩
        numIn := ⟨⟨f10, _, ok_numIn F10 B, g10, k10, b10⟩⟩
        same2 := ⟨⟨f6, _, ok_same F6 B g6 b6 2, g6, k6, b6⟩⟩
        rt := ⟨⟨f0, _, ok_rowText F0 B, g0, k0, b0⟩⟩
        rr := ⟨f2, _, ok_readRow F2 B bad1 cIN, g2, k2, b2, kbT⟩
        word := ⟨f7, oc7, od7, kV7, dc7, pm7, an7, cd7, ct7, sl7, g7, k7, l7, c7, b7⟩
        cls := {
          gC := PySem.W.mg_of X G aC1
          gE := PySem.W.mg_of X G aE1
          gM := PySem.W.mg_of X G aE2
          gN := PySem.W.mg_of X G aE3
          x := ⟨ga1, gg1, eC1, hC1⟩
          nW := nW1
          nA := nF1
          ce := exm_by eE1 iE1 tE1 s1E
          cc := exm_by eC1 iC1 tC1 s11 } }
    exact ok_law lL cdL T Tb
end HL

open PySem PySem.W PyProof.Rows
set_option maxHeartbeats 0 in
theorem PySem.Challenge.cw_hamperlot_k05_rows_written_and_read_holds : PySem.Challenge.rw_hamperlot_k05_rows_written_and_read.Holds := by
  w_on; o_law; k_head; (case hw => w_witness2)
  k_fill
  refine LamX.walk_ofTs (l := PySem.Challenge.rw_hamperlot_k05_rows_written_and_read) (n := 63) (k := 9) (x := "_law_script") (CX := fun _ => L2.CX0) rfl (by decide) rfl ⟨rfl, by decide, by decide⟩ (fun w h Y => PySem.W.km_in_of Y) ?F (fun _ _ _ _ _ h => h)
  case F =>
    intro w mg fa h Y KX G hmg
    refine' HL.all_mk KX G hmg (PySem.W.km_tabs_of Y _ List.mem_cons_self) ?a0 ?l0 ?c0 ?k0 ?a1 ?l1 ?c1 ?k1 ?a2 ?l2 ?c2 ?k2 ?a3 ?l3 ?c3 ?k3 ?a4 ?l4 ?c4 ?k4 ?a5 ?l5 ?c5 ?k5 ?a6 ?l6 ?c6 ?k6 ?a7 ?l7 ?c7 ?k7 ?a8 ?l8 ?c8 ?k8 ?a9 ?l9 ?c9 ?k9 ?a10 ?l10 ?c10 ?k10 ?aL ?lL ?cdL ?nP ?hd ?aC1 ?xL1 ?sa1 ?ga1 ?gg1 ?nW1 ?nF1 ?aI1 ?tI1 ?lI1 ?cI1 ?kI1 ?kC1 ?eC1 ?tC1 ?hC1 ?iC1 ?aE1 ?aE2 ?aE3 ?eE1 ?iE1 ?tE1 ?s11 ?s1E ?z_len ?z_list ?z_tuple ?z_dict ?z_str ?z_int ?z_bool ?z_isinstance ?z_all ?z_range ?z_sum ?z_min ?z_max ?z_enumerate ?v6 ?v5
    (case a0 => first | k_is | rfl)
    (case l0 => first | k_is | rfl)
    (case c0 => first | k_is | rfl)
    (case k0 => first | k_is | rfl)
    (case a1 => first | k_is | rfl)
    (case l1 => first | k_is | rfl)
    (case c1 => first | k_is | rfl)
    (case k1 => first | k_is | rfl)
    (case a2 => first | k_is | rfl)
    (case l2 => first | k_is | rfl)
    (case c2 => first | k_is | rfl)
    (case k2 => first | k_is | rfl)
    (case a3 => first | k_is | rfl)
    (case l3 => first | k_is | rfl)
    (case c3 => first | k_is | rfl)
    (case k3 => first | k_is | rfl)
    (case a4 => first | k_is | rfl)
    (case l4 => first | k_is | rfl)
    (case c4 => first | k_is | rfl)
    (case k4 => first | k_is | rfl)
    (case a5 => first | k_is | rfl)
    (case l5 => first | k_is | rfl)
    (case c5 => first | k_is | rfl)
    (case k5 => first | k_is | rfl)
    (case a6 => first | k_is | rfl)
    (case l6 => first | k_is | rfl)
    (case c6 => first | k_is | rfl)
    (case k6 => first | k_is | rfl)
    (case a7 => first | k_is | rfl)
    (case l7 => first | k_is | rfl)
    (case c7 => first | k_is | rfl)
    (case k7 => first | k_is | rfl)
    (case a8 => first | k_is | rfl)
    (case l8 => first | k_is | rfl)
    (case c8 => first | k_is | rfl)
    (case k8 => first | k_is | rfl)
    (case a9 => first | k_is | rfl)
    (case l9 => first | k_is | rfl)
    (case c9 => first | k_is | rfl)
    (case k9 => first | k_is | rfl)
    (case a10 => first | k_is | rfl)
    (case l10 => first | k_is | rfl)
    (case c10 => first | k_is | rfl)
    (case k10 => first | k_is | rfl)
    (case aL => first | k_is | rfl)
    (case lL => first | k_is | rfl)
    (case cdL => first | k_is | rfl)
    (case nP => first | k_is | rfl)
    (case hd => first | k_is | rfl)
    (case aC1 => first | k_is | rfl)
    (case xL1 => first | k_is | rfl)
    (case sa1 => first | k_is | rfl)
    (case ga1 => first | k_is | rfl)
    (case gg1 => first | k_is | rfl)
    (case nW1 => first | k_is | rfl)
    (case nF1 => first | k_is | rfl)
    (case aI1 => first | k_is | rfl)
    (case tI1 => first | k_is | rfl)
    (case lI1 => first | k_is | rfl)
    (case cI1 => first | k_is | rfl)
    (case kI1 => first | k_is | rfl)
    (case kC1 => first | k_is | rfl)
    (case eC1 => first | k_is | rfl)
    (case tC1 => first | k_is | rfl)
    (case hC1 => first | k_is | rfl)
    (case iC1 => first | k_is | rfl)
    (case aE1 => first | k_is | rfl)
    (case aE2 => first | k_is | rfl)
    (case aE3 => first | k_is | rfl)
    (case eE1 => first | k_is | rfl)
    (case iE1 => first | k_is | rfl)
    (case tE1 => first | k_is | rfl)
    (case s11 => first | k_is | rfl)
    (case s1E => first | k_is | rfl)
    (case z_len => first | k_is | rfl)
    (case z_list => first | k_is | rfl)
    (case z_tuple => first | k_is | rfl)
    (case z_dict => first | k_is | rfl)
    (case z_str => first | k_is | rfl)
    (case z_int => first | k_is | rfl)
    (case z_bool => first | k_is | rfl)
    (case z_isinstance => first | k_is | rfl)
    (case z_all => first | k_is | rfl)
    (case z_range => first | k_is | rfl)
    (case z_sum => first | k_is | rfl)
    (case z_min => first | k_is | rfl)
    (case z_max => first | k_is | rfl)
    (case z_enumerate => first | k_is | rfl)
    (case v6 => first | k_is | rfl)
    (case v5 => first | k_is | rfl)

