import PyProof.Rows.All
import Wide.All
import OpenK.AllK
import Wide.FinOn
import PyProof.InstNe
import HandS.ForMost
import HandS.Wide
import HandS.WideBits
import HandS.Gcd
import HandS.IsInst
import HandS.DictEq
import HandS.DictComp
import HandS.ListItems
import HandS.Defaults
import HandS.SlotsOwn
import HandS.Style
import HandS.Head0
import HandS.Head1
import HandS.Head2
import HandS.HeadEnd
import HandS.HeadHook1
import HandS.HeadHook2
import HandS.WordsList
import PyProof.ReprRoads
import HandS.Head3
import KE.DatumIndex
import PyProof.ReprBulk
import PyProof.Rows.RegStrFacts
import HandS.MakeKw
import HandS.ForExc
import HandS.ExcValue
import HandS.ExcIs
import HandS.MakeKwOnly
import HandS.SortInts
import KE.KDictDisplayH
import KE.KDictCopyH
import KE.KOpsOwn
import HandS.CallSlots
import KE.LtData
import HandS.WordsDict
import HandS.Finally
import HandS.HeadHook3
import HandS.WrittenGet
import HandS.SortKw
import HandS.TupAny
import HandS.Zip
import HandS.Walk
import KE.DatumOrd
import HandS.Set
import HandS.SetBool
import HandS.Strs
import KE.KSuperObj
import PyProof.Rows.SetFrom
import HandS.SetFor
import HandS.Star
import HandS.Text
import KE.KDictPairs
import PySem.Challenge.RW_prepaidplans_k10_names_and_task_paths
set_option Elab.async false
set_option linter.all false
set_option maxRecDepth 100000
set_option maxHeartbeats 4000000
namespace Q7
open PySem PySem.Spec PyProof.Rows L2

/-! ### reading an item of a list, for an augmented store -/
def rGetL (K : PySem.W.Frag) : V → V → Hp → VK → Prop := fun o i H Q => ∃ p xs k v, o = .ref p ∧ i = .int k ∧ SqL K H p xs ∧ 0 ≤ k ∧ xs[k.toNat]? = some v ∧ Q v H
theorem get_list {X : Cx} : PGet X (rGetL X.K) := by
  intro pins s σ H o i ov iv Q I ro ri h
  obtain ⟨p, xs, k, z, rfl, rfl, hs, h0, hx, q⟩ := h
  cases ro
  obtain ⟨t, rfl⟩ := ri
  obtain ⟨its, r, pl, hz⟩ := I.list hs
  obtain ⟨u, eu, ru⟩ := r.get hx
  have hk : k.toNat < xs.length := (List.getElem?_eq_some_iff.mp hx).1
  have hl := line63
  have hsz := sizeLine_eq
  exact wpAny_getItem_list pl.isList h0 (by omega) (by simpa using eu) ⟨z, H, I, ru, q⟩

/-! ### list + list where the operands are only read -/
def rCatS (K : PySem.W.Frag) : R2 := fun x y H Q => ∃ l b xs zs, x = .ref l ∧ y = .ref b ∧ SqL K H l xs ∧ SqL K H b zs ∧ xs.length + zs.length ≤ sizeLine ∧ ∀ p, H p = none → Q (.ref p) (upd H p (.lst (xs ++ zs)))
theorem op_catS {X : Cx} : OpR X (binaryOp .Add) (rCatS X.K) := by
  intro pins s σ H x y v u Q I rx ry h
  obtain ⟨l, b, xs, zs, rfl, rfl, hl, hb, hz, q⟩ := h
  cases rx
  cases ry
  obtain ⟨its, r, pl, _⟩ := I.list hl
  obtain ⟨its2, r2, pl2, _⟩ := I.list hb
  obtain ⟨⟨c1, d1, t1, s1⟩, n1, e1, k1, j1, g1⟩ := pl
  obtain ⟨⟨c2, d2, t2, s2⟩, n2, e2, k2, j2, g2⟩ := pl2
  simp only at k1 j1 g1 k2 j2 g2
  subst k1 g1 k2 g2
  have hl1 := r.length
  have hl2 := r2.length
  have ea : its.toArray ++ its2.toArray = (its ++ its2).toArray := by simp
  refine concat_meets ⟨_, e1, rfl⟩ ⟨_, e2, rfl⟩ noFill_list_add seq_list_add PySem.F.slot_list_add PySem.F.entry_list_add (PySem.F.args_list_add_2 _ _)
    (list_addW l b its.toArray its2.toArray n1 n2 d1 d2 s1 s2 (by simp only [List.size_toArray]; omega)) ⟨e1, e2, ?_⟩
  rw [ea]
  exact ⟨.ref _, _, I.lnew (t' := s.toks) (r.append r2) (by rw [List.length_append]; omega), rfl, q _ I.fresh⟩

/-! ### operators of the program's own class -/
section
variable {X : Cx} {CX : CXT} {n : Nat} {g C : Addr} {fd : FuncData} {ps : List Str} {sp : Sp} {E : XK}
/-- x op y, both instances of the class at C, whose method for op keeps sp -/
def rOwn2 (C : Addr) (sp : Sp) (E : XK) : R2 := fun x y H Q => ∃ a dx fs b dy gs, x = .ref a ∧ y = .ref b ∧ H a = some (.ins C dx fs) ∧ H b = some (.ins C dy gs) ∧ sp [x, y] H Q E
theorem look2 {pins : List (Addr × Obj)} {s : Shared} {σ : L2.St} {H : Hp} {a dx : Addr} {fs : List (Str × V)} (I : Inv X pins σ H s) (h : H a = some (.ins C dx fs)) : ∃ ox od, PySem.W.InstAt s.heap a ox C od := by
  obtain ⟨mA, O, _⟩ := ins_get I.hok h
  obtain ⟨od, J, _⟩ := O.look
  exact ⟨_, _, J⟩
theorem op_own2 {op : Operator} (hc : PySem.W.selfFirst X.K C = true) (hs : PySem.W.findIn X.K (.ref C) (PySem.dunder op.info.2) = some (some (.ref g))) (hf : PySem.W.isFn X.K (.ref g) = true)
    (F : FnOk X.prog X.w X.K X.mg X.base CX n g fd ps sp) (hr : Room n X.A) (hb : Binds X.K fd ps []) (hx : Passes CX X E) : OpR X (binaryOp op) (rOwn2 C sp E) := by
  intro pins s σ H x y v u Q I rx ry h
  obtain ⟨a, dx, fs, b, dy, gs, rfl, rfl, ha, hb', q⟩ := h
  cases rx
  cases ry
  obtain ⟨ox, od, J⟩ := look2 I ha
  obtain ⟨oy, od', J'⟩ := look2 I hb'
  obtain ⟨m, hF⟩ := I.fr
  refine PySem.W.binop_K hF I.ok.mod.kin J J'.type hc hs hf ?_
  refine wpAny_mono (run_fn (us := [.ref a, .ref b]) (vs := [.ref a, .ref b]) F hr hb .nil hx I (.cons rfl (.cons rfl .nil)) q) (fun w s' z => ?_) fun _ _ z => z
  obtain ⟨z', H', I', rz, qz⟩ := z
  exact SlX.cmpback rz ⟨z', H', I', rz, qz⟩
theorem op_ownEq (hs : PySem.W.findIn X.K (.ref C) "__eq__" = some (some (.ref g))) (hf : PySem.W.isFn X.K (.ref g) = true)
    (F : FnOk X.prog X.w X.K X.mg X.base CX n g fd ps sp) (hr : Room n X.A) (hb : Binds X.K fd ps []) (hx : Passes CX X E) : OpR X (compareOp .Eq) (rOwn2 C sp E) := by
  intro pins s σ H x y v u Q I rx ry h
  obtain ⟨a, dx, fs, b, dy, gs, rfl, rfl, ha, hb', q⟩ := h
  cases rx
  cases ry
  obtain ⟨ox, od, J⟩ := look2 I ha
  obtain ⟨oy, od', J'⟩ := look2 I hb'
  obtain ⟨m, hF⟩ := I.fr
  unfold compareOp
  refine PySem.W.cmp_K (op := .Eq) (tb := .ref C) hr.units0 hF I.ok.mod.kin J J'.type (by simp [PySem.W.notFirst]) hs hf ?_
  refine wpAny_mono (run_fn (us := [.ref a, .ref b]) (vs := [.ref a, .ref b]) F hr hb .nil hx I (.cons rfl (.cons rfl .nil)) q) (fun w s' z => ?_) fun _ _ z => z
  obtain ⟨z', H', I', rz, qz⟩ := z
  exact SlX.cmpback rz ⟨z', H', I', rz, qz⟩
/-- x in y, y an instance of the class at C whose __contains__ keeps sp and hands back a bool -/
def rOwnIn (C : Addr) (sp : Sp) (E : XK) : R2 := fun x y H Q => ∃ b dy gs, y = .ref b ∧ H b = some (.ins C dy gs) ∧ sp [y, x] H (fun v H' => ∃ k, v = .bl k ∧ Q (.bl k) H') E
theorem op_ownIn (hs : PySem.W.findIn X.K (.ref C) "__contains__" = some (some (.ref g))) (hf : PySem.W.isFn X.K (.ref g) = true)
    (F : FnOk X.prog X.w X.K X.mg X.base CX n g fd ps sp) (hr : Room n X.A) (hb : Binds X.K fd ps []) (hx : Passes CX X E) : OpR X (compareOp .In) (rOwnIn C sp E) := by
  intro pins s σ H x y v u Q I rx ry h
  obtain ⟨b, dy, gs, rfl, hb', q⟩ := h
  cases ry
  obtain ⟨ox, od, J⟩ := look2 I hb'
  obtain ⟨m, hF⟩ := I.fr
  refine PySem.W.in_K hF I.ok.mod.kin J hs hf ?_
  refine wpAny_mono (run_fn (us := [.ref b, v]) (vs := [.ref b, x]) F hr hb .nil hx I (.cons rfl (.cons rx .nil)) q) (fun w s' z => ?_) fun _ _ z => z
  obtain ⟨z', H', I', rz, k, rfl, qz⟩ := z
  cases rz
  exact wpAny_truthy_bool ⟨.bl k, H', I', rfl, qz⟩
/-- len(x), x an instance of the class at C whose __len__ keeps sp -/
def rOwnLen (C : Addr) (sp : Sp) (E : XK) : List V → Hp → VK → Prop := fun xs H Q => ∃ a dx fs, xs = [.ref a] ∧ H a = some (.ins C dx fs) ∧ sp [.ref a] H (fun v H' => ∃ k : Int, v = .int k ∧ 0 ≤ k ∧ k < 2 ^ 63 ∧ Q (.int k) H') E
theorem Env0.in1' {P : Program} {w : World} {K : PySem.W.Frag} {mg : Str → Option Value} {base : Heap} {A : Around} {outer : List Env} {s : Shared} {H : Hp} (e : Env0 P w K mg base A outer s H) : Env0 P w K mg base A.in1 outer s H := e.in1
theorem call_ownLen (hs : PySem.W.findIn X.K (.ref C) "__len__" = some (some (.ref g))) (hf : PySem.W.isFn X.K (.ref g) = true)
    (F : FnOk X.prog X.w X.K X.mg X.base CX n g fd ps sp) (hr : Room (n + 1) X.A) (hb : Binds X.K fd ps []) (hx : ∀ H s e s', CX X.stack H s E e s' → False) : CallR X (.builtin "len") (rOwnLen C sp E) := by
  intro pins s σ H xs us Q I r h
  obtain ⟨a, dx, fs, rfl, ha, q⟩ := h
  obtain ⟨u, rfl, rx⟩ := vals1 r
  cases rx
  obtain ⟨ox, od, J⟩ := look2 I ha
  obtain ⟨m, hF⟩ := I.fr
  refine PySem.W.len_K hF I.ok.mod.kin J hs hf ?_
  have hl := F.len _ _ _ _ q
  have r2 : Vals [V.ref a] [Value.ref a] := .cons rfl .nil
  refine wpAny_call (codeAny_mono (F.run X.A.in1 X.stack s H ⟨[.ref a], []⟩ [.ref a] [.ref a] _ E hr.in1 I.env0.in1 (by
    have := hb s [.ref a] I.kIn (by simpa using hl)
    simpa using this) r2 q) fun r s' hq => ?_)
  cases r with
  | error e => exact (hx _ _ _ _ hq).elim
  | ok fl =>
    cases fl with
    | ret w =>
      obtain ⟨z, H', I', rz, k, rfl, h0, h1, qz⟩ := I.after hq
      obtain ⟨t, rfl⟩ := rz
      exact ⟨⟨h0, h1⟩, .int k, H', I'.tok _, ⟨_, rfl⟩, qz⟩
    | next => exact False.elim hq
    | brk => exact False.elim hq
    | cont => exact False.elim hq
end

/-! ### != by an own __eq__ (no __ne__ of the class's own) -/
structure NeTxt (K : PySem.W.Frag) (C g : Addr) : Prop where
  cls : ∃ nm q N bs sn sub ab col dd k0 k1 k2 k3 k5 nid, K.lookup C = some (excClassObj nm q C N bs [.type "object"] true sn sub ab col dd k0 k1 k2 k3 k5 nid) ∧
    PySem.W.nsOkIn K N = true ∧ PySem.W.nsIn K N "__eq__" = some (some (.ref g)) ∧ PySem.W.nsIn K N "__ne__" = some none
  fn : ∃ of, K.lookup g = some of ∧ of.cls = .type "function"
theorem ns_some_of {K : PySem.W.Frag} {h : Heap} {N : Addr} {mg : Str → Option Value} {n : Str} {v : Value} (X : K.In h) (G : h.Ns N mg) (e : PySem.W.nsIn K N n = some (some v)) : mg n = some v := by
  obtain ⟨o, es, ep, ho, hd, _, hf⟩ := G
  unfold PySem.W.nsIn at e
  split at e
  · rename_i c d es' n' sl q
    have z := X _ _ q
    rw [ho] at z
    cases z
    cases hd
    split at e
    · rename_i en he
      have ev : en.val = v := Option.some.inj (Option.some.inj e)
      rw [← hf, ← ev]
      unfold nsFind findBy
      rw [← Array.find?_toList, he]
      rfl
    · split at e <;> cases e
  · cases e
section
variable {X : Cx} {CX : CXT} {n : Nat} {g C : Addr} {fd : FuncData} {ps : List Str} {sp : Sp} {E : XK}
theorem look3 {pins : List (Addr × Obj)} {s : Shared} {σ : L2.St} {H : Hp} {a dx : Addr} {fs : List (Str × V)} (I : Inv X pins σ H s) (h : H a = some (.ins C dx fs)) : ∃ o, s.heap.get? a = some o ∧ o.cls = .ref C := by
  obtain ⟨mA, O, _⟩ := ins_get I.hok h
  exact ⟨_, O.obj, rfl⟩
def rOwnNe (C : Addr) (sp : Sp) (E : XK) : R2 := fun x y H Q => ∃ a dx fs b dy gs, x = .ref a ∧ y = .ref b ∧ H a = some (.ins C dx fs) ∧ H b = some (.ins C dy gs) ∧ sp [x, y] H (fun v H' => ∃ k, v = .bl k ∧ Q (.bl (!k)) H') E
theorem op_ownNe (T : NeTxt X.K C g) (F : FnOk X.prog X.w X.K X.mg X.base CX n g fd ps sp) (hr : Room (n + 1) X.A) (hb : Binds X.K fd ps []) (hx : ∀ H s e s', CX X.stack H s E e s' → False) : OpR X (compareOp .NotEq) (rOwnNe C sp E) := by
  intro pins s σ H x y v u Q I rx ry h
  obtain ⟨a, dx, fs, b, dy, gs, rfl, rfl, ha, hb', q⟩ := h
  cases rx
  cases ry
  obtain ⟨nm, qn, N, bs, sn, sub, ab, col, dd, k0, k1, k2, k3, k5, nid, hC, hN, hE, hNe⟩ := T.cls
  obtain ⟨of, hof, hoc⟩ := T.fn
  obtain ⟨oa, ea, ca⟩ := look3 I ha
  obtain ⟨ob, eb, cb⟩ := look3 I hb'
  have KX := I.kIn
  have G : s.heap.Ns N (s.heap.nsMap N) := .of_isNs (PySem.W.isNs_of_in KX hN)
  have OX : s.heap.OwnEqNoNe a C g "object" [.type "object"] := ⟨oa, of, nm, qn, N, bs, true, sn, sub, ab, col, dd, k0, k1, k2, k3, k5, nid, s.heap.nsMap N, _, ea, ca, KX _ _ hC, G, ns_some_of KX G hE, KX _ _ hof, hoc, PySem.F.cmp_object.mro, PySem.F.cmp_object.eq.lookup, PySem.W.nsMap_none_of_in KX hN hNe⟩
  have hl := F.len _ _ _ _ q
  have r2 : Vals [V.ref a, V.ref b] [Value.ref a, Value.ref b] := .cons rfl (.cons rfl .nil)
  have key : ∀ (s0 : Shared), s0 = s → wpAny (model X.prog X.w) X.A (compareOp .NotEq (.ref a) (.ref b)) (EP X pins σ Q) X.xe ⟨s0.heap, s0.gens, s0.drawn, s0.toks, s0.os⟩ := by
    rintro s0 rfl
    refine compareOp_ne_ownEq PySem.F.cmp_object OX eb cb (by have := hr.un; omega) ?_
    refine wpAny_call (codeAny_mono (F.run X.A.in1 X.stack s0 H ⟨[.ref a, .ref b], []⟩ [.ref a, .ref b] [.ref a, .ref b] _ E hr.in1 I.env0.in1 (by
      have := hb s0 [.ref a, .ref b] I.kIn (by simpa using hl)
      simpa using this) r2 q) fun r s' hq => ?_)
    cases r with
    | error e => exact (hx _ _ _ _ hq).elim
    | ok fl =>
      cases fl with
      | ret w =>
        obtain ⟨z, H', I', rz, k, rfl, qz⟩ := I.after hq
        cases rz
        exact ⟨k, rfl, .bl (!k), H', I', rfl, qz⟩
      | next => exact False.elim hq
      | brk => exact False.elim hq
      | cont => exact False.elim hq
  exact key s rfl
end
/-
  refine wpAny_mono (run_fn (us := [.ref a, .ref b]) (vs := [.ref a, .ref b]) F hr hb .nil hx I (.cons rfl (.cons rfl .nil)) q) (fun w s' z => ?_) fun _ _ z => z
  obtain ⟨z', H', I', rz, k, rfl, qz⟩ := z
  cases rz
-/

end Q7
namespace Q7
/-! ### fractions in lowest terms are rationals -/
theorem div_num_pos (a : Int) {b : Int} (hb : 0 < b) : (Rat.divInt a b).num = a / ((Nat.gcd a.natAbs b.natAbs : Nat) : Int) ∧ ((Rat.divInt a b).den : Int) = b / ((Nat.gcd a.natAbs b.natAbs : Nat) : Int) := by
  rw [Rat.num_divInt, Rat.den_divInt, if_neg (by omega), Int.sign_eq_one_of_pos hb, Int.one_mul]
  have e : b.gcd a = Nat.gcd a.natAbs b.natAbs := by rw [Int.gcd_comm]; rfl
  refine ⟨by rw [e], ?_⟩
  rw [e]
  have h1 : ((b.natAbs / Nat.gcd a.natAbs b.natAbs : Nat) : Int) = (b.natAbs : Int) / ((Nat.gcd a.natAbs b.natAbs : Nat) : Int) := by simp
  rw [h1, Int.natAbs_of_nonneg (by omega)]
theorem div_num_neg (a : Int) {b : Int} (hb : b < 0) : (Rat.divInt a b).num = a / (-((Nat.gcd a.natAbs b.natAbs : Nat) : Int)) ∧ ((Rat.divInt a b).den : Int) = b / (-((Nat.gcd a.natAbs b.natAbs : Nat) : Int)) := by
  have e : Rat.divInt a b = Rat.divInt (-a) (-b) := by
    rw [Rat.neg_divInt_neg]
  have h := div_num_pos (-a) (b := -b) (by omega)
  rw [e]
  rw [Int.natAbs_neg, Int.natAbs_neg] at h
  have g1 : ((Nat.gcd a.natAbs b.natAbs : Nat) : Int) ∣ a := by
    have := Nat.gcd_dvd_left a.natAbs b.natAbs
    exact Int.dvd_natAbs.mp (Int.ofNat_dvd.mpr this)
  have g2 : ((Nat.gcd a.natAbs b.natAbs : Nat) : Int) ∣ b := by
    have := Nat.gcd_dvd_right a.natAbs b.natAbs
    exact Int.dvd_natAbs.mp (Int.ofNat_dvd.mpr this)
  rw [Int.ediv_neg, Int.ediv_neg]
  rw [h.1, h.2, Int.neg_ediv_of_dvd g1, Int.neg_ediv_of_dvd g2]
  exact ⟨rfl, rfl⟩
/-- what the program's reduction gives -/
theorem red (a b : Int) (hb : b ≠ 0) (d : Int) (hd : d = if b < 0 then -((Nat.gcd a.natAbs b.natAbs : Nat) : Int) else ((Nat.gcd a.natAbs b.natAbs : Nat) : Int)) :
    a.fdiv d = (Rat.divInt a b).num ∧ b.fdiv d = ((Rat.divInt a b).den : Int) ∧ d ≠ 0 := by
  have hg : 0 < Nat.gcd a.natAbs b.natAbs := Nat.gcd_pos_of_pos_right _ (by omega)
  have g1 : ((Nat.gcd a.natAbs b.natAbs : Nat) : Int) ∣ a := Int.dvd_natAbs.mp (Int.ofNat_dvd.mpr (Nat.gcd_dvd_left a.natAbs b.natAbs))
  have g2 : ((Nat.gcd a.natAbs b.natAbs : Nat) : Int) ∣ b := Int.dvd_natAbs.mp (Int.ofNat_dvd.mpr (Nat.gcd_dvd_right a.natAbs b.natAbs))
  by_cases h : b < 0
  · rw [if_pos h] at hd
    subst hd
    have q := div_num_neg a h
    rw [Int.fdiv_eq_ediv_of_dvd (Int.neg_dvd.mpr g1), Int.fdiv_eq_ediv_of_dvd (Int.neg_dvd.mpr g2), q.1, q.2]
    exact ⟨rfl, rfl, by omega⟩
  · rw [if_neg h] at hd
    subst hd
    have q := div_num_pos a (b := b) (by omega)
    rw [Int.fdiv_eq_ediv_of_dvd g1, Int.fdiv_eq_ediv_of_dvd g2, q.1, q.2]
    exact ⟨rfl, rfl, by omega⟩
theorem rat_gcd (q : Rat) : Nat.gcd q.num.natAbs ((q.den : Int)).natAbs = 1 := q.reduced
theorem add_eq (p q : Rat) : p + q = Rat.divInt (p.num * q.den + q.num * p.den) ((p.den : Int) * q.den) := by
  rw [Rat.add_def', ← Rat.divInt_ofNat]
  simp
theorem mul_eq (p q : Rat) : p * q = Rat.divInt (p.num * q.num) ((p.den : Int) * q.den) := by
  rw [Rat.mul_def']
  rw [← Rat.divInt_ofNat]
  simp
theorem divq_eq (p q : Rat) : p / q = Rat.divInt (p.num * q.den) ((p.den : Int) * q.num) := by
  rw [Rat.div_def, Rat.inv_def]
  conv => lhs; lhs; rw [← Rat.num_divInt_den p]
  rw [Rat.divInt_mul_divInt]
theorem den_pos (q : Rat) : (0 : Int) < q.den := by have := q.den_pos; omega
theorem den_mul_pos (p q : Rat) : (0 : Int) < (p.den : Int) * q.den := Int.mul_pos (den_pos p) (den_pos q)
/-! ### sizes -/
def B (n : Nat) (q : Rat) : Prop := q.num.natAbs < 2 ^ n ∧ q.den < 2 ^ n
theorem B.mono {n m : Nat} {q : Rat} (h : B n q) (hm : n ≤ m) : B m q := ⟨Nat.lt_of_lt_of_le h.1 (Nat.pow_le_pow_right (by omega) hm), Nat.lt_of_lt_of_le h.2 (Nat.pow_le_pow_right (by omega) hm)⟩
theorem div_le (a b : Int) (hb : b ≠ 0) : (Rat.divInt a b).num.natAbs ≤ a.natAbs ∧ (Rat.divInt a b).den ≤ b.natAbs := by
  refine ⟨?_, ?_⟩
  · rw [Rat.num_divInt]
    have h : (b.sign * a / ((b.gcd a : Nat) : Int)).natAbs ≤ (b.sign * a).natAbs := Int.natAbs_ediv_le_natAbs _ _
    refine Nat.le_trans h ?_
    rw [Int.natAbs_mul, Int.natAbs_sign_of_ne_zero hb, Nat.one_mul]
    exact Nat.le_refl _
  · rw [Rat.den_divInt, if_neg hb]
    exact Nat.div_le_self _ _
theorem B.div {n : Nat} {a b : Int} (ha : a.natAbs < 2 ^ n) (hb : b.natAbs < 2 ^ n) (h0 : b ≠ 0) : B n (Rat.divInt a b) := ⟨Nat.lt_of_le_of_lt (div_le a b h0).1 ha, Nat.lt_of_le_of_lt (div_le a b h0).2 hb⟩
theorem abs_mul_lt {a b : Int} {n m : Nat} (ha : a.natAbs < 2 ^ n) (hb : b.natAbs < 2 ^ m) : (a * b).natAbs < 2 ^ (n + m) := by
  rw [Int.natAbs_mul, Nat.pow_add]
  exact Nat.mul_lt_mul'' ha hb
theorem B.add {n m : Nat} {p q : Rat} (hp : B n p) (hq : B m q) : B (n + m + 1) (p + q) := by
  rw [add_eq]
  have h1 := abs_mul_lt (a := p.num) (b := q.den) hp.1 (by simpa using hq.2)
  have h2 := abs_mul_lt (a := q.num) (b := p.den) hq.1 (by simpa using hp.2)
  have h3 := abs_mul_lt (a := p.den) (b := q.den) (n := n) (m := m) (by simpa using hp.2) (by simpa using hq.2)
  refine B.div ?_ ?_ (Int.ne_of_gt (den_mul_pos p q))
  · rw [Nat.pow_succ]
    rw [Nat.add_comm m n] at h2
    omega
  · rw [Nat.pow_succ]
    omega
theorem B.mul {n m : Nat} {p q : Rat} (hp : B n p) (hq : B m q) : B (n + m) (p * q) := by
  rw [mul_eq]
  exact B.div (abs_mul_lt hp.1 hq.1) (abs_mul_lt (by simpa using hp.2) (by simpa using hq.2)) (Int.ne_of_gt (den_mul_pos p q))
theorem B.neg {n : Nat} {q : Rat} (h : B n q) : B n (-q) := ⟨by rw [Rat.neg_num, Int.natAbs_neg]; exact h.1, h.2⟩
theorem B.zero : B 1 0 := ⟨by decide, by decide⟩

/-! ### rows: lists of pairs, seen through all weights -/
abbrev Rw := List (Int × Rat)
def wt (f : Int → Rat) : Rw → Rat
  | [] => 0
  | (t, q) :: r => q * f t + wt f r
theorem wt_append (f : Int → Rat) : ∀ a b : Rw, wt f (a ++ b) = wt f a + wt f b
  | [], b => by simp [wt, Rat.zero_add]
  | (t, q) :: r, b => by
    simp only [List.cons_append, wt, wt_append f r b]
    grind
theorem wt_perm (f : Int → Rat) {a b : Rw} (h : a.Perm b) : wt f a = wt f b := by
  induction h with
  | nil => rfl
  | cons x _ ih => obtain ⟨t, q⟩ := x; simp only [wt, ih]
  | swap x y l => obtain ⟨t, q⟩ := x; obtain ⟨u, r⟩ := y; simp only [wt]; grind
  | trans _ _ h1 h2 => exact h1.trans h2
theorem wt_filter (f : Int → Rat) : ∀ a : Rw, wt f (a.filter fun p => decide (p.2 ≠ 0)) = wt f a
  | [] => rfl
  | (t, q) :: r => by
    have ih := wt_filter f r
    by_cases h : q = 0
    · subst h
      simp only [List.filter, wt]
      simp only [ne_eq, not_true_eq_false, decide_false]
      rw [ih]
      grind
    · have : decide (q ≠ 0) = true := by simp [h]
      simp only [List.filter, this, wt, ih]
/-- the weights at one tick -/
def at_ (t : Int) : Int → Rat := fun u => if u = t then 1 else 0
/-- strictly ascending, without zeros -/
structure Nf (a : Rw) : Prop where
  asc : a.Pairwise fun x y => x.1 < y.1
  nz : ∀ p ∈ a, p.2 ≠ 0
theorem wt_at_none {t : Int} : ∀ {a : Rw}, (∀ p ∈ a, p.1 ≠ t) → wt (at_ t) a = 0
  | [], _ => rfl
  | (u, q) :: r, h => by
    have h1 : u ≠ t := h (u, q) List.mem_cons_self
    simp only [wt, at_, if_neg h1, wt_at_none (a := r) fun p hp => h p (List.mem_cons_of_mem _ hp)]
    grind
theorem wt_at_head {t : Int} {q : Rat} {r : Rw} (h : ∀ p ∈ r, p.1 ≠ t) : wt (at_ t) ((t, q) :: r) = q := by
  simp only [wt, at_, wt_at_none h]
  simp only [if_pos]
  grind
theorem Nf.tail {p : Int × Rat} {r : Rw} (h : Nf (p :: r)) : Nf r := ⟨(List.pairwise_cons.mp h.asc).2, fun x hx => h.nz x (List.mem_cons_of_mem _ hx)⟩
theorem Nf.head {p : Int × Rat} {r : Rw} (h : Nf (p :: r)) : ∀ x ∈ r, p.1 < x.1 := (List.pairwise_cons.mp h.asc).1
/-- two normal rows of equal weights are one -/
theorem Nf.eq : ∀ {a b : Rw}, Nf a → Nf b → (∀ f, wt f a = wt f b) → a = b
  | [], [], _, _, _ => rfl
  | [], (t, q) :: r, _, hb, h => by
    have h1 := h (at_ t)
    rw [wt_at_head fun p hp => Ne.symm (Int.ne_of_lt (hb.head p hp))] at h1
    exact absurd h1.symm (hb.nz _ List.mem_cons_self)
  | (t, q) :: r, [], ha, _, h => by
    have h1 := h (at_ t)
    rw [wt_at_head fun p hp => Ne.symm (Int.ne_of_lt (ha.head p hp))] at h1
    exact absurd h1 (ha.nz _ List.mem_cons_self)
  | (t, q) :: r, (u, x) :: s, ha, hb, h => by
    have hr : ∀ p ∈ r, p.1 ≠ t := fun p hp => Ne.symm (Int.ne_of_lt (ha.head p hp))
    have hs : ∀ p ∈ s, p.1 ≠ u := fun p hp => Ne.symm (Int.ne_of_lt (hb.head p hp))
    have e : t = u := by
      rcases Int.lt_trichotomy t u with l | l | l
      · have h1 := h (at_ t)
        rw [wt_at_head hr, wt_at_none (a := (u, x) :: s)] at h1
        · exact absurd h1 (ha.nz _ List.mem_cons_self)
        · intro p hp
          rcases List.mem_cons.mp hp with rfl | hp
          · exact Ne.symm (Int.ne_of_lt l)
          · exact Ne.symm (Int.ne_of_lt (Int.lt_trans l (hb.head p hp)))
      · exact l
      · have h1 := h (at_ u)
        rw [wt_at_head hs, wt_at_none (a := (t, q) :: r)] at h1
        · exact absurd h1.symm (hb.nz _ List.mem_cons_self)
        · intro p hp
          rcases List.mem_cons.mp hp with rfl | hp
          · exact Ne.symm (Int.ne_of_lt l)
          · exact Ne.symm (Int.ne_of_lt (Int.lt_trans l (ha.head p hp)))
    subst e
    have h1 := h (at_ t)
    rw [wt_at_head hr, wt_at_head hs] at h1
    subst h1
    have h2 : r = s := Nf.eq ha.tail hb.tail fun f => by
      have := h f
      simp only [wt] at this
      grind
    rw [h2]

/-! ### a dict of sums -/
/-- m[t] = m.get(t, 0) + q, in the order of insertion -/
def putS (m : Rw) (t : Int) (q : Rat) : Rw := match m with
  | [] => [(t, 0 + q)]
  | (u, x) :: r => if u = t then (u, x + q) :: r else (u, x) :: putS r t q
theorem wt_put (f : Int → Rat) (t : Int) (q : Rat) : ∀ m : Rw, wt f (putS m t q) = wt f m + q * f t
  | [] => by simp only [putS, wt]; grind
  | (u, x) :: r => by
    unfold putS
    by_cases h : u = t
    · rw [if_pos h]; subst h; simp only [wt]; grind
    · rw [if_neg h]; simp only [wt, wt_put f t q r]; grind
theorem put_keys (t : Int) (q : Rat) : ∀ m : Rw, (putS m t q).map (·.1) = if t ∈ m.map (·.1) then m.map (·.1) else m.map (·.1) ++ [t]
  | [] => by simp [putS]
  | (u, x) :: r => by
    unfold putS
    by_cases h : u = t
    · rw [if_pos h]; subst h; simp
    · rw [if_neg h]
      have ih := put_keys t q r
      simp only [List.map_cons, ih, List.mem_cons]
      by_cases h2 : t ∈ r.map (·.1)
      · rw [if_pos h2, if_pos (Or.inr h2)]
      · rw [if_neg h2, if_neg (by rintro (e | e); exact h e.symm; exact h2 e)]
        rfl
theorem put_nodup {m : Rw} (t : Int) (q : Rat) (h : (m.map (·.1)).Nodup) : ((putS m t q).map (·.1)).Nodup := by
  rw [put_keys]
  by_cases h2 : t ∈ m.map (·.1)
  · rw [if_pos h2]; exact h
  · rw [if_neg h2]
    rw [List.nodup_append]
    refine ⟨h, by simp, ?_⟩
    intro a ha b hb e
    simp only [List.mem_singleton] at hb
    subst hb; subst e
    exact h2 ha
def sums (ps : Rw) : Rw := ps.foldl (fun m p => putS m p.1 p.2) []
theorem wt_sums_go (f : Int → Rat) : ∀ (ps m : Rw), wt f (ps.foldl (fun m p => putS m p.1 p.2) m) = wt f m + wt f ps
  | [], m => by simp only [List.foldl, wt]; grind
  | (t, q) :: r, m => by simp only [List.foldl, wt_sums_go f r, wt_put, wt]; grind
theorem wt_sums (f : Int → Rat) (ps : Rw) : wt f (sums ps) = wt f ps := by
  unfold sums
  rw [wt_sums_go]
  simp only [wt]
  grind
theorem sums_nodup_go : ∀ (ps m : Rw), (m.map (·.1)).Nodup → ((ps.foldl (fun m p => putS m p.1 p.2) m).map (·.1)).Nodup
  | [], _, h => h
  | (t, q) :: r, m, h => sums_nodup_go r _ (put_nodup t q h)
theorem sums_nodup (ps : Rw) : ((sums ps).map (·.1)).Nodup := sums_nodup_go ps [] (by simp)
theorem sums_snoc (ps : Rw) (p : Int × Rat) : sums (ps ++ [p]) = putS (sums ps) p.1 p.2 := by unfold sums; rw [List.foldl_append]; rfl
def look (m : Rw) (t : Int) : Rat := match m with
  | [] => 0
  | (u, x) :: r => if u = t then x else look r t
/-- the ticks ys, in this order, with their sums, without zeros -/
def pick (m : Rw) (ys : List Int) : Rw := (ys.map fun t => (t, look m t)).filter fun p => decide (p.2 ≠ 0)
theorem look_self : ∀ {m : Rw}, (m.map (·.1)).Nodup → (m.map (·.1)).map (fun t => (t, look m t)) = m
  | [], _ => rfl
  | (u, x) :: r, h => by
    have h1 := List.nodup_cons.mp h
    simp only [List.map_cons, look, if_pos]
    congr 1
    have ih := look_self (m := r) h1.2
    conv => rhs; rw [← ih]
    apply List.map_congr_left
    intro t ht
    rw [if_neg (fun e => h1.1 (by rw [e]; exact ht))]
theorem pick_nf {m : Rw} {ys : List Int} (hn : (m.map (·.1)).Nodup) (hp : ys.Perm (m.map (·.1))) (hs : ys.Pairwise (· ≤ ·)) : Nf (pick m ys) := by
  have hs2 : ys.Pairwise (· < ·) := by
    have nd : ys.Nodup := hp.nodup_iff.mpr hn
    have := List.Pairwise.and hs nd
    exact this.imp fun h => Int.lt_iff_le_and_ne.mpr h
  refine ⟨?_, ?_⟩
  · unfold pick
    apply List.Pairwise.filter
    rw [List.pairwise_map]
    exact hs2
  · intro p hp'
    have := (List.mem_filter.mp hp').2
    simpa using this
theorem wt_pick (f : Int → Rat) {m : Rw} {ys : List Int} (hn : (m.map (·.1)).Nodup) (hp : ys.Perm (m.map (·.1))) : wt f (pick m ys) = wt f m := by
  unfold pick
  rw [wt_filter]
  rw [wt_perm f (hp.map fun t => (t, look m t)), look_self hn]
/-- the normal row of a list of pairs -/
def norm (ps : Rw) : Rw := pick (sums ps) (((sums ps).map (·.1)).mergeSort)
theorem norm_nf (ps : Rw) : Nf (norm ps) := pick_nf (sums_nodup ps) (List.mergeSort_perm _ _) (by
  have h := List.pairwise_mergeSort (le := fun (a b : Int) => decide (a ≤ b)) (fun a b c h1 h2 => by simp only [decide_eq_true_eq] at *; omega) (fun a b => by simp only [Bool.or_eq_true, decide_eq_true_eq]; omega) ((sums ps).map (·.1))
  exact h.imp fun h => of_decide_eq_true h)
theorem wt_norm (f : Int → Rat) (ps : Rw) : wt f (norm ps) = wt f ps := by
  unfold norm
  rw [wt_pick f (sums_nodup ps) (List.mergeSort_perm _ _), wt_sums]
theorem norm_pick {ps : Rw} {ys : List Int} (hp : ys.Perm ((sums ps).map (·.1))) (hs : ys.Pairwise (· ≤ ·)) : pick (sums ps) ys = norm ps :=
  Nf.eq (pick_nf (sums_nodup ps) hp hs) (norm_nf ps) fun f => by rw [wt_norm, wt_pick f (sums_nodup ps) hp, wt_sums]
theorem norm_eq {a b : Rw} (h : ∀ f, wt f a = wt f b) : norm a = norm b := Nf.eq (norm_nf a) (norm_nf b) fun f => by rw [wt_norm, wt_norm, h f]
theorem norm_of {a b : Rw} (ha : Nf a) (h : ∀ f, wt f a = wt f b) : norm b = a := Nf.eq (norm_nf b) ha fun f => by rw [wt_norm, h f]
theorem norm_self {a : Rw} (ha : Nf a) : norm a = a := norm_of ha fun _ => rfl
/-- the product, pair by pair -/
def prod (a b : Rw) : Rw := a.flatMap fun p => b.map fun q => (p.1 + q.1, p.2 * q.2)
theorem wt_map (f : Int → Rat) (t : Int) (x : Rat) : ∀ b : Rw, wt f (b.map fun q => (t + q.1, x * q.2)) = x * wt (fun u => f (t + u)) b
  | [] => by simp only [List.map, wt]; grind
  | (u, y) :: r => by simp only [List.map, wt, wt_map f t x r]; grind
theorem wt_prod (f : Int → Rat) : ∀ a b : Rw, wt f (prod a b) = wt (fun t => wt (fun u => f (t + u)) b) a
  | [], b => rfl
  | (t, x) :: r, b => by
    show wt f ((b.map fun q => (t + q.1, x * q.2)) ++ prod r b) = _
    rw [wt_append, wt_map, wt_prod f r b]
    rfl
theorem wt_add (f g : Int → Rat) : ∀ a : Rw, wt (fun t => f t + g t) a = wt f a + wt g a
  | [] => by simp only [wt]; grind
  | (t, q) :: r => by simp only [wt, wt_add f g r]; grind
theorem wt_smul (x : Rat) (f : Int → Rat) : ∀ a : Rw, wt (fun t => x * f t) a = x * wt f a
  | [] => by simp only [wt]; grind
  | (t, q) :: r => by simp only [wt, wt_smul x f r]; grind
theorem wt_zero : ∀ a : Rw, wt (fun _ => 0) a = 0
  | [] => rfl
  | (t, q) :: r => by simp only [wt, wt_zero r]; grind
theorem wt_swap (F : Int → Int → Rat) : ∀ a b : Rw, wt (fun t => wt (F t) b) a = wt (fun u => wt (fun t => F t u) a) b
  | [], b => by simp only [wt]; rw [wt_zero]
  | (t, x) :: r, b => by
    simp only [wt]
    rw [wt_swap F r b, ← wt_smul, ← wt_add]
end Q7
set_option maxRecDepth 100000
set_option maxHeartbeats 4000000
namespace Q7
open PySem PySem.Spec PyProof.Rows L2
abbrev St7 := L2.St
/-! ### what stays: every tracked thing; every tuple -/
theorem same_new {H : Hp} {p : Addr} {o : HO} (h : H p = none) : Same H (upd H p o) := fun b u e => by
  rw [upd_ne (ne_of_none e h)]
  exact e
theorem same_newer {H H' : Hp} {p : Addr} {o : HO} (s : Same H H') (h : H' p = none) : Same H (upd H' p o) := s.trans (same_new h)
/-- an object that H does not know may change -/
theorem same_mut {H H' : Hp} {p : Addr} {o : HO} (s : Same H H') (h : H p = none) : Same H (upd H' p o) := fun b u e => by
  rw [upd_ne (ne_of_none e h)]
  exact s b u e
def TK (H H' : Hp) : Prop := ∀ a xs, Rd H a (.tup xs) → Rd H' a (.tup xs)
theorem TK.refl (H : Hp) : TK H H := fun _ _ h => h
theorem TK.trans {H H1 H2 : Hp} (a : TK H H1) (b : TK H1 H2) : TK H H2 := fun x o h => b x o (a x o h)
theorem same_tk {H H' : Hp} (s : Same H H') : TK H H' := fun a xs h => h.elim (fun h => .inl (s _ _ h)) fun ⟨o, h⟩ => .inr ⟨o, s _ _ h⟩
theorem tk_upd {H : Hp} {p : Addr} {o u : HO} (h : H p = some u) (hu : ∀ xs, u ≠ .tup xs) (hf : ∀ o xs, u ≠ .frz o (.tup xs)) : TK H (upd H p o) := fun a xs q => by
  rcases q with q | ⟨z, q⟩
  · exact .inl (by rw [upd_ne (ne_of q h fun e => hu xs e.symm)]; exact q)
  · exact .inr ⟨z, by rw [upd_ne (ne_of q h fun e => hf z xs e.symm)]; exact q⟩
theorem tk_lst {H : Hp} {p : Addr} {o : HO} {ys : List V} (h : H p = some (.lst ys)) : TK H (L2.upd H p o) := tk_upd h (fun _ e => by cases e) fun _ _ e => by cases e
theorem tk_dk {H : Hp} {p : Addr} {o : HO} {ys : List (Key × V)} (h : H p = some (.dK ys)) : TK H (L2.upd H p o) := tk_upd h (fun _ e => by cases e) fun _ _ e => by cases e
theorem tk_ins {H : Hp} {p C dx : Addr} {o : HO} {ys : List (Str × V)} (h : H p = some (.ins C dx ys)) : TK H (L2.upd H p o) := tk_upd h (fun _ e => by cases e) fun _ _ e => by cases e
section
variable {K : PySem.W.Frag} {H H' : Hp} {v : V} {q : Rat} {a : Addr} {xs : List V}
theorem sqT_tk (h : SqT K H a xs) (t : TK H H') : SqT K H' a xs := h.elim (fun h => .inl (t _ _ h)) .inr
theorem sqT_of (h : H a = some (.tup xs)) : SqT K H a xs := .inl (.inl h)
theorem sqL_of (h : H a = some (.lst xs)) : SqL K H a xs := .inl (.inl h)
/-! ### a fraction, a pair, a list of pairs -/
def FrV (K : PySem.W.Frag) (H : Hp) (v : V) (q : Rat) : Prop := ∃ p, v = .ref p ∧ SqT K H p [.int q.num, .int q.den]
def PrV (K : PySem.W.Frag) (H : Hp) (v : V) (t : Int × Rat) : Prop := ∃ p x, v = .ref p ∧ SqT K H p [.int t.1, x] ∧ FrV K H x t.2
abbrev PrsV (K : PySem.W.Frag) (H : Hp) : List V → Rw → Prop := Paired (PrV K H)
theorem frV_tk (h : FrV K H v q) (t : TK H H') : FrV K H' v q := by
  obtain ⟨p, e, s⟩ := h
  exact ⟨p, e, sqT_tk s t⟩
theorem prV_tk {x : Int × Rat} (h : PrV K H v x) (t : TK H H') : PrV K H' v x := by
  obtain ⟨p, y, e, s, f⟩ := h
  exact ⟨p, y, e, sqT_tk s t, frV_tk f t⟩
theorem prsV_tk : ∀ {xs : List V} {ps : Rw}, PrsV K H xs ps → TK H H' → PrsV K H' xs ps
  | _, _, .nil, _ => .nil
  | _, _, .cons h r, t => .cons (prV_tk h t) (prsV_tk r t)
def fr (q : Rat) : PyData := .tuple [.int q.num, .int q.den]
def pr (p : Int × Rat) : PyData := .tuple [.int p.1, fr p.2]
theorem frV_dp (h : FrV K H v q) : Dp K H v (fr q) := by
  obtain ⟨p, rfl, s⟩ := h
  exact .tup s (.cons (.int _) (.cons (.int _) .nil))
theorem prV_dp {x : Int × Rat} (h : PrV K H v x) : Dp K H v (pr x) := by
  obtain ⟨p, y, rfl, s, f⟩ := h
  exact .tup s (.cons (.int _) (.cons (frV_dp f) .nil))
theorem prsV_dp : ∀ {xs : List V} {ps : Rw}, PrsV K H xs ps → DpAll K H xs (ps.map pr)
  | _, _, .nil => .nil
  | _, _, .cons h r => .cons (prV_dp h) (prsV_dp r)
theorem pLen {α β : Type} {R : α → β → Prop} : ∀ {xs : List α} {ys : List β}, Paired R xs ys → xs.length = ys.length
  | _, _, .nil => rfl
  | _, _, .cons _ r => congrArg (· + 1) (pLen r)
theorem pGet {α β : Type} {R : α → β → Prop} : ∀ {xs : List α} {ys : List β}, Paired R xs ys → ∀ {i : Nat} {x : α}, xs[i]? = some x → ∃ y, ys[i]? = some y ∧ R x y
  | _, _, .nil, i, x, h => by simp at h
  | _, _, .cons r t, 0, x, h => by simp at h; subst h; exact ⟨_, rfl, r⟩
  | _, _, .cons r t, i + 1, x, h => by
    obtain ⟨y, h1, h2⟩ := pGet t (i := i) (x := x) (by simpa using h)
    exact ⟨y, by simpa using h1, h2⟩
theorem pApp {α β : Type} {R : α → β → Prop} : ∀ {xs xs' : List α} {ys ys' : List β}, Paired R xs ys → Paired R xs' ys' → Paired R (xs ++ xs') (ys ++ ys')
  | _, _, _, _, .nil, h => h
  | _, _, _, _, .cons r t, h => .cons r (pApp t h)
theorem pImp {α β : Type} {R S : α → β → Prop} (f : ∀ a b, R a b → S a b) : ∀ {xs : List α} {ys : List β}, Paired R xs ys → Paired S xs ys
  | _, _, .nil => .nil
  | _, _, .cons r t => .cons (f _ _ r) (pImp f t)
theorem pRev {α β : Type} {R : α → β → Prop} {xs : List α} {ys : List β} (h : Paired R xs ys) : Paired R xs.reverse ys.reverse := by
  induction h with
  | nil => exact .nil
  | cons r _ ih => rw [List.reverse_cons, List.reverse_cons]; exact pApp ih (.cons r .nil)
end
/-! ### == of this data -/
theorem eqv_fr (p q : Rat) : PyData.eqv (fr p) (fr q) = decide (p = q) := by
  simp only [fr, PyData.eqv, PyData.eqvAll, Bool.and_true]
  by_cases h : p = q
  · subst h; simp
  · rw [decide_eq_false h]
    by_cases h1 : p.num = q.num
    · have h2 : p.den ≠ q.den := fun e => h (Rat.ext h1 e)
      have : ((p.den : Int) == (q.den : Int)) = false := by simp; omega
      rw [this, Bool.and_false]
    · have : (p.num == q.num) = false := by simp [h1]
      rw [this, Bool.false_and]
theorem eqv_pr (p q : Int × Rat) : PyData.eqv (pr p) (pr q) = decide (p = q) := by
  have e : PyData.eqv (pr p) (pr q) = ((p.1 == q.1) && PyData.eqv (fr p.2) (fr q.2)) := by
    simp only [pr, PyData.eqv, PyData.eqvAll, Bool.and_true]
  rw [e, eqv_fr]
  obtain ⟨a, b⟩ := p
  obtain ⟨c, d⟩ := q
  by_cases h1 : a = c
  · subst h1; simp [Prod.ext_iff]
  · simp [Prod.ext_iff, h1]
theorem eqv_prs : ∀ a b : Rw, PyData.eqvAll (a.map pr) (b.map pr) = decide (a = b)
  | [], [] => by simp [PyData.eqvAll]
  | [], _ :: _ => by simp [PyData.eqvAll]
  | _ :: _, [] => by simp [PyData.eqvAll]
  | p :: a, q :: b => by
    simp only [List.map_cons, PyData.eqvAll, eqv_pr, eqv_prs a b]
    by_cases h1 : p = q
    · by_cases h2 : a = b
      · subst h1 h2; simp
      · simp [h1, h2]
    · simp [h1]
theorem lay_fr (q : Rat) : (fr q).canLay0 = true := by simp [fr, PyData.canLay0, PyData.canLayAll0]
theorem dep_fr (q : Rat) : (fr q).depth = 1 := by simp [fr, PyData.depth, PyData.depthAll]
theorem sh_fr (q : Rat) : SeqAt.shaped (fr q) = true := by
  show ((fr q).canLay0 && decide ((fr q).depth ≤ 64)) = true
  rw [lay_fr, dep_fr]; decide
theorem lay_pr (q : Int × Rat) : (pr q).canLay0 = true := by simp [pr, PyData.canLay0, PyData.canLayAll0, lay_fr]
theorem dep_pr (q : Int × Rat) : (pr q).depth = 2 := by simp [pr, PyData.depth, PyData.depthAll, dep_fr]
theorem lay_prs : ∀ a : Rw, PyData.canLayAll0 (a.map pr) = true
  | [] => by simp [PyData.canLayAll0]
  | p :: a => by simp [PyData.canLayAll0, lay_pr p, lay_prs a]
theorem dep_prs : ∀ a : Rw, PyData.depthAll (a.map pr) ≤ 2
  | [] => by simp [PyData.depthAll]
  | p :: a => by
    have := dep_prs a
    have := dep_pr p
    simp only [List.map_cons, PyData.depthAll]
    omega
theorem sh_prs (a : Rw) : SeqAt.shaped (.list (a.map pr)) = true := by
  have h := dep_prs a
  have h2 : PyData.depth (.list (a.map pr)) ≤ 64 := by simp only [PyData.depth]; omega
  show (PyData.canLay0 (.list (a.map pr)) && decide (PyData.depth (.list (a.map pr)) ≤ 64)) = true
  rw [Bool.and_eq_true]
  exact ⟨by simp only [PyData.canLay0]; exact lay_prs a, decide_eq_true h2⟩
theorem eqv_lists (a b : Rw) : PyData.eqv (.list (a.map pr)) (.list (b.map pr)) = decide (a = b) := by simp only [PyData.eqv]; exact eqv_prs a b
theorem sh_ints (ns : List Int) : SeqAt.shaped (.list (ns.map PyData.int)) = true := PySem.W.shaped_ints ns

/-! ### // by any divisor but 0 -/
def CDivA (_ j : Int) : Prop := j ≠ 0 ∧ j.natAbs.log2 < 9000
theorem op_fdivA {X : Cx} : OpR X (binaryOp .FloorDiv) (rI CDivA fun i j => .int (i.fdiv j)) := opI fun i j _ _ _ _ _ hc q => floordiv_int hc.1 q (.inl (PyProof.noPylong_of_log2 hc.2))
theorem cdiv_of {i j : Int} {b : Nat} (h0 : j ≠ 0) (h : j.natAbs < 2 ^ b) (hb : 0 < b) (h9 : b ≤ 9000) : CDivA i j := ⟨h0, Nat.lt_of_lt_of_le (PySem.Flt.log2_lt_of hb h) h9⟩
theorem cmul_of {i j : Int} {a b : Nat} (ha : i.natAbs < 2 ^ a) (hb : j.natAbs < 2 ^ b) (h : a + b ≤ 900000) : CMulW i j := by
  refine wide_mul (a := a + 1) (b := b + 1) (Nat.lt_of_lt_of_le ha (Nat.pow_le_pow_right (by omega) (by omega))) (Nat.lt_of_lt_of_le hb (Nat.pow_le_pow_right (by omega) (by omega))) (by omega) (by omega) (by omega)

/-! ### == of two dicts whose values are data -/
def KvD (K : PySem.W.Frag) (H : Hp) : List (Key × V) → List (Key × PyData) → Prop := Paired fun p q => p.1 = q.1 ∧ Dp K H p.2 q.2 ∧ SeqAt.shaped q.2 = true
def findD (es : List (Key × PyData)) (k : Key) : Option PyData := (es.find? fun q => decide (q.1 = k)).map (·.2)
def eqKv (ds es : List (Key × PyData)) : Bool := ds.length == es.length && ds.all fun p => match findD es p.1 with | some e => PyData.eqv p.2 e | none => false
section
variable {X : Cx} {pins : List (Addr × Obj)} {σ : St7} {H : Hp} {s : Shared}
theorem find_kv (I : Inv X pins σ H s) (k : Key) : ∀ {ls : List (Key × V)} {es : List (Key × PyData)} {vb : List (Key × Value)}, KvD X.K H ls es → KV ls vb →
    (findD es k = none ∧ PySem.valueAt vb k = none) ∨ ∃ e y as, findD es k = some e ∧ PySem.valueAt vb k = some y ∧ Reads s.heap y e as ∧ SeqAt.shaped e = true
  | [], _, _, h, r => by
    cases h
    cases r
    exact .inl ⟨rfl, rfl⟩
  | p :: ls, _, _, h, r => by
    cases h with
    | @cons _ q _ es h1 h2 =>
      cases r with
      | @cons _ w _ vb r1 r2 =>
        obtain ⟨e1, d1, s1⟩ := h1
        obtain ⟨c1, c2⟩ := r1
        by_cases hk : p.1 = k
        · obtain ⟨as, rd⟩ := Dp.reads I q.2 p.2 w.2 d1 c2
          refine .inr ⟨q.2, w.2, as, ?_, ?_, rd, s1⟩
          · unfold findD
            rw [List.find?_cons_of_pos (by rw [← e1]; exact decide_eq_true hk)]
            rfl
          · unfold PySem.valueAt
            rw [List.find?_cons_of_pos (by rw [← c1]; exact decide_eq_true hk)]
            rfl
        · rcases find_kv I k h2 r2 with ⟨a, b⟩ | ⟨e, y, as, a, b, c, d⟩
          · refine .inl ⟨?_, ?_⟩
            · unfold findD
              rw [List.find?_cons_of_neg (by rw [← e1]; simpa using hk)]
              exact a
            · unfold PySem.valueAt
              rw [List.find?_cons_of_neg (by rw [← c1]; simpa using hk)]
              exact b
          · refine .inr ⟨e, y, as, ?_, ?_, c, d⟩
            · unfold findD
              rw [List.find?_cons_of_neg (by rw [← e1]; simpa using hk)]
              exact a
            · unfold PySem.valueAt
              rw [List.find?_cons_of_neg (by rw [← c1]; simpa using hk)]
              exact b
theorem hits_kv (I : Inv X pins σ H s) {A : Around} (hu : A.units + 64 < cLine) {ls : List (Key × V)} {es : List (Key × PyData)} {vb : List (Key × Value)} (hl : KvD X.K H ls es) (rb : KV ls vb) :
    ∀ {ks : List (Key × V)} {ds : List (Key × PyData)} {va : List (Key × Value)}, KvD X.K H ks ds → KV ks va →
      PySem.W.KeqHitsP X.prog X.w A s vb va (ds.all fun p => match findD es p.1 with | some e => PyData.eqv p.2 e | none => false)
  | [], _, _, h, r => by
    cases h
    cases r
    exact .nil
  | p :: ks, _, _, h, r => by
    cases h with
    | @cons _ q _ ds h1 h2 =>
      cases r with
      | @cons _ w _ va r1 r2 =>
        obtain ⟨e1, d1, s1⟩ := h1
        obtain ⟨c1, c2⟩ := r1
        obtain ⟨k, z⟩ := w
        simp only at c1 c2
        subst c1
        rw [List.all_cons, ← e1]
        rcases find_kv I p.1 hl rb with ⟨a, b⟩ | ⟨e, y, bs, a, b, c, d⟩
        · rw [a]
          exact .miss b
        · rw [a]
          obtain ⟨as, rd⟩ := Dp.reads I q.2 p.2 z d1 c2
          exact .hit b (SeqAt.eqAt_reads q.2 e A s z y as bs rd c (SeqAt.canLay_of_shaped s1) (SeqAt.canLay_of_shaped d) (SeqAt.room_of_shaped s1 hu)).eqP (hits_kv I hu hl rb h2 r2)
def rEqDd (K : PySem.W.Frag) : R2 := fun x y H Q => ∃ a b ks ls ds es, x = .ref a ∧ y = .ref b ∧ H a = some (.dK ks) ∧ H b = some (.dK ls) ∧ KvD K H ks ds ∧ KvD K H ls es ∧ Q (.bl (eqKv ds es)) H
end
theorem op_eqDd {X : Cx} (hu : X.A.units + 70 < cLine) : OpR X (compareOp .Eq) (rEqDd X.K) := by
  intro pins s σ H x y v u Q I rx ry h
  obtain ⟨a, b, ks, ls, ds, es, rfl, rfl, ha, hb, hk, hl, q⟩ := h
  cases rx
  cases ry
  obtain ⟨_, ya, va, ra, da⟩ := (show ObjOk X.prog X.w H s.heap a (.dK ks) from I.hok a _ ha)
  obtain ⟨_, yb, vb, rb, db⟩ := (show ObjOk X.prog X.w H s.heap b (.dK ls) from I.hok b _ hb)
  unfold compareOp
  refine PySem.W.rcP_dicts (knd := mixKind X.prog X.w) ya yb da db (by omega) (fun _ => hits_kv I (by show X.A.units + 1 + 64 < cLine; omega) hl rb hk ra) _ _ ?_
  have l1 : va.length = ds.length := by rw [← ra.length, Paired.length hk]
  have l2 : vb.length = es.length := by rw [← rb.length, Paired.length hl]
  rw [l1, l2]
  exact ⟨.bl _, H, I, rfl, q⟩
end Q7
set_option maxRecDepth 100000
set_option maxHeartbeats 4000000
namespace Q7
open PySem PySem.Spec PyProof.Rows L2
/-! ### a head's facts, and tests of one's own beside them -/
abbrev Tst : Type := PySem.W.Frag → Bool
def hookX (n : Nat) (fa : List He.Fa) (fn : List He.DefD) (ex : List Tst) : PySem.W.Hook where
  α := He.AlD × Bool
  obs := fun s => (He.obsD fa fn (He.frG s.heap.get? (He.asD s.heap.get? n)), ex.all fun f => f (He.frG s.heap.get? (He.asD s.heap.get? n)))
  val := fun _ => (He.valD fn, true)
  says := fun _ h => ∃ K : PySem.W.Frag, K.In h ∧ He.SaysD fa fn K ∧ (ex.all fun f => f K) = true
  of := fun _ _ e => ⟨_, He.frG_in, congrArg (fun z : He.AlD × Bool => z.1) e, congrArg (fun z : He.AlD × Bool => z.2) e⟩
  keeps := fun _ _ _ ⟨K, hK, c⟩ k => ⟨K, PySem.W.Frag.In.keeps hK k, c⟩
def obX (n : Nat) (fa : List He.Fa) (fn : List He.DefD) (ex : List Tst) (g : Addr → Option Obj) : He.AlD × Bool := (He.obsD fa fn (He.frG g (He.asD g n)), ex.all fun f => f (He.frG g (He.asD g n)))
theorem obX_eq {n : Nat} {fa : List He.Fa} {fn : List He.DefD} {ex : List Tst} {g : Addr → Option Obj} {s : Shared} (h : ∀ a, g a = s.heap.get? a) : obX n fa fn ex g = (hookX n fa fn ex).obs s := by
  have e : g = s.heap.get? := funext h
  rw [e] <;> rfl
theorem tst_at {ex : List Tst} {K : PySem.W.Frag} (h : (ex.all fun f => f K) = true) (i : Nat) {f : Tst} (e : ex[i]? = some f := by rfl) : f K = true := List.all_eq_true.mp h f (List.mem_of_getElem? e)
/-! ### such tests -/
def tFind (x : Str) (m : Str) (v : Value) : Tst := fun K => He.eqO (PySem.W.findIn K (.ref (He.ga K x)) m) (some (some v))
def tGlo (x : Str) (v : Value) : Tst := fun K => He.eqO (PySem.W.nsIn K mainGlobals x) (some (some v))
theorem tGlo_ok {x : Str} {v : Value} {K : PySem.W.Frag} {h : Heap} {mg : Str → Option Value} (X : K.In h) (G : h.Ns mainGlobals mg) (c : tGlo x v K = true) : mg x = some v := PySem.W.mg_of X G (He.eqO_ok c)
def tKit (a b : String) (r : Bool) : Tst := fun K => decide (PySem.W.kitOne K (.type a) (.type b) = some r)
theorem tKit_ok {a b : String} {r : Bool} {K : PySem.W.Frag} (c : tKit a b r K = true) : PySem.W.kitOne K (.type a) (.type b) = some r := of_decide_eq_true c
def tFirst (x : Str) : Tst := fun K => PySem.W.selfFirst K (He.ga K x)
/-- an instance of the class at x is one of it -/
def tIns (x : Str) : Tst := fun K => He.eqO (PySem.W.findIn K (.ref (He.ga K x)) "__class__") (some (some (.builtin "object.__class__"))) &&
  (He.eqO (PySem.W.specialIn K (.builtin "object.__class__") "__get__") (some (some (.builtin "getset_descriptor.__get__"))) && (decide (PySem.W.takesIn K (.builtin "object.__class__") = some true) &&
  (decide (PySem.W.mroIn K (He.ga K x) (.type "object") = some true) && decide (PySem.W.kitOne K (.ref (He.ga K x)) (.ref (He.ga K x)) = some true))))
structure InsC (K : PySem.W.Frag) (C : Addr) : Prop where
  ha : PySem.W.findIn K (.ref C) "__class__" = some (some (.builtin "object.__class__"))
  hn : PySem.W.specialIn K (.builtin "object.__class__") "__get__" = some (some (.builtin "getset_descriptor.__get__"))
  ht : PySem.W.takesIn K (.builtin "object.__class__") = some true
  hm : PySem.W.mroIn K C (.type "object") = some true
  is : PySem.W.kitOne K (.ref C) (.ref C) = some true
theorem tIns_ok {x : Str} {K : PySem.W.Frag} (c : tIns x K = true) : InsC K (He.ga K x) := by
  obtain ⟨h1, c⟩ := He.ba c
  obtain ⟨h2, c⟩ := He.ba c
  obtain ⟨h3, c⟩ := He.ba c
  obtain ⟨h4, h5⟩ := He.ba c
  exact ⟨He.eqO_ok h1, He.eqO_ok h2, of_decide_eq_true h3, of_decide_eq_true h4, of_decide_eq_true h5⟩
theorem InsC.ty {K : PySem.W.Frag} {C : Addr} (i : InsC K C) (cl : Cls K C) {H : Hp} {a dx : Addr} {fs : List (Str × V)} (e : H a = some (.ins C dx fs)) : TyX K H (.ref a) (.ref C) := .base (.ins e cl i.ha i.hn i.ht i.hm)
/-- the class at x, straight below object, has an __eq__ and no __ne__ -/
def tNe (x : Str) : Tst := fun K => match K.lookup (He.ga K x) with
  | some ⟨.type t, _, .cls cd, sl⟩ => decide (t = "type") && (decide (cd.mro = [.ref (He.ga K x), .type "object"]) && (cd.hasDict && (!cd.hasDel && ((match sl.toList with
      | [_, _, _, _, some (.builtin _), _] => true
      | _ => false) &&
      (PySem.W.nsOkIn K cd.ns && (He.eqO (PySem.W.nsIn K cd.ns "__eq__") (some (some (.ref (He.ma K (He.ga K x) "__eq__")))) && (He.eqO (PySem.W.nsIn K cd.ns "__ne__") (some none) &&
      (match K.lookup (He.ma K (He.ga K x) "__eq__") with
        | some ⟨.type f, _, _, _⟩ => decide (f = "function")
        | _ => false))))))))
  | _ => false
theorem tNe_ok {x : Str} {K : PySem.W.Frag} (c : tNe x K = true) : NeTxt K (He.ga K x) (He.ma K (He.ga K x) "__eq__") := by
  unfold tNe at c
  cases e : K.lookup (He.ga K x) with
  | none => rw [e] at c; cases c
  | some o =>
    rw [e] at c
    obtain ⟨oc, od, dt, sl⟩ := o
    cases oc with
    | type t =>
      cases dt with
      | cls cd =>
        obtain ⟨h1, c⟩ := He.ba c
        obtain ⟨h2, c⟩ := He.ba c
        obtain ⟨h3, c⟩ := He.ba c
        obtain ⟨h4, c⟩ := He.ba c
        obtain ⟨h5, c⟩ := He.ba c
        obtain ⟨h6, c⟩ := He.ba c
        obtain ⟨h7, c⟩ := He.ba c
        obtain ⟨h8, h9⟩ := He.ba c
        have e1 := of_decide_eq_true h1
        have e2 := of_decide_eq_true h2
        subst e1
        obtain ⟨nm, bs, mro, ns, qn, hdct, sn, sub, ab, col, hd⟩ := cd
        simp only at e2 h3 h4 h6 h7 h8
        subst e2
        cases hdct with
        | false => cases h3
        | true =>
          cases hd with
          | true => cases h4
          | false =>
            obtain ⟨sl⟩ := sl
            simp only at h5
            rcases sl with _ | ⟨a0, _ | ⟨a1, _ | ⟨a2, _ | ⟨a3, _ | ⟨a4, _ | ⟨a5, _ | ⟨a6, sl⟩⟩⟩⟩⟩⟩⟩
            case cons.cons.cons.cons.cons.cons.nil =>
              rcases a4 with _ | a4
              · cases h5
              cases a4 with
              | builtin n =>
                refine ⟨⟨nm, qn, ns, bs, sn, sub, ab, col, od, a0, a1, a2, a3, a5, n, e, h6, He.eqO_ok h7, He.eqO_ok h8⟩, ?_⟩
                cases e9 : K.lookup (He.ma K (He.ga K x) "__eq__") with
                | none => rw [e9] at h9; cases h9
                | some of =>
                  rw [e9] at h9
                  obtain ⟨fc, fdd, fdt, fsl⟩ := of
                  cases fc with
                  | type f => exact ⟨_, rfl, by rw [of_decide_eq_true h9]⟩
                  | _ => cases h9
              | _ => cases h5
            all_goals first | (cases h5; done) | (simp at h5; done) | (rcases a4 with _ | ⟨_⟩ <;> first | (cases h5; done) | (simp at h5; done))
      | _ => cases c
    | _ => cases dt <;> cases c
end Q7
set_option maxHeartbeats 2000000
namespace Q7
/-- q is n / D with n of size at most M -/
def ND (D M : Nat) (q : Rat) : Prop := ∃ n : Int, q = Rat.divInt n D ∧ n.natAbs ≤ M
theorem ND.mono {D M M' : Nat} {q : Rat} (h : ND D M q) (l : M ≤ M') : ND D M' q := by
  obtain ⟨n, e, b⟩ := h
  exact ⟨n, e, by omega⟩
theorem ND.zero (D : Nat) : ND D 0 0 := ⟨0, by rw [Rat.zero_divInt], by decide⟩
theorem ND.zeroM (D M : Nat) : ND D M 0 := (ND.zero D).mono (by omega)
theorem ND.add {D M M' : Nat} {p q : Rat} (hD : 0 < D) (hp : ND D M p) (hq : ND D M' q) : ND D (M + M') (p + q) := by
  obtain ⟨n, rfl, b⟩ := hp
  obtain ⟨m, rfl, c⟩ := hq
  refine ⟨n + m, ?_, by omega⟩
  have hD' : (D : Int) ≠ 0 := by omega
  rw [Rat.divInt_add_divInt _ _ hD' hD', ← Int.add_mul]
  exact Rat.divInt_mul_right (by omega)
theorem ND.neg {D M : Nat} {q : Rat} (h : ND D M q) : ND D M (-q) := by
  obtain ⟨n, rfl, b⟩ := h
  exact ⟨-n, by rw [Rat.neg_divInt], by omega⟩
theorem ND.mul {D M D' M' : Nat} {p q : Rat} (hp : ND D M p) (hq : ND D' M' q) : ND (D * D') (M * M') (p * q) := by
  obtain ⟨n, rfl, b⟩ := hp
  obtain ⟨m, rfl, c⟩ := hq
  refine ⟨n * m, ?_, ?_⟩
  · rw [Rat.divInt_mul_divInt]
    rw [Int.natCast_mul]
  · rw [Int.natAbs_mul]
    exact Nat.mul_le_mul b c
theorem ND.scale {D M k : Nat} {q : Rat} (hk : 0 < k) (h : ND D M q) : ND (D * k) (M * k) q := by
  obtain ⟨n, rfl, b⟩ := h
  refine ⟨n * k, ?_, ?_⟩
  · rw [Int.natCast_mul]
    exact (Rat.divInt_mul_right (by omega)).symm
  · rw [Int.natAbs_mul, Int.natAbs_natCast]
    exact Nat.mul_le_mul b (Nat.le_refl _)
theorem ND.B {D M n : Nat} {q : Rat} (hD : 0 < D) (h : ND D M q) (h1 : D < 2 ^ n) (h2 : M < 2 ^ n) : B n q := by
  obtain ⟨m, rfl, b⟩ := h
  exact B.div (by omega) (by omega) (by omega)
/-- a list of pairs within bounds -/
structure Gd (D M T L : Nat) (ps : Rw) : Prop where
  nd : ∀ p ∈ ps, ND D M p.2
  lo : ∀ p ∈ ps, 0 ≤ p.1
  hi : ∀ p ∈ ps, p.1 ≤ T
  len : ps.length ≤ L
theorem Gd.mono {D M T L M' T' L' : Nat} {ps : Rw} (h : Gd D M T L ps) (h1 : M ≤ M') (h2 : T ≤ T') (h3 : L ≤ L') : Gd D M' T' L' ps :=
  ⟨fun p hp => (h.nd p hp).mono h1, h.lo, fun p hp => by have := h.hi p hp; omega, by have := h.len; omega⟩
theorem Gd.app {D M T L L' : Nat} {a b : Rw} (ha : Gd D M T L a) (hb : Gd D M T L' b) : Gd D M T (L + L') (a ++ b) := by
  refine ⟨?_, ?_, ?_, ?_⟩
  · intro p hp; rcases List.mem_append.mp hp with h | h; exact ha.nd p h; exact hb.nd p h
  · intro p hp; rcases List.mem_append.mp hp with h | h; exact ha.lo p h; exact hb.lo p h
  · intro p hp; rcases List.mem_append.mp hp with h | h; exact ha.hi p h; exact hb.hi p h
  · rw [List.length_append]; have := ha.len; have := hb.len; omega
theorem Gd.sub {D M T L : Nat} {a b : Rw} (h : Gd D M T L b) (s : a.Sublist b) : Gd D M T L a :=
  ⟨fun p hp => h.nd p (s.subset hp), fun p hp => h.lo p (s.subset hp), fun p hp => h.hi p (s.subset hp), Nat.le_trans s.length_le h.len⟩
theorem Gd.prod {D M T L D' M' T' L' : Nat} {a b : Rw} (ha : Gd D M T L a) (hb : Gd D' M' T' L' b) : Gd (D * D') (M * M') (T + T') (L * L') (prod a b) := by
  refine ⟨?_, ?_, ?_, ?_⟩
  · intro p hp
    obtain ⟨x, hx, h⟩ := List.mem_flatMap.mp hp
    obtain ⟨y, hy, rfl⟩ := List.mem_map.mp h
    exact (ha.nd x hx).mul (hb.nd y hy)
  · intro p hp
    obtain ⟨x, hx, h⟩ := List.mem_flatMap.mp hp
    obtain ⟨y, hy, rfl⟩ := List.mem_map.mp h
    have := ha.lo x hx; have := hb.lo y hy
    show 0 ≤ x.1 + y.1
    omega
  · intro p hp
    obtain ⟨x, hx, h⟩ := List.mem_flatMap.mp hp
    obtain ⟨y, hy, rfl⟩ := List.mem_map.mp h
    have := ha.hi x hx; have := hb.hi y hy
    show x.1 + y.1 ≤ _
    omega
  · have e : (Q7.prod a b).length = a.length * b.length := by
      unfold Q7.prod
      rw [List.length_flatMap]
      simp [List.map_const']
    rw [e]
    exact Nat.mul_le_mul ha.len hb.len
theorem ND.wt {D M : Nat} (hD : 0 < D) (t : Int) : ∀ {ps : Rw}, (∀ p ∈ ps, ND D M p.2) → ND D (ps.length * M) (wt (at_ t) ps)
  | [], _ => by simpa [Q7.wt] using ND.zero D
  | (u, q) :: r, h => by
    have ih := ND.wt hD t (ps := r) fun p hp => h p (List.mem_cons_of_mem _ hp)
    have h1 := h (u, q) List.mem_cons_self
    rw [List.length_cons, Nat.succ_mul, Nat.add_comm]
    show ND D (M + r.length * M) (q * at_ t u + Q7.wt (at_ t) r)
    refine ND.add hD ?_ ih
    unfold at_
    by_cases e : u = t
    · rw [if_pos e, Rat.mul_one]; exact h1
    · rw [if_neg e, Rat.mul_zero]; exact ND.zeroM D M
theorem Nf.wt_mem : ∀ {a : Rw}, Nf a → ∀ p ∈ a, wt (at_ p.1) a = p.2
  | (t, q) :: r, h, p, hp => by
    rcases List.mem_cons.mp hp with rfl | hp
    · exact wt_at_head fun x hx => by have := h.head x hx; show x.1 ≠ t; simp only at this; omega
    · have e := Nf.wt_mem h.tail p hp
      have l := h.head p hp
      show q * at_ p.1 t + wt (at_ p.1) r = _
      unfold at_ at *
      rw [if_neg (by simp only at l; omega), Rat.mul_zero, Rat.zero_add]
      exact e
theorem len_range : ∀ {l : List Int} {lo hi : Int}, l.Pairwise (· < ·) → (∀ x ∈ l, lo ≤ x ∧ x ≤ hi) → lo ≤ hi + 1 → (l.length : Int) ≤ hi + 1 - lo
  | [], lo, hi, _, _, h => by simp only [List.length_nil]; omega
  | x :: r, lo, hi, hp, hb, h => by
    have h1 := hb x List.mem_cons_self
    have h2 := List.pairwise_cons.mp hp
    have := len_range (l := r) (lo := x + 1) (hi := hi) h2.2 (fun y hy => ⟨by have := h2.1 y hy; omega, (hb y (List.mem_cons_of_mem _ hy)).2⟩) (by omega)
    rw [List.length_cons]
    omega
theorem look_mem : ∀ {m : Rw} {t : Int}, (∀ p ∈ m, p.1 ≠ t) → look m t = 0
  | [], _, _ => rfl
  | (u, x) :: r, t, h => by
    unfold look
    rw [if_neg (h (u, x) List.mem_cons_self)]
    exact look_mem fun p hp => h p (List.mem_cons_of_mem _ hp)
theorem look_wt : ∀ {m : Rw}, (m.map (·.1)).Nodup → ∀ t, look m t = wt (at_ t) m
  | [], _, t => rfl
  | (u, x) :: r, h, t => by
    have h1 := List.nodup_cons.mp h
    unfold look
    by_cases e : u = t
    · subst e
      rw [if_pos rfl]
      exact (wt_at_head fun p hp e => h1.1 (List.mem_map.mpr ⟨p, hp, e⟩)).symm
    · rw [if_neg e, look_wt h1.2 t]
      show _ = x * at_ t u + _
      unfold at_
      rw [if_neg e, Rat.mul_zero, Rat.zero_add]
theorem look_sums (ps : Rw) (t : Int) : look (sums ps) t = wt (at_ t) ps := by rw [look_wt (sums_nodup ps), wt_sums]
theorem sums_keys_go : ∀ (ps m : Rw) (k : Int), k ∈ (ps.foldl (fun m p => putS m p.1 p.2) m).map (·.1) → k ∈ m.map (·.1) ∨ k ∈ ps.map (·.1)
  | [], m, k, h => .inl h
  | (t, q) :: r, m, k, h => by
    rcases sums_keys_go r _ k h with h | h
    · rw [put_keys] at h
      by_cases h2 : t ∈ m.map (·.1)
      · rw [if_pos h2] at h; exact .inl h
      · rw [if_neg h2] at h
        rcases List.mem_append.mp h with h | h
        · exact .inl h
        · rw [List.mem_singleton] at h
          subst h
          exact .inr (by simp)
    · exact .inr (List.mem_cons_of_mem _ h)
theorem sums_keys {ps : Rw} {k : Int} (h : k ∈ (sums ps).map (·.1)) : k ∈ ps.map (·.1) := by
  rcases sums_keys_go ps [] k h with h | h
  · simp at h
  · exact h
theorem put_len (t : Int) (q : Rat) (m : Rw) : (putS m t q).length ≤ m.length + 1 := by
  have := congrArg List.length (put_keys t q m)
  rw [List.length_map] at this
  rw [this]
  split <;> simp
theorem sums_len_go : ∀ (ps m : Rw), (ps.foldl (fun m p => putS m p.1 p.2) m).length ≤ m.length + ps.length
  | [], m => by simp
  | (t, q) :: r, m => by
    have h := sums_len_go r (putS m t q)
    have := put_len t q m
    simp only [List.foldl, List.length_cons]
    omega
theorem sums_len (ps : Rw) : (sums ps).length ≤ ps.length := by
  have := sums_len_go ps []
  simpa [sums] using this
theorem norm_sub (ps : Rw) : ∀ p ∈ norm ps, p.1 ∈ ps.map (·.1) := by
  intro p hp
  unfold norm pick at hp
  obtain ⟨k, hk, rfl⟩ := List.mem_map.mp (List.mem_filter.mp hp).1
  exact sums_keys (List.mem_mergeSort.mp hk)
theorem norm_len (ps : Rw) : (norm ps).length ≤ ps.length := by
  unfold norm pick
  refine Nat.le_trans (List.length_filter_le _ _) ?_
  rw [List.length_map, List.length_mergeSort, List.length_map]
  exact sums_len ps
theorem Gd.norm {D M T L : Nat} {ps : Rw} (hD : 0 < D) (h : Gd D M T L ps) : Gd D (L * M) T L (norm ps) := by
  have key : ∀ p ∈ Q7.norm ps, 0 ≤ p.1 ∧ p.1 ≤ T := fun p hp => by
    obtain ⟨x, hx, e⟩ := List.mem_map.mp (norm_sub ps p hp)
    rw [← e]
    exact ⟨h.lo x hx, h.hi x hx⟩
  refine ⟨fun p hp => ?_, fun p hp => (key p hp).1, fun p hp => (key p hp).2, Nat.le_trans (norm_len ps) h.len⟩
  rw [← (norm_nf ps).wt_mem p hp, wt_norm]
  exact (ND.wt hD _ h.nd).mono (Nat.mul_le_mul h.len (Nat.le_refl _))
/-- as many as ticks, at most -/
theorem Gd.short {D M T L : Nat} {a : Rw} (n : Nf a) (h : Gd D M T L a) : Gd D M T (T + 1) a := by
  refine ⟨h.nd, h.lo, h.hi, ?_⟩
  have := len_range (l := a.map (·.1)) (lo := 0) (hi := T) (List.pairwise_map.mpr n.asc) (fun x hx => by
    obtain ⟨p, hp, rfl⟩ := List.mem_map.mp hx
    exact ⟨h.lo p hp, h.hi p hp⟩) (by omega)
  rw [List.length_map] at this
  omega
theorem Gd.normT {D M T L : Nat} {ps : Rw} (hD : 0 < D) (h : Gd D M T L ps) : Gd D (L * M) T (T + 1) (Q7.norm ps) := (h.norm hD).short (norm_nf ps)
theorem ND.sum {D M : Nat} (hD : 0 < D) : ∀ {qs : List Rat}, (∀ q ∈ qs, ND D M q) → ND D (qs.length * M) qs.sum
  | [], _ => by simpa using ND.zero D
  | q :: r, h => by
    have ih := ND.sum hD (qs := r) fun p hp => h p (List.mem_cons_of_mem _ hp)
    rw [List.length_cons, Nat.succ_mul, Nat.add_comm, List.sum_cons]
    exact ND.add hD (h q List.mem_cons_self) ih
/-- within the bounds of one row -/
def Gq (ps : Rw) : Prop := ∃ D M T, Gd D M T 63 ps ∧ 0 < D ∧ D < 2 ^ 2900 ∧ M < 2 ^ 2900
theorem Gq.of {D M T L : Nat} {ps : Rw} (h : Gd D M T L ps) (hD : 0 < D) (h1 : D < 2 ^ 2900) (h2 : M < 2 ^ 2900) (h3 : L ≤ 63) : Gq ps := ⟨D, M, T, h.mono (Nat.le_refl _) (Nat.le_refl _) h3, hD, h1, h2⟩
theorem pow_le' {a b : Nat} (h : a ≤ b) : (2 : Nat) ^ a ≤ 2 ^ b := Nat.pow_le_pow_right (by omega) h
theorem lt_1000 {D : Nat} (h : D < 2 ^ 2900) : D < 2 ^ 3000 := Nat.lt_of_lt_of_le h (pow_le' (by omega))
theorem lt_1006 {M n : Nat} (h : M < 2 ^ 2900) (hn : n ≤ 64) : n * M < 2 ^ 3000 := by
  have h1 : n * M ≤ 2 ^ 6 * M := Nat.mul_le_mul (by omega) (Nat.le_refl _)
  have h2 : 2 ^ 6 * M < 2 ^ 6 * 2 ^ 2900 := Nat.mul_lt_mul_of_pos_left h (by omega)
  rw [← Nat.pow_add] at h2
  have h3 := pow_le' (show 6 + 2900 ≤ 3000 by omega)
  omega
theorem Gq.mem {ps : Rw} (h : Gq ps) : ∀ p ∈ ps, B 3000 p.2 := fun p hp => by
  obtain ⟨D, M, T, g, hD, h1, h2⟩ := h
  exact (g.nd p hp).B hD (lt_1000 h1) (Nat.lt_of_lt_of_le h2 (pow_le' (by omega)))
theorem Gq.lo {ps : Rw} (h : Gq ps) : ∀ p ∈ ps, 0 ≤ p.1 := fun p hp => by
  obtain ⟨D, M, T, g, _⟩ := h
  exact g.lo p hp
theorem Gq.len {ps : Rw} (h : Gq ps) : ps.length ≤ 63 := by
  obtain ⟨D, M, T, g, _⟩ := h
  exact g.len
theorem Gq.sub {a b : Rw} (h : Gq b) (s : a.Sublist b) : Gq a := by
  obtain ⟨D, M, T, g, r⟩ := h
  exact ⟨D, M, T, g.sub s, r⟩
theorem Gq.look {ps : Rw} (h : Gq ps) (i : Nat) (t : Int) : B 3000 (look (sums (ps.take i)) t) := by
  obtain ⟨D, M, T, g, hD, h1, h2⟩ := h
  rw [look_sums]
  refine (ND.wt hD t (ps := ps.take i) (M := M) fun p hp => g.nd p (List.mem_of_mem_take hp)).B hD (lt_1000 h1) (lt_1006 h2 ?_)
  rw [List.length_take]
  have := g.len
  omega
theorem Gq.look' {ps : Rw} (h : Gq ps) (t : Int) : B 3000 (Q7.look (sums ps) t) := by
  have := h.look ps.length t
  rwa [List.take_length] at this
theorem Gq.psum {ps : Rw} (h : Gq ps) (i : Nat) : B 3000 ((ps.map (·.2)).take i).sum := by
  obtain ⟨D, M, T, g, hD, h1, h2⟩ := h
  refine (ND.sum hD (qs := (ps.map (·.2)).take i) (M := M) fun q hq => ?_).B hD (lt_1000 h1) (lt_1006 h2 ?_)
  · obtain ⟨p, hp, rfl⟩ := List.mem_map.mp (List.mem_of_mem_take hq)
    exact g.nd p hp
  · rw [List.length_take, List.length_map]
    have := g.len
    omega
end Q7
set_option maxRecDepth 100000
set_option maxHeartbeats 4000000
namespace Q7
open PySem PySem.Spec PyProof.Rows L2
theorem tyT {K : PySem.W.Frag} {H : Hp} {p : Addr} {xs : List V} (h : SqT K H p xs) : TyX K H (.ref p) (.type "tuple") := by
  rcases h with (h | ⟨o, h⟩) | ⟨o, us, n, h, hc, _⟩
  · exact .base (.tup h)
  · exact .fTuple h
  · exact .kTuple h hc
theorem tyL {K : PySem.W.Frag} {H : Hp} {p : Addr} {xs : List V} (h : SqL K H p xs) : TyX K H (.ref p) (.type "list") := by
  rcases h with (h | ⟨o, h⟩) | ⟨o, us, n, h, hc, _⟩
  · exact .base (.lst h)
  · exact .base (.frz h)
  · exact .kList h hc
/-- a dict comprehension over a list that stays -/
theorem dc_list {K : PySem.W.Frag} {a : Addr} {xs : List V} {g : TG} {tt : TT} {tk tv : TE} {vs : List Nat} {σ : L2.St} {H1 : Hp} {D : Addr} {Qd : Hp → Prop} (Pv : Nat → Hp → Prop) (h0 : Pv 0 (upd H1 D (.dK []))) (hl : ∀ i H, i ≤ xs.length → Pv i H → SqL K H a xs)
    (hs : ∀ i x H, xs[i]? = some x → Pv i H → g x (wipe σ vs) H fun σ2 H2 => wipe σ2 vs = wipe σ vs ∧ tt σ2 H2 fun b H3 =>
      if b = true then tk σ2 H3 fun y H4 => tv σ2 H4 fun z H5 => ∃ kvs k, y = kV k ∧ H5 D = some (.dK kvs) ∧ kvs.length < sizeLine ∧ Pv (i + 1) (upd H5 D (.dK (putK kvs k z))) else Pv (i + 1) H3) (hd : ∀ H, Pv xs.length H → Qd H) :
    ∃ W : Nat → Nat → Hp → Prop, (∃ m, W 0 m (upd H1 D (.dK []))) ∧ ∀ i m H, W i m H →
      ((Itl K a).stop i H ∧ Qd H) ∨ ((Itl K a).go i H ∧ ∃ Nx : Hp → Prop, (∀ H', Nx H' → ∃ m', m' < m ∧ W (i + 1) m' H') ∧ ∀ x H', (Itl K a).yld i H x H' → g x (wipe σ vs) H' fun σ2 H2 => wipe σ2 vs = wipe σ vs ∧ tt σ2 H2 fun b H3 =>
        if b = true then tk σ2 H3 fun y H4 => tv σ2 H4 fun z H5 => ∃ kvs k, y = kV k ∧ H5 D = some (.dK kvs) ∧ kvs.length < sizeLine ∧ Nx (upd H5 D (.dK (putK kvs k z))) else Nx H3) := by
  refine ⟨fun i m H => m = xs.length - i ∧ i ≤ xs.length ∧ Pv i H, ⟨xs.length, by simp, Nat.zero_le _, h0⟩, ?_⟩
  rintro i m H ⟨rfl, hi, p⟩
  have q := hl i H hi p
  by_cases hlt : i < xs.length
  · refine .inr ⟨⟨xs, xs[i], q, by simp [hlt]⟩, Pv (i + 1), fun H' p' => ⟨xs.length - (i + 1), by omega, rfl, hlt, p'⟩, fun x H' y => ?_⟩
    obtain ⟨e, y⟩ := y
    subst e
    exact hs i x _ (y xs q) p
  · have e : i = xs.length := by omega
    subst e
    exact .inl ⟨⟨xs, q, Nat.le_refl _⟩, hd H p⟩
/-! ### dicts of fractions -/
def KvF (K : PySem.W.Frag) (H : Hp) : List (Key × V) → Rw → Prop := Paired fun kv p => kv.1 = Sum.inl p.1 ∧ FrV K H kv.2 p.2
section
variable {K : PySem.W.Frag} {H H' : Hp}
theorem kvF_tk : ∀ {ks : List (Key × V)} {m : Rw}, KvF K H ks m → TK H H' → KvF K H' ks m
  | _, _, .nil, _ => .nil
  | _, _, .cons h r, t => .cons ⟨h.1, frV_tk h.2 t⟩ (kvF_tk r t)
theorem kvF_get (t : Int) : ∀ {ks : List (Key × V)} {m : Rw}, KvF K H ks m → (valV ks (Sum.inl t) = none ∧ t ∉ m.map (·.1) ∧ look m t = 0) ∨ ∃ v, valV ks (Sum.inl t) = some v ∧ t ∈ m.map (·.1) ∧ FrV K H v (look m t)
  | _, _, .nil => .inl ⟨rfl, by simp, rfl⟩
  | _, _, .cons (a := kv) (b := (u, x)) (l₁ := ks) (l₂ := m) h r => by
    by_cases e : u = t
    · subst e
      exact .inr ⟨kv.2, valV_pos h.1, by simp, by unfold look; rw [if_pos rfl]; exact h.2⟩
    · have e2 : ¬ kv.1 = Sum.inl t := fun q => e (by rw [h.1] at q; exact Sum.inl.inj q)
      unfold look
      rw [valV_neg e2, if_neg e]
      rcases kvF_get t r with ⟨a, b, c⟩ | ⟨v, a, b, c⟩
      · exact .inl ⟨a, by simp only [List.map_cons, List.mem_cons]; rintro (q | q); exact e q.symm; exact b q, c⟩
      · exact .inr ⟨v, a, List.mem_cons_of_mem _ b, c⟩
theorem putK_eq {kv : Key × V} {r : List (Key × V)} {k : Key} {v : V} (e : kv.1 = k) (n : valV r k = none) : putK (kv :: r) k v = (kv.1, v) :: r := by
  unfold putK
  rw [if_pos (by rw [List.any_cons, decide_eq_true e]; rfl), List.map_cons, if_pos e]
  congr 1
  have : ∀ q ∈ r, (if q.1 = k then (q.1, v) else q) = q := fun q hq => by
    have h1 : (r.any fun kv => decide (kv.1 = k)) = false := by rw [valV_any, n]; rfl
    rw [if_neg fun e => by
      have := List.any_eq_false.mp h1 q hq
      exact this (decide_eq_true e)]
  exact (List.map_congr_left this).trans (List.map_id r)
theorem putK_ne {kv : Key × V} {r : List (Key × V)} {k : Key} {v : V} (e : ¬ kv.1 = k) : putK (kv :: r) k v = kv :: putK r k v := by
  unfold putK
  rw [List.any_cons, decide_eq_false e, Bool.false_or]
  by_cases h : (r.any fun kv => decide (kv.1 = k)) = true
  · rw [if_pos h, if_pos h, List.map_cons, if_neg e]
  · rw [if_neg h, if_neg h]
    rfl
theorem kvF_put {t : Int} {v : V} {q : Rat} : ∀ {ks : List (Key × V)} {m : Rw}, KvF K H ks m → (m.map (·.1)).Nodup → FrV K H v (look m t + q) → KvF K H (putK ks (Sum.inl t) v) (putS m t q)
  | _, _, .nil, _, f => .cons ⟨rfl, f⟩ .nil
  | _, _, .cons (a := kv) (b := (u, x)) (l₁ := ks) (l₂ := m) h r, nd, f => by
    have h1 := List.nodup_cons.mp nd
    unfold look at f
    unfold putS
    by_cases e : u = t
    · subst e
      rw [if_pos rfl] at f
      rw [if_pos rfl]
      rcases kvF_get u r with ⟨a, b, c⟩ | ⟨w, a, b, c⟩
      · rw [putK_eq h.1 a]
        exact .cons ⟨h.1, f⟩ r
      · exact absurd b h1.1
    · have e2 : ¬ kv.1 = Sum.inl t := fun q => e (by rw [h.1] at q; exact Sum.inl.inj q)
      rw [if_neg e] at f
      rw [if_neg e, putK_ne e2]
      exact .cons h (kvF_put r h1.2 f)
theorem kvF_keys : ∀ {ks : List (Key × V)} {m : Rw}, KvF K H ks m → ks.map (·.1) = (m.map (·.1)).map Sum.inl
  | _, _, .nil => rfl
  | _, _, .cons h r => by
    simp only [List.map_cons]
    rw [h.1, kvF_keys r]
theorem kvF_items {ts : List Addr} {ks : List (Key × V)} {m : Rw} (h : KvF K H ks m) (s : TK H H') (p : Paired (fun (t : Addr) (q : Key × V) => H' t = some (.tup [kV q.1, q.2])) ts ks) : PrsV K H' (ts.map V.ref) m := by
  induction p generalizing m with
  | nil => cases h; exact .nil
  | cons r _ ih =>
    cases h with
    | @cons _ q _ m h1 h2 =>
      obtain ⟨e, f⟩ := h1
      refine .cons ⟨_, _, rfl, sqT_of ?_, frV_tk f s⟩ (ih h2)
      rw [r, e]
      rfl
/-- an own row at v: its shares are a -/
def RowAt (K : PySem.W.Frag) (C : Addr) (H : Hp) (v : V) (a : Rw) : Prop := ∃ x dx d ks, v = .ref x ∧ H x = some (.ins C dx [("_shares", .ref d)]) ∧ H d = some (.dK ks) ∧ KvF K H ks a ∧ Nf a
theorem rowAt_same {C : Addr} {v : V} {a : Rw} (h : RowAt K C H v a) (s : Same H H') : RowAt K C H' v a := by
  obtain ⟨x, dx, d, ks, e, h1, h2, h3, n⟩ := h
  exact ⟨x, dx, d, ks, e, s _ _ h1, s _ _ h2, kvF_tk h3 (same_tk s), n⟩
theorem pick_snoc {m : Rw} {ys : List Int} {i : Nat} {t : Int} (h : ys[i]? = some t) : pick m (ys.take (i + 1)) = if look m t = 0 then pick m (ys.take i) else pick m (ys.take i) ++ [(t, look m t)] := by
  unfold pick
  rw [List.take_succ, h, List.map_append, List.filter_append]
  by_cases e : look m t = 0
  · rw [if_pos e]
    simp [e]
  · rw [if_neg e]
    simp [e]
theorem kvF_snoc {ks : List (Key × V)} {m : Rw} {t : Int} {v : V} {q : Rat} (h : KvF K H ks m) (f : FrV K H v q) : KvF K H (ks ++ [(Sum.inl t, v)]) (m ++ [(t, q)]) := pApp h (.cons ⟨rfl, f⟩ .nil)
theorem sums_take {ps : Rw} {i : Nat} {p : Int × Rat} (h : ps[i]? = some p) : sums (ps.take (i + 1)) = putS (sums (ps.take i)) p.1 p.2 := by
  rw [List.take_succ, h]
  exact sums_snoc _ p
theorem pick_key {m : Rw} {ys : List Int} (nd : ys.Nodup) {i : Nat} {t : Int} (h : ys[i]? = some t) : t ∉ (pick m (ys.take i)).map (·.1) := by
  intro q
  obtain ⟨p, hp, e⟩ := List.mem_map.mp q
  unfold pick at hp
  obtain ⟨k, hk, rfl⟩ := List.mem_map.mp (List.mem_filter.mp hp).1
  simp only at e
  subst e
  obtain ⟨j, hj, e2⟩ := List.getElem_of_mem hk
  rw [List.getElem_take] at e2
  rw [List.length_take] at hj
  have e3 : ys[j]? = ys[i]? := by rw [h, List.getElem?_eq_getElem (by omega), e2]
  have := (List.getElem?_inj (by omega) nd).mp e3
  omega
theorem frV_same {v : V} {q : Rat} (h : FrV K H v q) (s : Same H H') : FrV K H' v q := frV_tk h (same_tk s)
end
end Q7
set_option maxRecDepth 100000
set_option maxHeartbeats 4000000
namespace Q7
open PySem PySem.Spec PyProof.Rows L2
/-- the turns over a list that stays, from any heap, with any body -/
theorem turn_list {K : PySem.W.Frag} {a : Addr} {xs : List V} {g : TG} {tt : TT} (Bd : L2.St → Hp → (Hp → Prop) → Prop) {vs : List Nat} {σ : L2.St} {Hs : Hp} {Qd : Hp → Prop} (Pv : Nat → Hp → Prop) (h0 : Pv 0 Hs) (hl : ∀ i H, i ≤ xs.length → Pv i H → SqL K H a xs)
    (hs : ∀ i x H, xs[i]? = some x → Pv i H → g x (wipe σ vs) H fun σ2 H2 => wipe σ2 vs = wipe σ vs ∧ tt σ2 H2 fun b H3 =>
      if b = true then Bd σ2 H3 (Pv (i + 1)) else Pv (i + 1) H3) (hd : ∀ H, Pv xs.length H → Qd H) :
    ∃ W : Nat → Nat → Hp → Prop, (∃ m, W 0 m Hs) ∧ ∀ i m H, W i m H →
      ((Itl K a).stop i H ∧ Qd H) ∨ ((Itl K a).go i H ∧ ∃ Nx : Hp → Prop, (∀ H', Nx H' → ∃ m', m' < m ∧ W (i + 1) m' H') ∧ ∀ x H', (Itl K a).yld i H x H' → g x (wipe σ vs) H' fun σ2 H2 => wipe σ2 vs = wipe σ vs ∧ tt σ2 H2 fun b H3 =>
        if b = true then Bd σ2 H3 Nx else Nx H3) := by
  refine ⟨fun i m H => m = xs.length - i ∧ i ≤ xs.length ∧ Pv i H, ⟨xs.length, by simp, Nat.zero_le _, h0⟩, ?_⟩
  rintro i m H ⟨rfl, hi, p⟩
  have q := hl i H hi p
  by_cases hlt : i < xs.length
  · refine .inr ⟨⟨xs, xs[i], q, by simp [hlt]⟩, Pv (i + 1), fun H' p' => ⟨xs.length - (i + 1), by omega, rfl, hlt, p'⟩, fun x H' y => ?_⟩
    obtain ⟨e, y⟩ := y
    subst e
    exact hs i x _ (y xs q) p
  · have e : i = xs.length := by omega
    subst e
    exact .inl ⟨⟨xs, q, Nat.le_refl _⟩, hd H p⟩
/-! ### equality of dicts of fractions -/
def enc (a : Rw) : List (Key × PyData) := a.map fun p => (Sum.inl p.1, fr p.2)
theorem kvF_kvd {K : PySem.W.Frag} {H : Hp} : ∀ {ks : List (Key × V)} {m : Rw}, KvF K H ks m → KvD K H ks (enc m)
  | _, _, .nil => .nil
  | _, _, .cons h r => .cons ⟨h.1, frV_dp h.2, sh_fr _⟩ (kvF_kvd r)
theorem find_enc (t : Int) : ∀ {b : Rw}, (∃ q, findD (enc b) (Sum.inl t) = some (fr q) ∧ (t, q) ∈ b) ∨ (findD (enc b) (Sum.inl t) = none ∧ t ∉ b.map (·.1))
  | [] => .inr ⟨rfl, by simp⟩
  | (u, x) :: b => by
    by_cases e : u = t
    · subst e
      refine .inl ⟨x, ?_, List.mem_cons_self⟩
      unfold findD enc
      rw [List.map_cons, List.find?_cons_of_pos (by simp)]
      rfl
    · have e2 : findD (enc ((u, x) :: b)) (Sum.inl t) = findD (enc b) (Sum.inl t) := by
        unfold findD enc
        rw [List.map_cons, List.find?_cons_of_neg (by simp; exact e)]
      rw [e2]
      rcases find_enc t (b := b) with ⟨q, h1, h2⟩ | ⟨h1, h2⟩
      · exact .inl ⟨q, h1, List.mem_cons_of_mem _ h2⟩
      · exact .inr ⟨h1, by simp only [List.map_cons, List.mem_cons]; rintro (q | q); exact e q.symm; exact h2 q⟩
theorem sub_len : ∀ {b a : Rw}, (a.Pairwise fun x y => x.1 < y.1) → (b.Pairwise fun x y => x.1 < y.1) → (∀ p ∈ a, p ∈ b) → a.length ≤ b.length ∧ (a.length = b.length → a = b)
  | [], a, _, _, s => by
    cases a with
    | nil => exact ⟨Nat.le_refl _, fun _ => rfl⟩
    | cons p r => exact absurd (s p List.mem_cons_self) (by simp)
  | q :: b, [], _, _, _ => ⟨by simp, fun h => by simp at h⟩
  | q :: b, p :: a, ha, hb, s => by
    have a2 := List.pairwise_cons.mp ha
    have b2 := List.pairwise_cons.mp hb
    rcases List.mem_cons.mp (s p List.mem_cons_self) with e | h
    · subst e
      have ih := sub_len (b := b) (a := a) a2.2 b2.2 fun x hx => by
        rcases List.mem_cons.mp (s x (List.mem_cons_of_mem _ hx)) with e | h
        · subst e; have := a2.1 x hx; omega
        · exact h
      refine ⟨by simp only [List.length_cons]; omega, fun h => ?_⟩
      rw [ih.2 (by simp only [List.length_cons] at h; omega)]
    · have ih := sub_len (b := b) (a := p :: a) ha b2.2 fun x hx => by
        rcases List.mem_cons.mp hx with rfl | hx2
        · exact h
        · rcases List.mem_cons.mp (s x hx) with e | h2
          · subst e; have h3 := a2.1 x hx2; have h4 := b2.1 p h; omega
          · exact h2
      refine ⟨by simp only [List.length_cons] at *; omega, fun h => ?_⟩
      simp only [List.length_cons] at *
      omega
theorem nd_of_asc {b : Rw} (h : b.Pairwise fun x y => x.1 < y.1) {t : Int} {x y : Rat} (h1 : (t, x) ∈ b) (h2 : (t, y) ∈ b) : x = y := by
  induction b with
  | nil => simp at h1
  | cons p r ih =>
    have h3 := List.pairwise_cons.mp h
    rcases List.mem_cons.mp h1 with e | m1
    · rcases List.mem_cons.mp h2 with e2 | m2
      · rw [← e] at e2; exact (Prod.mk.inj e2).2.symm
      · have := h3.1 _ m2; rw [← e] at this; simp at this
    · rcases List.mem_cons.mp h2 with e2 | m2
      · have := h3.1 _ m1; rw [← e2] at this; simp at this
      · exact ih h3.2 m1 m2
theorem eqKv_enc {a b : Rw} (na : Nf a) (nb : Nf b) : eqKv (enc a) (enc b) = decide (a = b) := by
  unfold eqKv
  rw [show (enc a).length = a.length from List.length_map .., show (enc b).length = b.length from List.length_map ..]
  by_cases hl : a.length = b.length
  · rw [show (a.length == b.length) = true by simpa using hl, Bool.true_and]
    by_cases h : ∀ p ∈ a, p ∈ b
    · have e := (sub_len na.asc nb.asc h).2 hl
      subst e
      rw [decide_eq_true rfl, List.all_eq_true]
      intro q hq
      obtain ⟨p, hp, rfl⟩ := List.mem_map.mp hq
      simp only
      rcases find_enc p.1 (b := a) with ⟨x, h1, h2⟩ | ⟨_, h2⟩
      · rw [h1]
        simp only
        rw [nd_of_asc na.asc h2 hp, eqv_fr, decide_eq_true rfl]
      · exact absurd (List.mem_map.mpr ⟨p, hp, rfl⟩) h2
    · rw [decide_eq_false fun e => h (by subst e; exact fun p hp => hp)]
      rw [List.all_eq_false]
      have ⟨p, hp⟩ := Classical.not_forall.mp h
      have ⟨hp1, hp2⟩ := Classical.not_imp.mp hp
      refine ⟨_, List.mem_map.mpr ⟨p, hp1, rfl⟩, ?_⟩
      simp only
      rcases find_enc p.1 (b := b) with ⟨x, h1, h2⟩ | ⟨h1, _⟩
      · rw [h1]
        simp only
        rw [eqv_fr, decide_eq_false]
        · simp
        · intro e; exact hp2 (by rw [← e] at h2; exact h2)
      · rw [h1]
        simp
  · rw [show (a.length == b.length) = false by simpa using hl, Bool.false_and, decide_eq_false fun e => hl (by rw [e])]
end Q7
set_option maxRecDepth 100000
set_option maxHeartbeats 4000000
namespace Q7
open PySem PySem.Spec PyProof.Rows L2
/-! ### defs that may ask for a repr: entered where no repr runs -/
section
variable {P : Program} {w : World} {K : PySem.W.Frag} {mg : Str → Option Value} {base : Heap} {fd : FuncData} {f : Addr} {sp : Sp}
structure FnG (P : Program) (w : World) (K : PySem.W.Frag) (mg : Str → Option Value) (base : Heap) (lev : Nat) (f : Addr) (fd : FuncData) (params : List Str) (sp : Sp) : Prop where
  many : ∀ as H Q E, sp as H Q E → as.length = params.length
  goes : ∀ (Ar : Around) (envs : List Env) (st : Shared) (H : Hp) (got : Args) (raw : List Value) (as : List V) (Q : VK) (E : XK), Ar.guards = some [] → Room lev Ar → sp as H Q E →
    Vals as raw → BindsTo st fd got (params.zip raw) → Env0 P w K mg base Ar envs st H → codeAny (model P w) Ar (.call (.ref f) got) (CR CX0 envs P w H st Q E) st
theorem FnG.mono {j k : Nat} {ps : List Str} (F : FnG P w K mg base j f fd ps sp) (le : j ≤ k) : FnG P w K mg base k f fd ps sp :=
  ⟨F.many, fun Ar envs st H got raw as Q E g room => F.goes Ar envs st H got raw as Q E g (room.mono le)⟩
/-- a def, from its body, where no repr runs -/
theorem okG {k : Nat} {x qual : Str} {params : Arguments} {body : List Stmt} {scope : Scope} {dvs : List V} {kws : List (Str × V)} {N ps : List Str} (F : FunD K x qual params body scope dvs kws f fd) (S : FnScope N ps scope)
    (many : ∀ as H Q E, sp as H Q E → as.length = ps.length)
    (inner : ∀ (cdv : Value) (Ar : Around) (envs : List Env) (st : Shared) (H : Hp) (as : List V) (Q : VK) (E : XK), Ar.guards = some [] → Room k (Ar.deeper (envOfC qual scope st.heap.objs.size f cdv)) → sp as H Q E →
      ∃ rd, PSs (cxOf CX0 P w K mg base N qual scope f cdv Ar envs st H E) body rd ∧ rd { nx := fun _ H1 => Q .non H1, rt := Q } (start N as) H) : FnG P w K mg base (k + 1) f fd ps sp := by
  obtain ⟨_, _, _, _, _, _, _, cdv, _, _, rfl, look, code, _, _⟩ := F.ex
  refine ⟨many, fun Ar envs st H got raw as Q E g room prom vals bnd ev => ?_⟩
  have held : ∀ b o, base.get? b = some o → st.heap.get? b = some o := fun b o q => (ev.bs b o q).1
  have KI := ev.mod.kin.keeps held
  have noLim := ev.mod.nolimit.keeps held
  refine codeAny_call_function room.depth (KI _ _ look) rfl S.co S.gen rfl (PySem.W.codeRec_of KI code) (bnd _ _ _ _ ?_)
  refine wpAny_newFunctionEnv_cells S.kind (fun ⟨nm, va⟩ mem => ?_) fun en eq st1 lay => ?_
  · cases S.par nm (List.of_mem_zip mem).1 with
    | inl lo => exact .inl lo
    | inr ce => exact .inr ⟨ce, PySem.W.cellsFrom_some _ _ _ (.inl ce)⟩
  subst eq
  refine ⟨noLim.keeps lay.toInCall.keep, codeAny_func ?_⟩
  obtain ⟨rd, hrd, hq⟩ := inner cdv Ar envs st H as Q E g (room.deeper _) prom
  refine wpAny_mono (hrd.run [] st1 (start N as) H _ (inv_start S room.hd ev (many _ _ _ _ prom) vals lay) hq) (fun fl st2 res => ?_) fun _ _ q => q
  cases fl with
  | ret u =>
    obtain ⟨va, _, H1, J, rel, q⟩ := res
    exact ⟨va, H1, J.os, J.bare, J.base, J.hok, rel, q⟩
  | next =>
    obtain ⟨_, H1, J, q⟩ := res
    exact ⟨V.non, H1, J.os, J.bare, J.base, J.hok, rfl, q⟩
  | brk => exact res.elim fun _ z => z.elim fun _ z => z.2.elim
  | cont => exact res.elim fun _ z => z.elim fun _ z => z.2.elim
end
section
variable {X : Cx} {k : Nat} {f : Addr} {fd : FuncData} {ps : List Str} {sp : Sp} {x : Str} {e : Expr} {es : List Expr} {t : TA} {p pos : Pos}
theorem run_fnG {pins : List (Addr × Obj)} {σ : L2.St} {H : Hp} {s : Shared} {Q : VK} {raw : List Value} {as : List V} (F : FnG X.prog X.w X.K X.mg X.base k f fd ps sp) (room : Room k X.A) (g : X.A.guards = some []) (bnd : Binds X.K fd ps [])
    (I : Inv X pins σ H s) (vals : Vals as raw) (prom : sp as H Q E0) : wpAny (model X.prog X.w) X.A (call (.ref f) raw) (EP X pins σ Q) X.xe s := by
  have ln : raw.length = ps.length := by rw [← vals.length]; exact F.many _ _ _ _ prom
  have bn : BindsTo s fd ⟨raw, []⟩ (ps.zip raw) := by
    have := bnd s raw I.kIn (by simpa using ln)
    simpa using this
  refine wpAny_call (codeAny_mono (F.goes X.A X.stack s H ⟨raw, []⟩ raw as Q E0 g room prom vals bn I.env0) fun res s' hq => ?_)
  match res, hq with
  | .error _, q => exact q.elim
  | .ok (.ret _), q => exact I.after q
  | .ok .next, q => exact False.elim q
  | .ok .brk, q => exact False.elim q
  | .ok .cont, q => exact False.elim q
theorem pe_callG (F : FnG X.prog X.w X.K X.mg X.base k f fd ps sp) (room : Room k X.A) (g : X.A.guards = some []) (gl : Gl X x) (here : X.mg x = some (.ref f)) (kp : PySem.W.keepIn X.K (.ref f) = true) (bnd : Binds X.K fd ps []) (args : PA X (e :: es) t)
    (nd : (x == ("__debug__" : Str)) = false := by decide) (stars : starEach (e :: es) X.env = (false, eval e X.env) :: starEach es X.env := by rfl) (plain : (backTo pos (starEach es X.env)).any (·.1) = false := by rfl) :
    PE X (.Call (.Name x p) (e :: es) [] pos) (tCall sp [] E0 t) := by
  constructor
  intro pins s σ H Q I h
  refine wpAny_Call_Name_kw (ld_glob I gl here (PySem.W.callWith_K (h₀ := X.base) I.ok.mod.kin kp (thn (args.run pos pins s σ H _ I h) fun us s1 z => ?_) stars plain) nd)
  obtain ⟨vs, H1, I1, r, q⟩ := z
  exact ⟨I1.kIn, run_fnG F room g bnd I1 r (by rwa [List.append_nil] at q)⟩
end
end Q7
set_option maxRecDepth 100000
set_option maxHeartbeats 4000000
namespace Q7
open PySem PySem.Spec PyProof.Rows L2
/-! ### the law's own call, by such a promise -/
abbrev obS (raw : List Value) : Obj := { cls := .type "list", data := .seq raw.toArray }
theorem enterG {P : Program} {w : World} {K : PySem.W.Frag} {mg mb : Str → Option Value} {lev : Nat} {fa a : Addr} {fd : FuncData} {x : Str} {sp : Sp} {st : Shared} {raw : List Value} {ns : List Int}
    (KI : K.In st.heap) (glob : st.heap.Ns mainGlobals mg) (bl : st.heap.Ns builtinsNs mb) (boot : ∀ n : Str, n ≠ "__name__" → mb n = bootBuiltins n) (free : st.heap.NoLimit) (gens : st.gens = #[])
    (here : st.heap.get? a = some (obS raw)) (nums : IntsAre raw ns) (short : ns.length ≤ sizeLine) (room : Room lev callerA) (F : ∀ bs : Heap, K.In bs → bs.Ns mainGlobals mg → FnG P w K mg bs lev fa fd [x] sp)
    (bnd : ∀ (s : Shared) (u : Value), BindsTo s fd ⟨[u], []⟩ [(x, u)]) (prom : ∀ H : Hp, SqL K H a (ns.map V.int) → sp [.ref a] H (fun v _ => v = .bl true) fun _ _ _ => False) :
    codeAny (model P w) callerA (.call (.ref fa) ⟨[.ref a], []⟩) (fun r s' => r = .ok (.ret (.bool true)) ∧ OldK st.heap s'.heap ∧ s'.os = st.os ∧ AllBare s'.gens) st := by
  have vals := vals_ints nums
  have hlen : (ns.map V.int).length ≤ sizeLine := by rwa [List.length_map]
  have pickH : ∃ H : Hp, (∀ c u, H c = some u → c = a ∧ u = .frz (obS raw) (.lst (ns.map V.int)) ∧ K.lookup a = none) ∧ SqL K H a (ns.map V.int) := by
    by_cases own : K.lookup a = none
    · refine ⟨fun c => if c = a then some (.frz (obS raw) (.lst (ns.map V.int))) else none, fun c u q => ?_, .inl (.inr ⟨obS raw, if_pos rfl⟩)⟩
      by_cases ca : c = a
      · exact ⟨ca, Option.some.inj (q.symm.trans (if_pos ca)), own⟩
      · exact absurd (q.symm.trans (if_neg ca)) (by simp)
    · refine ⟨fun _ => none, fun c u q => by simp at q, ?_⟩
      obtain ⟨ob, hob⟩ := Option.ne_none_iff_exists'.mp own
      have : ob = obS raw := Option.some.inj ((KI a ob hob).symm.trans here)
      subst this
      exact .inr ⟨_, raw.toArray, _, hob, rfl, rfl, rfl, by rw [List.size_toArray, nums.length]; exact short, by simpa using vals⟩
  obtain ⟨H, only, seq⟩ := pickH
  have none_of : ∀ {c : Addr} {o : Obj}, st.heap.get? c = some o → (∀ u, o.data ≠ .seq raw.toArray u) → H c = none := fun {c o} q d => by
    cases hc : H c with
    | none => rfl
    | some u =>
      obtain ⟨rfl, _⟩ := only c u hc
      rw [here] at q
      cases q
      exact absurd rfl (d _)
  have nsOf : ∀ {c : Addr} {m : Str → Option Value}, st.heap.Ns c m → (hidT st.heap H).Ns c m := fun {c m} q => by
    obtain ⟨o, es, ep, q1, q2, q3⟩ := q
    exact ⟨o, es, ep, hidT_get q1 (none_of q1 fun u z => by rw [q2] at z; cases z), q2, q3⟩
  have KB : K.In (hidT st.heap H) := fun c o q => hidT_get (KI c o q) (by
    cases hc : H c with
    | none => rfl
    | some u =>
      obtain ⟨rfl, _, z⟩ := only c u hc
      rw [z] at q
      cases q)
  have hok : HOk P w H st.heap := fun c u q => by
    obtain ⟨rfl, rfl, _⟩ := only c u q
    exact ⟨here, hlen, raw, _, vals, here⟩
  obtain ⟨mc, fr1, fr2⟩ := free
  have ev : Env0 P w K mg (hidT st.heap H) callerA [] st H := {
    frames := rfl
    mod := ⟨KB, nsOf glob, ⟨mb, nsOf bl, boot⟩, mc, nsOf fr1, fr2⟩
    bs := fun c o q => of_hidT q
    bsz := Nat.le_of_eq (hidT_size st.heap H)
    funs := trivial
    frf := fun c q => nomatch q
    hok := hok
    bare := .of_eq gens }
  refine codeAny_mono ((F _ KB (nsOf glob)).goes callerA [] st H ⟨[.ref a], []⟩ [.ref a] [.ref a] _ _ rfl room (prom H seq) (.cons rfl .nil) (bnd st (.ref a)) ev) fun res s' q => ?_
  match res, q with
  | .error _, q => exact q.elim
  | .ok .next, q => exact False.elim q
  | .ok .brk, q => exact False.elim q
  | .ok .cont, q => exact False.elim q
  | .ok (.ret u), q =>
    obtain ⟨v, H1, os, bare, un, hok1, rel, rfl⟩ := q
    cases rel
    refine ⟨rfl, OldK.of_keep fun c o look => ?_, os, bare⟩
    cases hc : H c with
    | none => exact un.keep c o look hc (fun z => nomatch z) (by simp)
    | some u =>
      obtain ⟨rfl, rfl, _⟩ := only c u hc
      obtain ⟨l1, _⟩ := hok1 c _ (un.frzs c _ _ hc)
      rw [here] at look
      cases look
      exact l1
theorem walk_ofG {l : PySem.W.OpenLaw} {most lev : Nat} {q : Program} {loose : List Str} {XP : (Str → Option Value) → Heap → Prop} {YP : World → Heap → Prop} {d : DefRec} {x : Str} (hm : l.most = some most) (line : most ≤ sizeLine) (nodef : d.params.defaults = []) (room : Room lev callerA)
    (F : ∀ (w : World) (mg : Str → Option Value) (fa : Addr) (h : Heap), YP w h → h.Ns mainGlobals mg → mg d.name = some (.ref fa) → ∃ (K : PySem.W.Frag) (fd : FuncData) (sp : Sp), K.In h ∧ (∀ (s : Shared) (u : Value), BindsTo s fd ⟨[u], []⟩ [(x, u)]) ∧
      (∀ (H : Hp) (a : Addr) (ns : List Int), ns.length ≤ most → SqL K H a (ns.map V.int) → sp [.ref a] H (fun v _ => v = .bl true) fun _ _ _ => False) ∧ ∀ bs : Heap, K.In bs → bs.Ns mainGlobals mg → FnG l.prog w K mg bs lev fa fd [x] sp) :
    PySem.W.WalkO q loose XP YP l.row.toRowW d [] (fun f vs => PySem.call f vs) := by
  refine Att.attach_call hm nodef fun w _ st mg mb fa _ _ _ _ a raw ns gr Y _ _ _ named here nums few gens => ?_
  obtain ⟨K, fd, sp, KI, bnd, prom, FG⟩ := F w mg fa _ Y gr.T.g named
  exact enterG KI gr.T.g gr.T.b gr.T.builtins gr.T.nolimit gens here nums (Nat.le_trans few line) room FG bnd fun H seq => prom H a ns few seq
/-- an empty tuple of the written part -/
def tNil0 (ad : PySem.W.Frag → Addr) : Tst := fun K => match K.lookup (ad K) with
  | some ⟨.type c, _, .seq its _, _⟩ => decide (c = "tuple") && its.toList.isEmpty
  | _ => false
theorem tNil0_ok {ad : PySem.W.Frag → Addr} {K : PySem.W.Frag} (c : tNil0 ad K = true) (H : Hp) : SqT K H (ad K) [] := by
  unfold tNil0 at c
  cases e : K.lookup (ad K) with
  | none => rw [e] at c; cases c
  | some o =>
    rw [e] at c
    obtain ⟨oc, od, dt, sl⟩ := o
    cases oc with
    | type t =>
      cases dt with
      | seq its n =>
        obtain ⟨h1, h2⟩ := He.ba c
        have e1 := of_decide_eq_true h1
        subst e1
        obtain ⟨l⟩ := its
        cases l with
        | nil => exact .inr ⟨_, _, _, e, rfl, rfl, by simp, .nil⟩
        | cons _ _ => cases h2
      | _ => cases c
    | _ => cases dt <;> cases c
/-! ### repr of data -/
def rRepr (K : PySem.W.Frag) : List V → Hp → VK → Prop := fun as H Q => ∃ v d, as = [v] ∧ Dp K H v d ∧ d.showable = true ∧ d.hasDict = false ∧ d.depth ≤ 40 ∧ d.shown.length + 64 ≤ sizeLine ∧ (∃ p, v = .ref p) ∧ Q (.str d.shown) H
theorem call_reprG {X : Cx} (g : X.A.guards = some []) (hu : X.A.units + 70 < cLine) : CallR X (.builtin "repr") (rRepr X.K) := by
  intro pins s σ H as us Q I r h
  obtain ⟨v, d, rfl, dp, sh, nd, dep, sz, ⟨p, rfl⟩, q⟩ := h
  obtain ⟨u, rfl, rel⟩ := vals1 r
  cases rel
  obtain ⟨bs, rd⟩ := Dp.reads I d _ _ dp rfl
  refine repr_of_reads' rd sh (fun z => by rw [nd] at z; cases z) g (by omega) (fun _ _ z => z) (fun h' u tk kp => ?_) (by omega)
  exact ⟨.str _, H, I.kept (t' := tk) kp, ⟨_, rfl⟩, q⟩
end Q7
set_option maxHeartbeats 2000000
namespace Q7
def mv (n : Int) (a : Rw) : Rw := a.map fun p => (p.1 + n, p.2)
def upTo (n : Int) (a : Rw) : Rw := a.filter fun p => decide (p.1 ≤ n)
def eqAt (n : Int) (a : Rw) : Rw := a.filter fun p => decide (p.1 = n)
theorem wt_mv (f : Int → Rat) (n : Int) : ∀ a : Rw, wt f (mv n a) = wt (fun t => f (t + n)) a
  | [] => rfl
  | (t, q) :: r => by
    show q * f (t + n) + wt f (mv n r) = _
    rw [wt_mv f n r]
    rfl
theorem nf_mv {n : Int} {a : Rw} (h : Nf a) : Nf (mv n a) := by
  refine ⟨?_, ?_⟩
  · unfold mv
    rw [List.pairwise_map]
    exact h.asc.imp fun h => by show _ + n < _ + n; omega
  · intro p hp
    obtain ⟨x, hx, rfl⟩ := List.mem_map.mp hp
    exact h.nz x hx
theorem nf_sub {a b : Rw} (h : Nf b) (s : a.Sublist b) : Nf a := ⟨h.asc.sublist s, fun p hp => h.nz p (s.subset hp)⟩
theorem nf_upTo {n : Int} {a : Rw} (h : Nf a) : Nf (upTo n a) := nf_sub h List.filter_sublist
theorem one_mv (n : Int) (a : Rw) : norm (mv n a) = norm (prod a (norm [(n, 1)])) := norm_eq fun f => by
  rw [wt_mv, wt_prod]
  congr 1
  funext t
  rw [wt_norm]
  show _ = 1 * f (t + n) + 0
  rw [Rat.one_mul, Rat.add_zero]
theorem sum_at (n : Int) : ∀ a : Rw, ((eqAt n a).map (·.2)).sum = wt (at_ n) a
  | [] => rfl
  | (t, q) :: r => by
    have ih := sum_at n r
    unfold eqAt at *
    show _ = q * at_ n t + wt (at_ n) r
    unfold at_ at *
    by_cases e : t = n
    · rw [if_pos e, Rat.mul_one, List.filter_cons_of_pos (by simpa using e), List.map_cons, List.sum_cons, ih]
    · rw [if_neg e, Rat.mul_zero, Rat.zero_add, List.filter_cons_of_neg (by simpa using e), ih]
theorem look_nf {a : Rw} (h : Nf a) (t : Int) : look a t = wt (at_ t) a := look_wt (List.nodup_iff_pairwise_ne.mpr (by
  rw [List.pairwise_map]
  exact h.asc.imp fun h => by omega)) t
theorem look_at {a : Rw} (h : Nf a) (n : Int) : look a n = ((eqAt n a).map (·.2)).sum := by rw [look_nf h, sum_at]
theorem norm_rev (ps : Rw) : norm ps.reverse = norm ps := norm_eq fun f => wt_perm f (List.reverse_perm ps)
theorem norm_norm (ps : Rw) : norm (norm ps) = norm ps := norm_self (norm_nf ps)
/-- two ascending lists with the same members -/
theorem asc_eq : ∀ {l l' : List Int}, l.Pairwise (· < ·) → l'.Pairwise (· < ·) → (∀ x, x ∈ l ↔ x ∈ l') → l = l'
  | [], [], _, _, _ => rfl
  | [], y :: r, _, _, h => absurd ((h y).mpr List.mem_cons_self) (by simp)
  | x :: r, [], _, _, h => absurd ((h x).mp List.mem_cons_self) (by simp)
  | x :: r, y :: s, h1, h2, h => by
    have a1 := List.pairwise_cons.mp h1
    have a2 := List.pairwise_cons.mp h2
    have e : x = y := by
      rcases List.mem_cons.mp ((h x).mp List.mem_cons_self) with e | m
      · exact e
      · rcases List.mem_cons.mp ((h y).mpr List.mem_cons_self) with e | m2
        · exact e.symm
        · have := a1.1 y m2; have := a2.1 x m; omega
    subst e
    rw [asc_eq a1.2 a2.2 fun z => ⟨fun m => by
      rcases List.mem_cons.mp ((h z).mp (List.mem_cons_of_mem _ m)) with e | m2
      · subst e; have := a1.1 z m; omega
      · exact m2, fun m => by
      rcases List.mem_cons.mp ((h z).mpr (List.mem_cons_of_mem _ m)) with e | m2
      · subst e; have := a2.1 z m; omega
      · exact m2⟩]
/-- the ticks below n of a row within -/
def ticksIn (n : Nat) (a : Rw) : List Int := ((List.range n).map fun k => ((k : Nat) : Int)).filter fun t => decide (t ∈ a.map (·.1))
theorem ticks_all {n : Nat} {a : Rw} (h : Nf a) (hb : ∀ p ∈ a, 0 ≤ p.1 ∧ p.1 < n) : ticksIn n a = a.map (·.1) := by
  refine asc_eq ?_ (List.pairwise_map.mpr h.asc) fun x => ?_
  · refine List.Pairwise.filter _ ?_
    rw [List.pairwise_map]
    exact List.pairwise_lt_range.imp fun h => by omega
  · unfold ticksIn
    rw [List.mem_filter]
    constructor
    · intro ⟨_, h⟩; exact of_decide_eq_true h
    · intro hx
      refine ⟨?_, decide_eq_true hx⟩
      obtain ⟨p, hp, rfl⟩ := List.mem_map.mp hx
      have := hb p hp
      exact List.mem_map.mpr ⟨p.1.toNat, List.mem_range.mpr (by omega), by omega⟩
/-! ### the identities of rows -/
theorem add_ok (a b : Rw) : norm (norm a ++ norm b) = norm (a ++ b) := norm_eq fun f => by rw [wt_append, wt_append, wt_norm, wt_norm]
theorem mul_ok (a b : Rw) : norm (prod (norm a) (norm b)) = norm (prod a b) := norm_eq fun f => by
  rw [wt_prod, wt_prod, wt_norm]
  congr 1
  funext t
  rw [wt_norm]
theorem mul_comm' (a b : Rw) : norm (prod a b) = norm (prod b a) := norm_eq fun f => by
  rw [wt_prod, wt_prod, wt_swap]
  congr 1
  funext t
  congr 1
  funext u
  rw [Int.add_comm]
theorem add_comm' (a b : Rw) : norm (a ++ b) = norm (b ++ a) := norm_eq fun f => by rw [wt_append, wt_append, Rat.add_comm]
theorem mul_assoc' (a b c : Rw) : norm (prod (norm (prod a b)) c) = norm (prod a (norm (prod b c))) := norm_eq fun f => by
  rw [wt_prod, wt_norm, wt_prod, wt_prod]
  congr 1
  funext t
  rw [wt_norm, wt_prod]
  congr 1
  funext u
  congr 1
  funext v
  rw [Int.add_assoc]
theorem mul_add' (a b c : Rw) : norm (prod a (norm (b ++ c))) = norm (norm (prod a b) ++ norm (prod a c)) := norm_eq fun f => by
  rw [wt_append, wt_norm, wt_norm, wt_prod, wt_prod, wt_prod, ← wt_add]
  congr 1
  funext t
  rw [wt_norm, wt_append]
/-! ### sizes -/
theorem Gd.mv {D M T L : Nat} {a : Rw} (h : Gd D M T L a) {n : Int} {N : Nat} (h0 : 0 ≤ n) (h1 : n ≤ N) : Gd D M (T + N) L (mv n a) := by
  refine ⟨?_, ?_, ?_, ?_⟩
  · intro p hp; obtain ⟨x, hx, rfl⟩ := List.mem_map.mp hp; exact h.nd x hx
  · intro p hp; obtain ⟨x, hx, rfl⟩ := List.mem_map.mp hp; have := h.lo x hx; show 0 ≤ x.1 + n; omega
  · intro p hp; obtain ⟨x, hx, rfl⟩ := List.mem_map.mp hp; have := h.hi x hx; show x.1 + n ≤ _; omega
  · unfold Q7.mv; rw [List.length_map]; exact h.len
theorem ND.one : ND 1 1 1 := ⟨1, by rfl, by decide⟩
theorem Gd.single {n : Int} {N : Nat} (h0 : 0 ≤ n) (h1 : n ≤ N) : Gd 1 1 N 1 [(n, 1)] := by
  refine ⟨?_, ?_, ?_, by simp⟩
  · intro p hp; rw [List.mem_singleton] at hp; subst hp; exact ND.one
  · intro p hp; rw [List.mem_singleton] at hp; subst hp; exact h0
  · intro p hp; rw [List.mem_singleton] at hp; subst hp; exact h1
/-- as rows of the law are -/
def Gs (ps : Rw) : Prop := ∃ D M, Gd D M 8 63 ps ∧ 0 < D ∧ D < 2 ^ 900 ∧ M < 2 ^ 900
theorem lt_k {M n a b : Nat} (h : M < 2 ^ a) (hn : n ≤ 2 ^ 8) (hab : a + 8 ≤ b) : n * M < 2 ^ b := by
  have h1 : n * M ≤ 2 ^ 8 * M := Nat.mul_le_mul hn (Nat.le_refl _)
  have h2 : 2 ^ 8 * M < 2 ^ 8 * 2 ^ a := Nat.mul_lt_mul_of_pos_left h (by decide)
  rw [← Nat.pow_add] at h2
  have h3 := pow_le' (show 8 + a ≤ b by omega)
  omega
theorem Gs.q {ps : Rw} (h : Gs ps) : Gq ps := by
  obtain ⟨D, M, g, hD, h1, h2⟩ := h
  exact ⟨D, M, 8, g, hD, Nat.lt_of_lt_of_le h1 (pow_le' (by decide)), Nat.lt_of_lt_of_le h2 (pow_le' (by decide))⟩
theorem Gs.norm {ps : Rw} (h : Gs ps) : Gq (norm ps) := by
  obtain ⟨D, M, g, hD, h1, h2⟩ := h
  exact ⟨D, 63 * M, 8, g.norm hD, hD, Nat.lt_of_lt_of_le h1 (pow_le' (by decide)), lt_k h2 (by decide) (by decide)⟩
theorem Gs.mv {ps : Rw} (h : Gs ps) {n : Int} (h0 : 0 ≤ n) (h1' : n ≤ 8) : Gq (mv n (Q7.norm ps)) := by
  obtain ⟨D, M, g, hD, h1, h2⟩ := h
  exact ⟨D, 63 * M, 8 + 8, (g.norm hD).mv (N := 8) h0 (by omega), hD, Nat.lt_of_lt_of_le h1 (pow_le' (by decide)), lt_k h2 (by decide) (by decide)⟩
theorem Gq.single {n : Int} (h0 : 0 ≤ n) (h1 : n ≤ 8) : Gq [(n, 1)] := ⟨1, 1, 8, (Gd.single (N := 8) h0 (by omega)).mono (Nat.le_refl _) (Nat.le_refl _) (by decide), by decide, Nat.one_lt_two_pow (by decide), Nat.one_lt_two_pow (by decide)⟩
theorem Gq.singleN {n : Int} (h0 : 0 ≤ n) (h1 : n ≤ 8) : Gq (norm [(n, 1)]) := ⟨1, 1 * 1, 8, ((Gd.single (N := 8) h0 (by omega)).norm (by decide)).mono (Nat.le_refl _) (Nat.le_refl _) (by decide), by decide, Nat.one_lt_two_pow (by decide), Nat.one_lt_two_pow (by decide)⟩
theorem Gs.single {ps : Rw} (h : Gs ps) {n : Int} (h0 : 0 ≤ n) (h1' : n ≤ 8) : Gq (prod (Q7.norm ps) (Q7.norm [(n, 1)])) := by
  obtain ⟨D, M, g, hD, h1, h2⟩ := h
  have := (g.norm hD).prod ((Gd.single (N := 8) h0 (by omega)).norm (by decide))
  exact ⟨D * 1, (63 * M) * (1 * 1), 8 + 8, this, by omega, by rw [Nat.mul_one]; exact Nat.lt_of_lt_of_le h1 (pow_le' (by decide)), by rw [Nat.mul_one]; exact lt_k h2 (by decide) (by decide)⟩
theorem Gs.tick {ps : Rw} (h : Gs ps) : ∀ p ∈ Q7.norm ps, 0 ≤ p.1 ∧ p.1 < (9 : Nat) := by
  obtain ⟨D, M, g, hD, h1, h2⟩ := h
  intro p hp
  have g2 := g.norm hD
  have := g2.lo p hp
  have := g2.hi p hp
  omega
theorem p900 {D : Nat} (h : D < 2 ^ 100) : D < 2 ^ 900 := Nat.lt_of_lt_of_le h (pow_le' (by decide))
theorem p1000 {D : Nat} (h : D < 2 ^ 100) : D < 2 ^ 2900 := Nat.lt_of_lt_of_le h (pow_le' (by decide))
abbrev Gp (ps : Rw) : Prop := Gd 60 240 4 5 ps
section
variable {a b c : Rw}
theorem Gp.s (h : Gp a) : Gs a := ⟨60, 240, h.mono (by decide) (by decide) (by decide), by decide, p900 (by decide), p900 (by decide)⟩
theorem Gp.n (h : Gp a) : Gd 60 1200 4 5 (norm a) := h.norm (by decide)
theorem Gp.gq (h : Gp a) : Gq (norm a) := h.s.norm
theorem Gp.pr (h : Gp a) (k : Gp b) : Gd 3600 57600 8 25 (prod a b) := h.prod k
theorem Gp.prq (h : Gp a) (k : Gp b) : Gq (prod a b) := Gq.of (h.pr k) (by decide) (p1000 (by decide)) (p1000 (by decide)) (by decide)
theorem Gp.prs (h : Gp a) (k : Gp b) : Gs (norm (prod a b)) := ⟨3600, 25 * 57600, ((h.pr k).norm (by decide)).mono (Nat.le_refl _) (by decide) (by decide), by decide, p900 (by decide), p900 (by decide)⟩
theorem Gp.sum (h : Gp a) (k : Gp b) : Gd 60 240 4 10 (a ++ b) := h.app k
theorem Gp.sumq (h : Gp a) (k : Gp b) : Gq (a ++ b) := Gq.of (h.sum k) (by decide) (p1000 (by decide)) (p1000 (by decide)) (by decide)
theorem Gp.sumn (h : Gp a) (k : Gp b) : Gd 60 1200 4 10 (norm a ++ norm b) := h.n.app k.n
theorem Gp.sumnq (h : Gp a) (k : Gp b) : Gq (norm a ++ norm b) := Gq.of (h.sumn k) (by decide) (p1000 (by decide)) (p1000 (by decide)) (by decide)
theorem Gp.sumN (h : Gp a) (k : Gp b) : Gd 60 12000 4 5 (norm (norm a ++ norm b)) := (h.sumn k).normT (by decide)
theorem Gp.sumNq (h : Gp a) (k : Gp b) : Gq (norm (norm a ++ norm b)) := Gq.of (h.sumN k) (by decide) (p1000 (by decide)) (p1000 (by decide)) (by decide)
theorem Gp.prn (h : Gp a) (k : Gp b) : Gd 3600 1440000 8 25 (prod (norm a) (norm b)) := h.n.prod k.n
theorem Gp.prnq (h : Gp a) (k : Gp b) : Gq (prod (norm a) (norm b)) := Gq.of (h.prn k) (by decide) (p1000 (by decide)) (p1000 (by decide)) (by decide)
theorem Gp.prN (h : Gp a) (k : Gp b) : Gd 3600 36000000 8 9 (norm (prod (norm a) (norm b))) := (h.prn k).normT (by decide)
theorem Gp.prNq (h : Gp a) (k : Gp b) : Gq (norm (prod (norm a) (norm b))) := Gq.of (h.prN k) (by decide) (p1000 (by decide)) (p1000 (by decide)) (by decide)
theorem Gp.pr3 (h : Gp a) (k : Gp b) (l : Gp c) : Gq (prod (norm (prod (norm a) (norm b))) (norm c)) := Gq.of ((h.prN k).prod l.n) (by decide) (p1000 (by decide)) (p1000 (by decide)) (by decide)
theorem Gp.pr3' (h : Gp a) (k : Gp b) (l : Gp c) : Gq (prod (norm a) (norm (prod (norm b) (norm c)))) := Gq.of (h.n.prod (k.prN l)) (by decide) (p1000 (by decide)) (p1000 (by decide)) (by decide)
theorem Gp.prs3 (h : Gp a) (k : Gp b) (l : Gp c) : Gq (prod (norm a) (norm (norm b ++ norm c))) := Gq.of (h.n.prod (k.sumN l)) (by decide) (p1000 (by decide)) (p1000 (by decide)) (by decide)
theorem Gp.spr3 (h : Gp a) (k : Gp b) (l : Gp c) : Gq (norm (prod (norm a) (norm b)) ++ norm (prod (norm a) (norm c))) := Gq.of ((h.prN k).app (h.prN l)) (by decide) (p1000 (by decide)) (p1000 (by decide)) (by decide)
end
end Q7
set_option maxHeartbeats 2000000
namespace Q7
theorem wt_congr {f g : Int → Rat} : ∀ {a : Rw}, (∀ p ∈ a, f p.1 = g p.1) → wt f a = wt g a
  | [], _ => rfl
  | (t, q) :: r, h => by
    show q * f t + wt f r = q * g t + wt g r
    rw [wt_congr (a := r) fun p hp => h p (List.mem_cons_of_mem _ hp), show f t = g t from h (t, q) List.mem_cons_self]
theorem wt_upTo (f : Int → Rat) (n : Int) : ∀ a : Rw, wt f (upTo n a) = wt (fun u => if u ≤ n then f u else 0) a
  | [] => rfl
  | (t, q) :: r => by
    have ih := wt_upTo f n r
    unfold upTo at *
    show _ = q * (if t ≤ n then f t else 0) + wt (fun u => if u ≤ n then f u else 0) r
    by_cases e : t ≤ n
    · rw [if_pos e, List.filter_cons_of_pos (by simpa using e), ← ih]
      rfl
    · rw [if_neg e, List.filter_cons_of_neg (by simpa using e), ← ih, Rat.mul_zero, Rat.zero_add]
theorem sum_wt : ∀ a : Rw, (a.map (·.2)).sum = wt (fun _ => 1) a
  | [] => rfl
  | (t, q) :: r => by
    show (q :: r.map (·.2)).sum = q * 1 + wt (fun _ => 1) r
    rw [List.sum_cons, sum_wt r, Rat.mul_one]
abbrev tot (a : Rw) : Rat := (a.map (·.2)).sum
theorem nf_eq {a b : Rw} (ha : Nf a) (hb : Nf b) (h : ∀ f, wt f a = wt f b) : a = b := Nf.eq ha hb h
theorem norm_nil : norm [] = [] := Nf.eq (norm_nf []) ⟨.nil, by simp⟩ fun f => wt_norm f []
theorem add_assoc3 (a b c : Rw) : norm (norm (a ++ b) ++ c) = norm (a ++ norm (b ++ c)) := norm_eq fun f => by
  rw [wt_append, wt_norm, wt_append, wt_append, wt_norm, wt_append, Rat.add_assoc]
theorem add_none {a : Rw} (h : Nf a) : norm (a ++ norm []) = a := by rw [norm_nil, List.append_nil]; exact norm_self h
theorem mul_none (a : Rw) : norm (prod a (norm [])) = [] := by
  rw [norm_nil]
  refine Nf.eq (norm_nf _) ⟨.nil, by simp⟩ fun f => ?_
  rw [wt_norm, wt_prod]
  show wt (fun _ => 0) a = 0
  exact wt_zero a
theorem add_mul' (a b c : Rw) : norm (prod (norm (a ++ b)) c) = norm (norm (prod a c) ++ norm (prod b c)) := norm_eq fun f => by
  rw [wt_append, wt_norm, wt_norm, wt_prod, wt_norm, wt_append, wt_prod, wt_prod]
theorem wt_single (f : Int → Rat) (t : Int) (x : Rat) : wt f [(t, x)] = x * f t := by
  show x * f t + 0 = _
  rw [Rat.add_zero]
theorem mul_one' {a : Rw} (h : Nf a) : norm (prod a (norm [(0, 1)])) = a := norm_of h fun f => by
  rw [wt_prod]
  congr 1
  funext t
  rw [wt_norm, wt_single, Rat.one_mul, Int.add_zero]
theorem add_self (a : Rw) : norm (a ++ a) = norm (prod a (norm [(0, 2)])) := norm_eq fun f => by
  rw [wt_append, wt_prod, ← wt_add]
  congr 1
  funext t
  rw [wt_norm, wt_single, Int.add_zero]
  grind
theorem add_neg' (a : Rw) : norm (a ++ norm (prod a (norm [(0, -1)]))) = norm [] := norm_eq fun f => by
  rw [wt_append, wt_norm, wt_prod, ← wt_add]
  show _ = 0
  rw [← wt_zero a]
  congr 1
  funext t
  rw [wt_norm, wt_single, Int.add_zero]
  grind
theorem tot_norm (a : Rw) : tot (norm a) = tot a := by rw [tot, tot, sum_wt, sum_wt, wt_norm]
theorem tot_app (a b : Rw) : tot (a ++ b) = tot a + tot b := by rw [tot, tot, tot, sum_wt, sum_wt, sum_wt, wt_append]
theorem wt_const (x : Rat) (a : Rw) : wt (fun _ => x) a = tot a * x := by
  have := wt_smul x (fun _ => 1) a
  rw [tot, sum_wt]
  rw [show (fun _ : Int => x) = fun t => x * (fun _ : Int => (1 : Rat)) t from funext fun _ => by rw [Rat.mul_one], this, Rat.mul_comm]
theorem tot_prod (a b : Rw) : tot (prod a b) = tot a * tot b := by
  rw [tot, sum_wt, wt_prod, wt_const, tot, tot, sum_wt b]
/-! ### ticks -/
theorem mem_keys {a : Rw} {t : Int} (h : t ∈ a.map (·.1)) : ∃ q, (t, q) ∈ a := by
  obtain ⟨p, hp, rfl⟩ := List.mem_map.mp h
  exact ⟨p.2, hp⟩
theorem look_in {a : Rw} (h : Nf a) (t : Int) : decide (look a t = 0) = !decide (t ∈ a.map (·.1)) := by
  by_cases e : t ∈ a.map (·.1)
  · obtain ⟨q, hq⟩ := mem_keys e
    rw [decide_eq_true e, decide_eq_false]
    · rfl
    · rw [look_nf h]
      have := h.wt_mem (t, q) hq
      simp only at this
      rw [this]
      exact h.nz _ hq
  · rw [decide_eq_false e, look_mem fun p hp z => e (List.mem_map.mpr ⟨p, hp, z⟩)]
    rfl
theorem tot_step {a : Rw} (h : Nf a) (t : Int) : tot (upTo t a) = tot (upTo (t - 1) a) + look a t := by
  rw [look_nf h, tot, tot, sum_wt, sum_wt, wt_upTo, wt_upTo, ← wt_add]
  refine wt_congr fun p _ => ?_
  unfold at_
  by_cases h1 : p.1 ≤ t - 1
  · rw [if_pos h1, if_pos (by omega), if_neg (by omega), Rat.add_zero]
  · rw [if_neg h1, Rat.zero_add]
    by_cases h2 : p.1 = t
    · rw [if_pos (by omega), if_pos h2]
    · rw [if_neg (by omega), if_neg h2]
theorem cut_cut {a : Rw} {t u : Int} (h : t ≤ u) : upTo u (upTo t a) = upTo t a := by
  unfold upTo
  rw [List.filter_eq_self]
  intro p hp
  have := of_decide_eq_true (List.mem_filter.mp hp).2
  exact decide_eq_true (by omega)
theorem norm_upTo (t : Int) (a : Rw) : norm (upTo t (norm a)) = norm (upTo t a) := norm_eq fun f => by rw [wt_upTo, wt_norm, wt_upTo]
theorem upTo_norm (t : Int) (a : Rw) : upTo t (norm a) = norm (upTo t a) := by rw [← norm_upTo, norm_self (nf_upTo (norm_nf a))]
theorem cut_add (t : Int) (a b : Rw) : norm (upTo t (norm (a ++ b))) = norm (norm (upTo t a) ++ norm (upTo t b)) := by
  rw [norm_upTo, add_ok]
  unfold upTo
  rw [List.filter_append]
theorem cut_mul (t : Int) {a b : Rw} (ha : ∀ p ∈ a, 0 ≤ p.1) (hb : ∀ p ∈ b, 0 ≤ p.1) : norm (upTo t (norm (prod a b))) = norm (upTo t (norm (prod (norm (upTo t a)) (norm (upTo t b))))) := by
  rw [norm_upTo, norm_upTo]
  refine norm_eq fun f => ?_
  rw [wt_upTo, wt_upTo, wt_prod, wt_prod, wt_norm, wt_upTo]
  refine wt_congr fun p hp => ?_
  have h1 := ha p hp
  rw [wt_norm, wt_upTo]
  by_cases e : p.1 ≤ t
  · rw [if_pos e]
    refine wt_congr fun q hq => ?_
    have h2 := hb q hq
    by_cases e2 : q.1 ≤ t
    · rw [if_pos e2]
    · rw [if_neg e2, if_neg (by omega)]
  · rw [if_neg e]
    refine (wt_congr (g := fun _ => 0) fun q hq => ?_).trans (wt_zero b)
    have h2 := hb q hq
    rw [if_neg (by omega)]
theorem mv_mul (t : Int) (a b : Rw) : norm (mv t (norm (prod a b))) = norm (prod (norm (mv t a)) b) := norm_eq fun f => by
  rw [wt_mv, wt_norm, wt_prod, wt_prod, wt_norm, wt_mv]
  congr 1
  funext x
  congr 1
  funext y
  rw [show x + y + t = x + t + y by omega]
theorem mv_cut (t : Int) (a : Rw) : upTo (t + 3) (mv t a) = mv t (upTo 3 a) := by
  unfold upTo mv
  rw [List.filter_map]
  congr 1
  refine List.filter_congr fun p _ => ?_
  show decide (p.1 + t ≤ t + 3) = decide (p.1 ≤ 3)
  by_cases h : p.1 ≤ 3
  · rw [decide_eq_true h, decide_eq_true (by omega)]
  · rw [decide_eq_false h, decide_eq_false (by omega)]
theorem less_eq {p q : Rat} (h : p < q) : decide (p.num * q.den < q.num * p.den) = true := decide_eq_true (Rat.lt_iff p q |>.mp h)
/-! ### keys -/
def Kb (n : Nat) (ps : Rw) : Prop := ∃ ks : List Int, ks.length ≤ n ∧ ∀ p ∈ ps, p.1 ∈ ks
theorem nodup_len : ∀ {l ks : List Int}, l.Nodup → (∀ x ∈ l, x ∈ ks) → l.length ≤ ks.length
  | [], _, _, _ => by simp
  | x :: r, ks, h, s => by
    have h1 := List.nodup_cons.mp h
    have := nodup_len (l := r) (ks := ks.erase x) h1.2 fun y hy => (List.mem_erase_of_ne fun e => h1.1 (by rw [← e]; exact hy)).mpr (s y (List.mem_cons_of_mem _ hy))
    rw [List.length_erase_of_mem (s x List.mem_cons_self)] at this
    have := List.length_pos_of_mem (s x List.mem_cons_self)
    rw [List.length_cons]
    omega
theorem Kb.norm {n : Nat} {ps : Rw} (h : Kb n ps) : (Q7.norm ps).length ≤ n := by
  obtain ⟨ks, hl, hk⟩ := h
  refine Nat.le_trans ?_ hl
  rw [← List.length_map (·.1)]
  refine nodup_len (List.nodup_iff_pairwise_ne.mpr ?_) fun x hx => ?_
  · rw [List.pairwise_map]
    exact (norm_nf ps).asc.imp fun h => by omega
  · obtain ⟨p, hp, rfl⟩ := List.mem_map.mp hx
    obtain ⟨q, hq, e⟩ := List.mem_map.mp (norm_sub ps p hp)
    rw [← e]
    exact hk q hq
theorem Gd.scale {D M T L k : Nat} {a : Rw} (hk : 0 < k) (h : Gd D M T L a) : Gd (D * k) (M * k) T L a := ⟨fun p hp => (h.nd p hp).scale hk, h.lo, h.hi, h.len⟩
theorem Gd.short' {D M T L n : Nat} {a : Rw} (h : Gd D M T L a) (l : a.length ≤ n) : Gd D M T n a := ⟨h.nd, h.lo, h.hi, l⟩
/-! ### three rows of the law -/
structure Gr (D M T : Nat) (a : Rw) : Prop where
  g : Gd D M T 3 a
  nf : Nf a
structure Gu (D M : Nat) : Prop where
  pos : 0 < D
  d : D < 2 ^ 450
  m : M < 2 ^ 500
theorem mul_lt_pow {a b n m k : Nat} (h1 : a < 2 ^ n) (h2 : b < 2 ^ m) (h : n + m ≤ k) : a * b < 2 ^ k := by
  refine Nat.lt_of_lt_of_le (Nat.mul_lt_mul'' h1 h2) ?_
  rw [← Nat.pow_add]
  exact pow_le' h
theorem up_pow {a n k : Nat} (h1 : a < 2 ^ n) (h : n ≤ k) : a < 2 ^ k := Nat.lt_of_lt_of_le h1 (pow_le' h)
section
variable {D M T : Nat} {a b c : Rw}
theorem Gr.q (u : Gu D M) (h : Gr D M T a) : Gq a := Gq.of h.g u.pos (up_pow u.d (by decide)) (up_pow u.m (by decide)) (by decide)
/-- a sum -/
theorem Gr.add (u : Gu D M) (h : Gr D M T a) (k : Gr D M T b) : Gd D M T 6 (a ++ b) := h.g.app k.g
theorem Gr.addn (u : Gu D M) (h : Gr D M T a) (k : Gr D M T b) : Gd D (6 * M) T 6 (norm (a ++ b)) := (h.g.app k.g).norm u.pos
theorem Gr.mul (u : Gu D M) (h : Gr D M T a) (k : Gr D M T b) : Gd (D * D) (M * M) (T + T) 9 (prod a b) := h.g.prod k.g
theorem Gr.muln (u : Gu D M) (h : Gr D M T a) (k : Gr D M T b) : Gd (D * D) (9 * (M * M)) (T + T) 9 (norm (prod a b)) := (h.g.prod k.g).norm (Nat.mul_pos u.pos u.pos)
theorem Gu.dd (u : Gu D M) : D * D < 2 ^ 900 := mul_lt_pow u.d u.d (by decide)
theorem Gu.mm (u : Gu D M) : M * M < 2 ^ 1000 := mul_lt_pow u.m u.m (by decide)
theorem Gu.m9 (u : Gu D M) : 9 * (M * M) < 2 ^ 1010 := mul_lt_pow (n := 4) (by decide) u.mm (by decide)
theorem Gu.m6 (u : Gu D M) : 6 * M < 2 ^ 510 := mul_lt_pow (n := 4) (by decide) u.m (by decide)
theorem Gr.addq (u : Gu D M) (h : Gr D M T a) (k : Gr D M T b) : Gq (a ++ b) := Gq.of (h.add u k) u.pos (up_pow u.d (by decide)) (up_pow u.m (by decide)) (by decide)
theorem Gr.addnq (u : Gu D M) (h : Gr D M T a) (k : Gr D M T b) : Gq (norm (a ++ b)) := Gq.of (h.addn u k) u.pos (up_pow u.d (by decide)) (up_pow u.m6 (by decide)) (by decide)
theorem Gr.mulq (u : Gu D M) (h : Gr D M T a) (k : Gr D M T b) : Gq (prod a b) := Gq.of (h.mul u k) (Nat.mul_pos u.pos u.pos) (up_pow u.dd (by decide)) (up_pow u.mm (by decide)) (by decide)
theorem Gr.mulnq (u : Gu D M) (h : Gr D M T a) (k : Gr D M T b) : Gq (norm (prod a b)) := Gq.of (h.muln u k) (Nat.mul_pos u.pos u.pos) (up_pow u.dd (by decide)) (up_pow u.m9 (by decide)) (by decide)
/-- the sum of a sum and a row, either way -/
theorem Gr.add3 (u : Gu D M) (h : Gr D M T a) (k : Gr D M T b) (l : Gr D M T c) : Gq (norm (a ++ b) ++ c) := Gq.of ((h.addn u k).app (l.g.mono (show M ≤ 6 * M by omega) (Nat.le_refl _) (Nat.le_refl _))) u.pos (up_pow u.d (by decide)) (up_pow u.m6 (by decide)) (by decide)
theorem Gr.add3' (u : Gu D M) (h : Gr D M T a) (k : Gr D M T b) (l : Gr D M T c) : Gq (a ++ norm (b ++ c)) := Gq.of ((h.g.mono (show M ≤ 6 * M by omega) (Nat.le_refl _) (Nat.le_refl _)).app (k.addn u l)) u.pos (up_pow u.d (by decide)) (up_pow u.m6 (by decide)) (by decide)
theorem Gu.ddd (u : Gu D M) : D * D * D < 2 ^ 1350 := mul_lt_pow u.dd u.d (by decide)
theorem Gu.mmm (u : Gu D M) : 9 * (M * M) * M < 2 ^ 1510 := mul_lt_pow u.m9 u.m (by decide)
theorem Gr.mul3 (u : Gu D M) (h : Gr D M T a) (k : Gr D M T b) (l : Gr D M T c) : Gq (prod (norm (prod a b)) c) := Gq.of ((h.muln u k).prod l.g) (Nat.mul_pos (Nat.mul_pos u.pos u.pos) u.pos) (up_pow u.ddd (by decide)) (up_pow u.mmm (by decide)) (by decide)
theorem Gr.mul3' (u : Gu D M) (h : Gr D M T a) (k : Gr D M T b) (l : Gr D M T c) : Gq (prod a (norm (prod b c))) := Gq.of (h.g.prod (k.muln u l)) (Nat.mul_pos u.pos (Nat.mul_pos u.pos u.pos)) (by rw [Nat.mul_comm]; exact up_pow u.ddd (by decide)) (by rw [Nat.mul_comm]; exact up_pow u.mmm (by decide)) (by decide)
theorem Gr.muladd (u : Gu D M) (h : Gr D M T a) (k : Gr D M T b) (l : Gr D M T c) : Gq (prod a (norm (b ++ c))) := Gq.of (h.g.prod (k.addn u l)) (Nat.mul_pos u.pos u.pos) (up_pow u.dd (by decide)) (by rw [Nat.mul_comm]; exact mul_lt_pow u.m6 u.m (by decide)) (by decide)
theorem Gr.addmul (u : Gu D M) (h : Gr D M T a) (k : Gr D M T b) (l : Gr D M T c) : Gq (prod (norm (a ++ b)) c) := Gq.of ((h.addn u k).prod l.g) (Nat.mul_pos u.pos u.pos) (up_pow u.dd (by decide)) (mul_lt_pow u.m6 u.m (by decide)) (by decide)
theorem Gr.mulsum {a' b' : Rw} (u : Gu D M) (h : Gr D M T a) (k : Gr D M T b) (h' : Gr D M T a') (k' : Gr D M T b') : Gq (norm (prod a b) ++ norm (prod a' b')) := Gq.of ((h.muln u k).app (h'.muln u k')) (Nat.mul_pos u.pos u.pos) (up_pow u.dd (by decide)) (up_pow u.m9 (by decide)) (by decide)
end
end Q7
namespace Q7
theorem ND.m1 : ND 1 2 (-1) := ⟨-1, by rfl, by decide⟩
theorem ND.p2 : ND 1 2 2 := ⟨2, by rfl, by decide⟩
theorem ND.p1 : ND 1 2 1 := ⟨1, by rfl, by decide⟩
theorem Gd.lone {n : Int} {T : Nat} {q : Rat} (hq : ND 1 2 q) (h0 : 0 ≤ n) (h1 : n ≤ T) : Gd 1 2 T 1 [(n, q)] := by
  refine ⟨?_, ?_, ?_, by simp⟩
  · intro p hp; rw [List.mem_singleton] at hp; subst hp; exact hq
  · intro p hp; rw [List.mem_singleton] at hp; subst hp; exact h0
  · intro p hp; rw [List.mem_singleton] at hp; subst hp; exact h1
theorem Gq.lone {n : Int} {q : Rat} (hq : ND 1 2 q) (h0 : 0 ≤ n) : Gq [(n, q)] := Gq.of (Gd.lone (T := n.toNat) hq h0 (by omega)) (by decide) (Nat.one_lt_two_pow (by decide)) (up_pow (n := 2) (by decide) (by decide)) (by decide)
theorem Gq.loneN {n : Int} {q : Rat} (hq : ND 1 2 q) (h0 : 0 ≤ n) : Gq (norm [(n, q)]) := Gq.of ((Gd.lone (T := n.toNat) hq h0 (by omega)).norm (by decide)) (by decide) (Nat.one_lt_two_pow (by decide)) (up_pow (n := 2) (by decide) (by decide)) (by decide)
theorem Gq.none : Gq [] := Gq.of (D := 1) (M := 0) (T := 0) (L := 0) ⟨by simp, by simp, by simp, by simp⟩ (by decide) (Nat.one_lt_two_pow (by decide)) (Nat.two_pow_pos _) (by decide)
theorem Gq.noneN : Gq (norm []) := by rw [norm_nil]; exact Gq.none
section
variable {D M T : Nat} {a b c : Rw}
theorem Gr.lone (u : Gu D M) (h : Gr D M T a) {n : Int} {q : Rat} (hq : ND 1 2 q) (h0 : 0 ≤ n) : Gq (prod a (norm [(n, q)])) := by
  have := h.g.prod ((Gd.lone (T := n.toNat) hq h0 (by omega)).norm (by decide))
  exact Gq.of this (by have := u.pos; omega) (by rw [Nat.mul_one]; exact up_pow u.d (by decide)) (mul_lt_pow (m := 2) u.m (by decide) (by decide)) (by decide)
theorem Gr.none (u : Gu D M) (h : Gr D M T a) : Gq (a ++ norm []) := by rw [norm_nil, List.append_nil]; exact h.q u
theorem prod_nil : ∀ a : Rw, prod a [] = []
  | [] => rfl
  | p :: r => by
    show ([] : Rw) ++ prod r [] = []
    rw [prod_nil r]; rfl
theorem Gr.mnone (h : Gr D M T a) : Gq (prod a (norm [])) := by rw [norm_nil, prod_nil]; exact Gq.none
theorem Gr.self (u : Gu D M) (h : Gr D M T a) : Gq (a ++ a) := h.addq u h
theorem Gr.neg (u : Gu D M) (h : Gr D M T a) : Gq (a ++ norm (prod a (norm [(0, -1)]))) := by
  have h1 := h.g.prod ((Gd.lone (n := 0) (T := T) ND.m1 (by decide) (by omega)).norm (by decide))
  have h2 := h1.norm (by have := u.pos; omega)
  rw [Nat.mul_one] at h2
  have h3 := (h.g.mono (show M ≤ 3 * 1 * (M * (1 * 2)) by omega) (show T ≤ T + T by omega) (Nat.le_refl _)).app h2
  exact Gq.of h3 u.pos (up_pow u.d (by decide)) (by rw [show 3 * 1 * (M * (1 * 2)) = 6 * M by omega]; exact up_pow u.m6 (by decide)) (by decide)
end
end Q7
namespace Q7
def eps : Rat := ⟨1, 1000000000, by decide, by decide⟩
theorem eps_pos : (0 : Rat) < eps := by decide
theorem less_eps (p : Rat) : p < p + eps := by
  have := eps_pos
  grind
theorem Gq.tot {a : Rw} (h : Gq a) : B 3000 (tot a) := by
  have := h.psum a.length
  rwa [show (a.map (·.2)).take a.length = a.map (·.2) by rw [← List.length_map (·.2), List.take_length]] at this
theorem tot_add (a b : Rw) : tot (norm (a ++ b)) = tot a + tot b := by rw [tot_norm, tot_app]
theorem tot_mul (a b : Rw) : tot (norm (prod a b)) = tot a * tot b := by rw [tot_norm, tot_prod]
theorem below (p : Rat) : 0 + -p + p = 0 := by grind
theorem over_back (a b : Rw) (h : tot b ≠ 0) : tot (norm (prod a b)) / tot b = tot a := by
  rw [tot_mul]
  exact Rat.mul_div_cancel h
end Q7
namespace Q7
theorem Gr.totB {D M T : Nat} {a : Rw} (u : Gu D M) (h : Gr D M T a) : B 510 (tot a) := by
  have := ND.sum u.pos (qs := a.map (·.2)) (M := M) fun q hq => by
    obtain ⟨p, hp, rfl⟩ := List.mem_map.mp hq
    exact h.g.nd p hp
  refine (this.mono (M' := 3 * M) ?_).B u.pos (up_pow u.d (by decide)) (mul_lt_pow (n := 2) (by decide) u.m (by decide))
  rw [List.length_map]
  exact Nat.mul_le_mul h.g.len (Nat.le_refl _)
theorem Gr.totE {D M T : Nat} {a : Rw} (u : Gu D M) (h : Gr D M T a) : B 3000 (tot a + eps) := by
  have : B 40 eps := ⟨by decide, by decide⟩
  exact (B.add (h.totB u) this).mono (by decide)
end Q7
namespace Q7
theorem Gr.cut {D M T : Nat} {a : Rw} (h : Gr D M T a) (t : Int) : Gr D M T (upTo t a) := ⟨h.g.sub List.filter_sublist, nf_upTo h.nf⟩
theorem Gr.mvd {D M T : Nat} {a : Rw} (h : Gr D M T a) {t : Int} (h0 : 0 ≤ t) : Gr D M (T + t.toNat) (mv t a) := ⟨h.g.mv h0 (by omega), nf_mv h.nf⟩
theorem Gr.up {D M T U : Nat} {a : Rw} (h : Gr D M T a) (l : T ≤ U) : Gr D M U a := ⟨h.g.mono (Nat.le_refl _) l (Nat.le_refl _), h.nf⟩
theorem Gq.mvn {D M T L : Nat} {a : Rw} (h : Gd D M T L a) (hD : 0 < D) (h1 : D < 2 ^ 2900) (h2 : M < 2 ^ 2900) (h3 : L ≤ 63) {t : Int} (h0 : 0 ≤ t) : Gq (mv t a) := Gq.of (h.mv (N := t.toNat) h0 (by omega)) hD h1 h2 h3
theorem Gr.mulmv {D M T : Nat} {a b : Rw} (u : Gu D M) (h : Gr D M T a) (k : Gr D M T b) {t : Int} (h0 : 0 ≤ t) : Gq (mv t (norm (prod a b))) := Gq.mvn (h.muln u k) (Nat.mul_pos u.pos u.pos) (up_pow u.dd (by decide)) (up_pow u.m9 (by decide)) (by decide) h0
theorem ncut {a : Rw} (h : Nf a) (t : Int) : norm (upTo t a) = upTo t a := norm_self (nf_upTo h)
theorem nmv {a : Rw} (h : Nf a) (t : Int) : norm (mv t a) = mv t a := norm_self (nf_mv h)
theorem cut_mul' (t : Int) {a b : Rw} (ha : ∀ p ∈ a, 0 ≤ p.1) (hb : ∀ p ∈ b, 0 ≤ p.1) (na : Nf a) (nb : Nf b) : norm (upTo t (norm (prod a b))) = norm (upTo t (norm (prod (upTo t a) (upTo t b)))) := by
  have := cut_mul t ha hb
  rwa [ncut na, ncut nb] at this
theorem cut_add' (t : Int) {a b : Rw} (na : Nf a) (nb : Nf b) : norm (upTo t (norm (a ++ b))) = norm (upTo t a ++ upTo t b) := by
  have := cut_add t a b
  rwa [ncut na, ncut nb] at this
theorem mv_mul' (t : Int) {a : Rw} (b : Rw) (na : Nf a) : norm (mv t (norm (prod a b))) = norm (prod (mv t a) b) := by
  have := mv_mul t a b
  rwa [nmv na] at this
theorem mv_len (t : Int) (a : Rw) : (mv t a).length = a.length := by unfold mv; rw [List.length_map]
theorem Gr.lo {D M T : Nat} {a : Rw} (h : Gr D M T a) : ∀ p ∈ a, 0 ≤ p.1 := h.g.lo
end Q7
set_option maxRecDepth 100000
set_option maxHeartbeats 4000000
namespace Q7
open PySem PySem.Spec PyProof.Rows L2
/-! ### the texts of rows are short -/
theorem log_of {x : Int} {n : Nat} (h : x.natAbs < 2 ^ n) (hn : 0 < n) : x.natAbs.log2 < n := PySem.Flt.log2_lt_of hn h
def ShI (x : Int) : Prop := x.natAbs < 2 ^ 1900
theorem shI_log {x : Int} (h : ShI x) : x.natAbs.log2 < 1920 := Nat.lt_of_lt_of_le (log_of h (by decide)) (by decide)
theorem shI_text {x : Int} (h : ShI x) : (Str.ofString (toString x)).length ≤ 1921 := PyProof.Rows.int_text_len_1921 (shI_log h)
def ShP (p : Int × Rat) : Prop := ShI p.1 ∧ ShI p.2.num ∧ ShI p.2.den
theorem show_pr {p : Int × Rat} (h : ShP p) : (pr p).showable = true := by
  simp only [pr, fr, PyData.showable, PyData.showableAll, Bool.and_true, Bool.and_eq_true, decide_eq_true_eq]
  exact ⟨shI_log h.1, shI_log h.2.1, shI_log h.2.2⟩
theorem leaf_int {x : Int} (h : ShI x) : PyData.leavesShort 1921 (.int x) = true := by
  unfold PyData.leavesShort
  exact decide_eq_true (shI_text h)
theorem leaf_pr {p : Int × Rat} (h : ShP p) : (pr p).leavesShort 1921 = true := by
  have h1 := leaf_int h.1
  have h2 := leaf_int h.2.1
  have h3 := leaf_int h.2.2
  simp only [pr, fr, PyData.leavesShort, PyData.leavesShortAll, Bool.and_true, Bool.and_eq_true] at *
  exact ⟨h1, h2, h3⟩
theorem show_prs : ∀ {a : Rw}, (∀ p ∈ a, ShP p) → PyData.showableAll (a.map pr) = true
  | [], _ => by simp [PyData.showableAll]
  | p :: a, h => by
    simp only [List.map_cons, PyData.showableAll, show_pr (h p List.mem_cons_self), show_prs (a := a) fun q hq => h q (List.mem_cons_of_mem _ hq), Bool.and_self]
theorem leaf_prs : ∀ {a : Rw}, (∀ p ∈ a, ShP p) → PyData.leavesShortAll 1921 (a.map pr) = true
  | [], _ => by simp [PyData.leavesShortAll]
  | p :: a, h => by
    simp only [List.map_cons, PyData.leavesShortAll, leaf_pr (h p List.mem_cons_self), leaf_prs (a := a) fun q hq => h q (List.mem_cons_of_mem _ hq), Bool.and_self]
theorem bulk_prs : ∀ a : Rw, PyData.bulkAll (a.map pr) = 5 * a.length
  | [] => by simp [PyData.bulkAll]
  | p :: a => by
    have := bulk_prs a
    simp only [List.map_cons, PyData.bulkAll, this, List.length_cons, pr, fr, PyData.bulk]
    omega
abbrev dpr (a : Rw) : PyData := .list (a.map pr)
theorem dpr_show {a : Rw} (h : ∀ p ∈ a, ShP p) : (dpr a).showable = true := by
  simp only [dpr, PyData.showable]
  exact show_prs h
theorem dpr_dict (a : Rw) : (dpr a).hasDict = false := PyData.hasDict_of_canLay _ (by simp only [dpr, PyData.canLay0]; exact lay_prs a)
theorem dpr_dep (a : Rw) : (dpr a).depth ≤ 40 := by
  have := dep_prs a
  simp only [dpr, PyData.depth]
  omega
theorem dpr_len {a : Rw} (h : ∀ p ∈ a, ShP p) (hl : a.length ≤ 63) : (dpr a).shown.length + 64 ≤ sizeLine := by
  have h1 := PyData.shown_le_bulk 1921 (by decide) (dpr a) (by simp only [dpr, PyData.leavesShort]; exact leaf_prs h)
  have h2 : (dpr a).bulk = 5 * a.length := by simp only [dpr, PyData.bulk]; exact bulk_prs a
  rw [h2] at h1
  have h3 : (1921 + 2) * (5 * 63) + 1921 + 64 ≤ sizeLine := by decide
  have h4 : (1921 + 2) * (5 * a.length) ≤ (1921 + 2) * (5 * 63) := Nat.mul_le_mul (Nat.le_refl _) (by omega)
  omega
theorem Gr.sh {D M : Nat} {a : Rw} (u : Gu D M) (h : Gr D M (10 ^ 58) a) : ∀ p ∈ a, ShP p := fun p hp => by
  have hb : B 510 p.2 := (h.g.nd p hp).B u.pos (up_pow u.d (by decide)) (up_pow u.m (by decide))
  refine ⟨?_, ?_, ?_⟩
  · have h1 := h.g.lo p hp
    have h2 := h.g.hi p hp
    have h3 : (10 ^ 58 : Nat) < 2 ^ 200 := by decide
    exact up_pow (n := 200) (show p.1.natAbs < 2 ^ 200 by omega) (by decide)
  · exact up_pow hb.1 (by decide)
  · unfold ShI
    rw [Int.natAbs_natCast]
    exact up_pow hb.2 (by decide)
/-! ### their signs -/
theorem okS_of (s : String) : PyData.strOk (Str.ofString s) = true := by
  rw [Str.ofString_eq_toList]
  unfold PyData.strOk
  rw [List.all_toArray, List.all_eq_true]
  intro n hn
  obtain ⟨c, _, rfl⟩ := List.mem_map.mp hn
  have := c.valid
  refine decide_eq_true ?_
  show c.val.toNat < 1114112
  rcases this with h | h
  · have : c.val.toNat < 55296 := h
    omega
  · exact h.2
theorem okS_app {a b : Str} (ha : PyData.strOk a = true) (hb : PyData.strOk b = true) : PyData.strOk (a ++ b) = true := by
  unfold PyData.strOk at *
  show (a.cps ++ b.cps).all _ = true
  rw [Array.all_append, ha, hb]
  rfl
theorem okS_from : ∀ (ts : List Str) (k : Nat) (acc : Str), PyData.strOk acc = true → (∀ t ∈ ts, PyData.strOk t = true) → PyData.strOk (textFrom k acc ts) = true
  | [], _, _, h, _ => h
  | t :: ts, k, acc, h, hs => okS_from ts (k + 1) _ (okS_app (okS_app h (okS_of _)) (hs t List.mem_cons_self)) fun q hq => hs q (List.mem_cons_of_mem _ hq)
theorem okS_join : ∀ ts : List Str, (∀ t ∈ ts, PyData.strOk t = true) → PyData.strOk (Str.join ", " ts) = true
  | [], _ => by simp [Str.join, PyData.strOk, Str.empty]
  | [x], h => h x List.mem_cons_self
  | x :: y :: r, h => okS_app (okS_app (h x List.mem_cons_self) (okS_of _)) (okS_join (y :: r) fun t ht => h t (List.mem_cons_of_mem _ ht))
theorem okS_int (i : Int) : PyData.strOk (PyData.shown (.int i)) = true := okS_of _
theorem okS_tup {ds : List PyData} (h : ∀ t ∈ PyData.shownAll ds, PyData.strOk t = true) : PyData.strOk (PyData.shown (.tuple ds)) = true := by
  unfold PyData.shown
  exact okS_app (okS_app (okS_of _) (okS_join _ h)) (okS_of _)
theorem okS_pr (p : Int × Rat) : PyData.strOk (PyData.shown (pr p)) = true := by
  refine okS_tup fun t ht => ?_
  simp only [PyData.shownAll, List.mem_cons, List.not_mem_nil, or_false] at ht
  rcases ht with rfl | rfl
  · exact okS_int _
  · refine okS_tup fun t ht => ?_
    simp only [PyData.shownAll, List.mem_cons, List.not_mem_nil, or_false] at ht
    rcases ht with rfl | rfl
    · exact okS_int _
    · exact okS_int _
theorem okS_all : ∀ a : Rw, ∀ t ∈ PyData.shownAll (a.map pr), PyData.strOk t = true
  | [], t, h => by simp [PyData.shownAll] at h
  | p :: a, t, h => by
    simp only [List.map_cons, PyData.shownAll, List.mem_cons] at h
    rcases h with rfl | h
    · exact okS_pr p
    · exact okS_all a t h
theorem okS_dpr (a : Rw) : PyData.strOk (dpr a).shown = true := by
  unfold dpr PyData.shown listText
  exact okS_app (okS_from _ _ _ (okS_of _) (okS_all a)) (okS_of _)
/-- a normal row, brought to common bounds -/
theorem Gr.of {D M k E : Nat} {ps : Rw} (g : Gd D M (10 ^ 58) 6 ps) (kb : Kb 3 ps) (hD : 0 < D) (hM : M < 2 ^ 180) (hk : 0 < k) (hk2 : k < 2 ^ 280) (e : D * k = E) : Gr E (2 ^ 470) (10 ^ 58) (norm ps) := by
  subst e
  have h := ((g.norm hD).short' kb.norm).scale hk
  refine ⟨h.mono ?_ (Nat.le_refl _) (Nat.le_refl _), norm_nf ps⟩
  have h1 : 6 * M < 2 ^ 183 := mul_lt_pow (n := 3) (by decide) hM (by decide)
  exact Nat.le_of_lt (mul_lt_pow h1 hk2 (by decide))
theorem Gu.of {D1 D2 D3 : Nat} (h1 : 0 < D1) (h2 : 0 < D2) (h3 : 0 < D3) (l1 : D1 < 2 ^ 140) (l2 : D2 < 2 ^ 140) (l3 : D3 < 2 ^ 140) : Gu (D1 * D2 * D3) (2 ^ 470) :=
  ⟨Nat.mul_pos (Nat.mul_pos h1 h2) h3, mul_lt_pow (mul_lt_pow (k := 280) l1 l2 (by decide)) l3 (by decide), Nat.pow_lt_pow_right (by decide) (by decide)⟩
end Q7
set_option maxRecDepth 100000
set_option maxHeartbeats 4000000
namespace Q7
open PySem PySem.Spec PyProof.Rows L2
/-! ### calls by names alone -/
section
variable {X : Cx} {CX : CXT} {k : Nat} {f : Addr} {fd : FuncData} {ps ks : List Str} {sp : Sp} {E : XK} {x : Str} {p pos : Pos} {kws : List Keyword} {tk : TA} {g : List Value → List Value → List Value} {gV : List V → List V → List V}
theorem pe_callK0 (F : FnOk X.prog X.w X.K X.mg X.base CX k f fd ps sp) (room : Room k X.A) (gl : Gl X x) (here : X.mg x = some (.ref f)) (kp : PySem.W.keepIn X.K (.ref f) = true) (bnd : KBn X.K fd ps 0 ks g gV) (pass : Passes CX X E) (args : PK X kws tk)
    (named : (backToKw pos (keywordEach kws X.env)).all (·.1.isSome) = true := by rfl) (names : (backToKw pos (keywordEach kws X.env)).filterMap (·.1) = ks := by rfl) (nd : (x == ("__debug__" : Str)) = false := by decide)
    (plain : ((backTo pos (starEach [] X.env)).any (·.1) || (backToKw pos (keywordEach kws X.env)).any (·.1.isNone)) = false := by rfl) : PE X (.Call (.Name x p) [] kws pos) (tCallN 0 ks.length sp gV E tNil tk) := by
  constructor
  intro pins s σ H Q I h
  refine wpAny_Call_Name_kw (ld_glob I gl here (PySem.W.callWith_KW0 (h₀ := X.base) I.ok.mod.kin kp named (thn (args.run pos pins s σ H _ I h) fun ws s2 z => ?_) plain) nd)
  obtain ⟨zs, H2, I2, rz, l1, l2, q⟩ := z
  refine ⟨I2.kIn, ?_⟩
  rw [names]
  exact run_fnN (us := []) (vs := []) F room bnd pass I2 .nil rz rfl l2 q
end
section
variable {K : PySem.W.Frag} {x qual : Str} {params : Arguments} {body : List Stmt} {scope : Scope} {f : Addr} {fd : FuncData} {ps : List Str}
/-- names' places where no default stands -/
theorem kbP (F : FunD K x qual params body scope [] [] f fd) (n : Nat) (ks : List Str) (g : {α : Type} → List α → List α → List α) (rel : ∀ {vs zs : List V} {us ws : List Value}, Vals vs us → Vals zs ws → Vals (g vs zs) (g us ws))
    (h : ∀ (kV doc pm : Value) (an : Option Addr) (cdv ct : Value) (us ws : List Value), us.length = n → ws.length = ks.length → bindArgs (PySem.W.fnOf x qual params body scope .none kV doc pm an cdv ct) ⟨us, ks.zip ws⟩ = pure (ps.zip (g us ws))) :
    KBn K fd ps n ks (fun us ws => g us ws) (fun vs zs => g vs zs) := by
  obtain ⟨_, _, dV, kV, doc, pm, an, cdv, ct, _, rfl, _, _, hD, _⟩ := F.ex
  rcases hD with ⟨_, rfl⟩ | ⟨ne, _⟩
  · exact ⟨fun s us ws _ l1 l2 => .of_eq (h kV doc pm an cdv ct us ws l1 l2), rel⟩
  · exact absurd rfl ne
/-- (b = .., a = ..) of two parameters a, b -/
def swap2 {α : Type} (_ : List α) (ws : List α) : List α := match ws with
  | [a, b] => [b, a]
  | ws => ws
theorem swap2_rel {vs zs : List V} {us ws : List Value} (_ : Vals vs us) (h : Vals zs ws) : Vals (swap2 vs zs) (swap2 us ws) := by
  cases h with
  | nil => exact .nil
  | cons r1 h =>
    cases h with
    | nil => exact .cons r1 .nil
    | cons r2 h =>
      cases h with
      | nil => exact .cons r2 (.cons r1 .nil)
      | cons r3 h => exact .cons r1 (.cons r2 (.cons r3 h))
def swap3 {α : Type} (_ _ : List α) (ws : List α) : List α := match ws with
  | [a, b] => [b, a]
  | ws => ws
theorem swap3_rel {vs ds zs : List V} {us its ws : List Value} (h1 : Vals vs us) (_ : Vals ds its) (h : Vals zs ws) : Vals (swap3 vs ds zs) (swap3 us its ws) := swap2_rel h1 h
def only2 {α : Type} (_ : List α) (ws : List α) : List α := ws
end
/-! ### repr of any data, dicts of whole numbers too -/
def kvI (ns : List (Int × Int)) : List (Key × V) := ns.map fun q => (Sum.inl q.1, V.int q.2)
def dcI (ns : List (Int × Int)) : PyData := .dict (ns.map fun q => (.int q.1, .int q.2))
theorem readsI {h : Heap} {knd : KeyKind prog w Key} (kn : ∀ k v, knd.is k v = keyIs k v) : ∀ (ns : List (Int × Int)) {vs : List (Key × Value)} {es : List DictEntry}, KV (kvI ns) vs → Pairs knd es vs →
    ReadsAll h (es.map (·.key)) (ns.map fun q => PyData.int q.1) [] ∧ ReadsAll h (es.map (·.val)) (ns.map fun q => PyData.int q.2) []
  | [], _, _, r, p => by
    cases r
    cases p
    exact ⟨.nil, .nil⟩
  | q :: ns, _, _, r, p => by
    cases r with
    | cons r1 r2 =>
      cases p with
      | cons p1 p2 p3 =>
        obtain ⟨e1, t2, e2⟩ := r1
        obtain ⟨i1, i2⟩ := readsI kn ns r2 p3
        rw [kn, ← e1] at p1
        rcases keyIs_shape p1 with ⟨i, t, a1, a2⟩ | ⟨x, t, a1, a2⟩
        · cases a1
          refine ⟨?_, ?_⟩
          · simp only [List.map_cons]
            rw [a2]
            exact .cons (.int _ _) i1
          · simp only [List.map_cons]
            rw [p2, e2]
            exact .cons (.int _ _) i2
        · cases a1
def DpX (K : PySem.W.Frag) (H : Hp) (v : V) (d : PyData) : Prop := (Dp K H v d ∧ d.hasDict = false) ∨ ∃ a ns, v = .ref a ∧ H a = some (.dK (kvI ns)) ∧ d = dcI ns
theorem dpX_reads {X : Cx} {pins : List (Addr × Obj)} {σ : L2.St} {H : Hp} {s : Shared} {v : V} {u : Value} {d : PyData} (I : Inv X pins σ H s) (h : DpX X.K H v d) (r : RelV v u) : ∃ as, Reads s.heap u d as ∧ (d.hasDict = true → sysModules ∉ as) := by
  rcases h with ⟨h, nd⟩ | ⟨a, ns, rfl, ha, rfl⟩
  · obtain ⟨as, q⟩ := Dp.reads I d v u h r
    exact ⟨as, q, fun z => by rw [nd] at z; cases z⟩
  · cases r
    obtain ⟨_, nsys, vs, kv, o, es, ep, h1, h2, h3, _, prs, _⟩ := (show ObjOk X.prog X.w H s.heap a (.dK (kvI ns)) from I.hok a _ ha)
    obtain ⟨k1, k2⟩ := readsI (h := s.heap) (fun _ _ => rfl) ns kv prs
    refine ⟨_, Reads.dict h1 h2.1 h3 (by rw [List.map_map]; exact k1) (by rw [List.map_map]; exact k2), fun _ m => ?_⟩
    simp only [List.append_nil, List.mem_cons, List.not_mem_nil, or_false] at m
    rw [← m] at nsys
    simp at nsys
def rReprX (K : PySem.W.Frag) : List V → Hp → VK → Prop := fun as H Q => ∃ v d, as = [v] ∧ DpX K H v d ∧ d.showable = true ∧ d.depth ≤ 40 ∧ d.shown.length + 64 ≤ sizeLine ∧ Q (.str d.shown) H
theorem call_reprX {X : Cx} (g : X.A.guards = some []) (hu : X.A.units + 70 < cLine) : CallR X (.builtin "repr") (rReprX X.K) := by
  intro pins s σ H as us Q I r h
  obtain ⟨v, d, rfl, dp, sh, dep, sz, q⟩ := h
  obtain ⟨u, rfl, rel⟩ := vals1 r
  obtain ⟨bs, rd, hsm⟩ := dpX_reads I dp rel
  cases rd with
  | none => exact PySem.P.repr_of_none ⟨.str _, H, I.tok _, ⟨_, rfl⟩, q⟩
  | bool b => exact PySem.P.repr_of_bool ⟨.str _, H, I.tok _, ⟨_, rfl⟩, q⟩
  | int i t => exact PySem.P.repr_of_int (of_decide_eq_true sh) ⟨.str _, H, I.tok _, ⟨_, rfl⟩, q⟩
  | str x t => exact PySem.P.repr_of_str ⟨.str _, H, I.tok _, ⟨_, rfl⟩, q⟩ (by have : (reprText x).length + 64 ≤ sizeLine := sz; omega)
  | list a1 a2 a3 a4 => exact repr_of_reads' (.list a1 a2 a3 a4) sh hsm g (by omega) (fun _ _ z => z) (fun h' u tk kp => ⟨.str _, H, I.kept (t' := tk) kp, ⟨_, rfl⟩, q⟩) (by omega)
  | tuple a1 a2 a3 a4 => exact repr_of_reads' (.tuple a1 a2 a3 a4) sh hsm g (by omega) (fun _ _ z => z) (fun h' u tk kp => ⟨.str _, H, I.kept (t' := tk) kp, ⟨_, rfl⟩, q⟩) (by omega)
  | dict a1 a2 a3 a4 a5 => exact repr_of_reads' (.dict a1 a2 a3 a4 a5) sh hsm g (by omega) (fun _ _ z => z) (fun h' u tk kp => ⟨.str _, H, I.kept (t' := tk) kp, ⟨_, rfl⟩, q⟩) (by omega)
/-! ### the kind of any value -/
def kinds : List String := ["NoneType", "bool", "int", "str", "list", "tuple", "dict"]
def tKinds : Tst := fun K => kinds.all fun t => decide (PySem.W.kitOne K (.type t) (.type "int") = some (t == "int" || t == "bool")) && (decide (PySem.W.kitOne K (.type t) (.type "bool") = some (t == "bool")) && decide (PySem.W.kitOne K (.type t) (.type "tuple") = some (t == "tuple")))
structure Kit (K : PySem.W.Frag) (t : String) : Prop where
  int : PySem.W.kitOne K (.type t) (.type "int") = some (t == "int" || t == "bool")
  bool : PySem.W.kitOne K (.type t) (.type "bool") = some (t == "bool")
  tup : PySem.W.kitOne K (.type t) (.type "tuple") = some (t == "tuple")
theorem tKinds_ok {K : PySem.W.Frag} (c : tKinds K = true) : ∀ t ∈ kinds, Kit K t := fun t ht => by
  have h := List.all_eq_true.mp c t ht
  obtain ⟨h1, h⟩ := He.ba h
  obtain ⟨h2, h3⟩ := He.ba h
  exact ⟨of_decide_eq_true h1, of_decide_eq_true h2, of_decide_eq_true h3⟩
/-- v is of that kind -/
def Ki (K : PySem.W.Frag) (H : Hp) (v : V) (t : String) : Prop := TyX K H v (.type t) ∧ t ∈ kinds
section
variable {K : PySem.W.Frag} {H : Hp}
theorem ki_non : Ki K H .non "NoneType" := ⟨.base .non, by decide⟩
theorem ki_bl (b : Bool) : Ki K H (.bl b) "bool" := ⟨.base (.bl b), by decide⟩
theorem ki_int (i : Int) : Ki K H (.int i) "int" := ⟨.base (.int i), by decide⟩
theorem ki_str (x : Str) : Ki K H (.str x) "str" := ⟨.base (.str x), by decide⟩
theorem ki_tup {p : Addr} {xs : List V} (h : SqT K H p xs) : Ki K H (.ref p) "tuple" := ⟨tyT h, by decide⟩
theorem ki_lst {p : Addr} {xs : List V} (h : SqL K H p xs) : Ki K H (.ref p) "list" := ⟨tyL h, by decide⟩
theorem ki_dct {p : Addr} {xs : List (Key × V)} (h : H p = some (.dK xs)) : Ki K H (.ref p) "dict" := ⟨.base (.dK h), by decide⟩
/-- why a value is no fraction -/
inductive NoFr (K : PySem.W.Frag) (H : Hp) : V → Prop where
  | kind {v : V} {t : String} : Ki K H v t → t ≠ "tuple" → NoFr K H v
  | many {p : Addr} {xs : List V} : SqT K H p xs → xs.length ≠ 2 → NoFr K H (.ref p)
  | top {p : Addr} {x y : V} {t : String} : SqT K H p [x, y] → Ki K H x t → t ≠ "int" → NoFr K H (.ref p)
  | bot {p : Addr} {a : Int} {y : V} {t : String} : SqT K H p [.int a, y] → Ki K H y t → t ≠ "int" → NoFr K H (.ref p)
  | low {p : Addr} {a b : Int} : SqT K H p [.int a, .int b] → (b < 1 ∨ Nat.gcd a.natAbs b.natAbs ≠ 1) → NoFr K H (.ref p)
end
end Q7
set_option maxRecDepth 100000
set_option maxHeartbeats 4000000
namespace Q7
open PySem PySem.Spec PyProof.Rows L2
/-! ### any value stays what it is -/
section
variable {K : PySem.W.Frag} {H H' : Hp}
theorem rd_same {a : Addr} {u : HO} (s : Same H H') (h : Rd H a u) : Rd H' a u := h.elim (fun h => .inl (s _ _ h)) fun ⟨o, h⟩ => .inr ⟨o, s _ _ h⟩
theorem sqT_same {a : Addr} {xs : List V} (s : Same H H') (h : SqT K H a xs) : SqT K H' a xs := sqT_tk h (same_tk s)
theorem sqL_same {a : Addr} {xs : List V} (s : Same H H') (h : SqL K H a xs) : SqL K H' a xs := Same.seq s h
theorem tyOf_same {x : V} {t : Value} (s : Same H H') (h : TyOf K H x t) : TyOf K H' x t := by
  cases h with
  | non => exact .non
  | bl x => exact .bl x
  | int i => exact .int i
  | str x => exact .str x
  | flt x => exact .flt x
  | lst h => exact .lst (s _ _ h)
  | frz h => exact .frz (s _ _ h)
  | tup h => exact .tup (s _ _ h)
  | dK h => exact .dK (s _ _ h)
  | dT h => exact .dT (s _ _ h)
  | ins h a b c d e => exact .ins (s _ _ h) a b c d e
theorem tyX_same {x : V} {t : Value} (s : Same H H') (h : TyX K H x t) : TyX K H' x t := by
  cases h with
  | base h => exact .base (tyOf_same s h)
  | byt b => exact .byt b
  | set h => exact .set (s _ _ h)
  | kList a b => exact .kList a b
  | kTuple a b => exact .kTuple a b
  | kDict a b => exact .kDict a b
  | fTuple h => exact .fTuple (s _ _ h)
  | fDict h => exact .fDict (s _ _ h)
mutual
theorem dp_same {H H' : Hp} (s : Same H H') : ∀ {v : V} {d : PyData}, Dp K H v d → Dp K H' v d
  | _, _, .non => .non
  | _, _, .bl b => .bl b
  | _, _, .int i => .int i
  | _, _, .str x => .str x
  | _, _, .lst a b => .lst (sqL_same s a) (dpAll_same s b)
  | _, _, .tup a b => .tup (sqT_same s a) (dpAll_same s b)
theorem dpAll_same {H H' : Hp} (s : Same H H') : ∀ {vs : List V} {ds : List PyData}, DpAll K H vs ds → DpAll K H' vs ds
  | _, _, .nil => .nil
  | _, _, .cons a b => .cons (dp_same s a) (dpAll_same s b)
end
theorem dpX_same {v : V} {d : PyData} (s : Same H H') (h : DpX K H v d) : DpX K H' v d := by
  rcases h with ⟨h, n⟩ | ⟨a, ns, e, h, e2⟩
  · exact .inl ⟨dp_same s h, n⟩
  · exact .inr ⟨a, ns, e, s _ _ h, e2⟩
theorem ki_same {v : V} {t : String} (s : Same H H') (h : Ki K H v t) : Ki K H' v t := ⟨tyX_same s h.1, h.2⟩
theorem noFr_same {v : V} (s : Same H H') (h : NoFr K H v) : NoFr K H' v := by
  cases h with
  | kind k n => exact .kind (ki_same s k) n
  | many S n => exact .many (sqT_same s S) n
  | top S k n => exact .top (sqT_same s S) (ki_same s k) n
  | bot S k n => exact .bot (sqT_same s S) (ki_same s k) n
  | low S n => exact .low (sqT_same s S) n
end
/-! ### small data: their texts -/
structure SmAll (n m : Nat) (ds : List PyData) : Prop where
  sh : PyData.showableAll ds = true
  lf : PyData.leavesShortAll 1921 ds = true
  bk : PyData.bulkAll ds ≤ n
  dp : PyData.depthAll ds ≤ m
  nd : PyData.hasDictAll ds = false
structure SmI (n m : Nat) (d : PyData) : Prop where
  sh : d.showable = true
  lf : d.leavesShort 1921 = true
  bk : d.bulk ≤ n
  dp : d.depth ≤ m
  nd : d.hasDict = false
theorem SmI.len {n m : Nat} {d : PyData} (h : SmI n m d) (hn : n ≤ 4000) : d.shown.length + 64 ≤ sizeLine := by
  have h1 := PyData.shown_le_bulk 1921 (by decide) d h.lf
  have h3 : (1921 + 2) * 4000 + 1921 + 64 ≤ sizeLine := by decide
  have h4 : (1921 + 2) * d.bulk ≤ (1921 + 2) * 4000 := Nat.mul_le_mul (Nat.le_refl _) (Nat.le_trans h.bk hn)
  omega
theorem sm_int {x : Int} (h : ShI x) : SmI 1 0 (.int x) := ⟨by simp only [PyData.showable]; exact decide_eq_true (shI_log h), leaf_int h, by simp [PyData.bulk], by simp [PyData.depth], by simp [PyData.hasDict]⟩
theorem sm_non : SmI 1 0 .none := ⟨by simp [PyData.showable], by simp [PyData.leavesShort], by simp [PyData.bulk], by simp [PyData.depth], by simp [PyData.hasDict]⟩
theorem sm_bl (b : Bool) : SmI 1 0 (.bool b) := ⟨by simp [PyData.showable], by cases b <;> decide +kernel, by simp [PyData.bulk], by simp [PyData.depth], by simp [PyData.hasDict]⟩
theorem smA_nil : SmAll 0 0 [] := ⟨by simp [PyData.showableAll], by simp [PyData.leavesShortAll], by simp [PyData.bulkAll], by simp [PyData.depthAll], by simp [PyData.hasDictAll]⟩
theorem smA_cons {n m k l : Nat} {d : PyData} {ds : List PyData} (h : SmI n m d) (hs : SmAll k l ds) : SmAll (n + k + 1) (max m l) (d :: ds) := by
  refine ⟨?_, ?_, ?_, ?_, ?_⟩
  · simp only [PyData.showableAll, h.sh, hs.sh, Bool.and_self]
  · simp only [PyData.leavesShortAll, h.lf, hs.lf, Bool.and_self]
  · have := h.bk; have := hs.bk; simp only [PyData.bulkAll]; omega
  · have := h.dp; have := hs.dp; simp only [PyData.depthAll]; omega
  · simp only [PyData.hasDictAll, h.nd, hs.nd, Bool.or_self]
theorem sm_tup {n m : Nat} {ds : List PyData} (h : SmAll n m ds) : SmI (n + 1) (m + 1) (.tuple ds) := by
  refine ⟨?_, ?_, ?_, ?_, ?_⟩
  · simp only [PyData.showable]; exact h.sh
  · simp only [PyData.leavesShort]; exact h.lf
  · have := h.bk; simp only [PyData.bulk]; omega
  · have := h.dp; simp only [PyData.depth]; omega
  · simp only [PyData.hasDict]; exact h.nd
theorem sm_lst {n m : Nat} {ds : List PyData} (h : SmAll n m ds) : SmI (n + 1) (m + 1) (.list ds) := by
  refine ⟨?_, ?_, ?_, ?_, ?_⟩
  · simp only [PyData.showable]; exact h.sh
  · simp only [PyData.leavesShort]; exact h.lf
  · have := h.bk; simp only [PyData.bulk]; omega
  · have := h.dp; simp only [PyData.depth]; omega
  · simp only [PyData.hasDict]; exact h.nd
theorem sm_str {x : Str} {n : Nat} (h : PyData.strOk x = true) (l : x.length ≤ n) : SmI n 0 (.str x) := by
  refine ⟨by simp only [PyData.showable], ?_, by simp only [PyData.bulk]; exact l, by simp [PyData.depth], by simp only [PyData.hasDict]⟩
  simp only [PyData.leavesShort]
  rw [List.all_eq_true]
  intro c hc
  unfold PyData.strOk at h
  rw [Array.all_eq_true'] at h
  have := of_decide_eq_true (h c (Array.mem_def.mpr hc))
  exact decide_eq_true (Nat.lt_of_lt_of_le this (by decide))
theorem str_int_len {i : Int} (h : ShI i) : (Str.ofString (toString i)).length ≤ 1921 := shI_text h
/-! ### nearly fractions -/
def OddV (K : PySem.W.Frag) (H : Hp) (v : V) : Prop := NoFr K H v ∧ ∃ d, DpX K H v d ∧ d.showable = true ∧ d.depth ≤ 40 ∧ d.shown.length + 64 ≤ sizeLine
section
variable {K : PySem.W.Frag} {H H' : Hp}
theorem oddV_same {v : V} (s : Same H H') (h : OddV K H v) : OddV K H' v := by
  obtain ⟨n, d, dp, r⟩ := h
  exact ⟨noFr_same s n, d, dpX_same s dp, r⟩
theorem odd_of {v : V} {d : PyData} {n m : Nat} (nf : NoFr K H v) (dp : Dp K H v d) (s : SmI n m d) (hn : n ≤ 4000 := by decide) (hm : m ≤ 9 := by decide) : OddV K H v := by
  have := s.dp
  exact ⟨nf, d, .inl ⟨dp, s.nd⟩, s.sh, by omega, s.len hn⟩
theorem odd_dct {a : Addr} {ns : List (Int × Int)} (h : H a = some (.dK (kvI ns))) (hs : ∀ q ∈ ns, ShI q.1 ∧ ShI q.2) (hl : ns.length ≤ 1) : OddV K H (.ref a) := by
  refine ⟨.kind (ki_dct h) (by decide), dcI ns, .inr ⟨a, ns, rfl, h, rfl⟩, ?_⟩
  match ns, hl, hs with
  | [], _, _ => decide +kernel
  | [(x, y)], _, hs =>
    obtain ⟨h1, h2⟩ := hs (x, y) List.mem_cons_self
    have lf : (dcI [(x, y)]).leavesShort 1921 = true := by
      simp only [dcI, List.map, PyData.leavesShort, PyData.leavesShortKv]
      have e1 := leaf_int h1
      have e2 := leaf_int h2
      simp only [PyData.leavesShort] at e1 e2
      rw [e1, e2]
      rfl
    refine ⟨?_, ?_, ?_⟩
    · simp only [dcI, List.map, PyData.showable, PyData.showableKv]
      rw [decide_eq_true (shI_log h1), decide_eq_true (shI_log h2)]
      rfl
    · simp only [dcI, PyData.depth, PyData.depthKv, List.map]
      decide
    · have h1 := PyData.shown_le_bulk 1921 (by decide) _ lf
      have h2 : (dcI [(x, y)]).bulk = 2 := by simp only [dcI, PyData.bulk, PyData.bulkKv, List.map]
      rw [h2] at h1
      have h3 : (1921 + 2) * 2 + 1921 + 64 ≤ sizeLine := by decide
      omega
end
/-- what is drawn and made so far -/
structure Wk (K : PySem.W.Frag) (x : V) (q : Rat) (b : Addr) (H0 H1 H : Hp) (src : HO) (vs : List V) : Prop where
  sk : Same H1 H
  sb : ∀ y o, H0 y = some o → y ≠ b → H y = some o
  sr : H b = some src
  fx : FrV K H x q
  all : ∀ v ∈ vs, OddV K H v
section
variable {K : PySem.W.Frag} {x : V} {q : Rat} {b : Addr} {H0 H1 H H' : Hp} {src : HO} {vs : List V}
theorem Wk.same (W : Wk K x q b H0 H1 H src vs) (s : Same H H') : Wk K x q b H0 H1 H' src vs :=
  ⟨W.sk.trans s, fun y o e n => s _ _ (W.sb y o e n), s _ _ W.sr, frV_tk W.fx (same_tk s), fun v hv => oddV_same s (W.all v hv)⟩
theorem Wk.new {p : Addr} {o : HO} (W : Wk K x q b H0 H1 H src vs) (hp : H p = none) : Wk K x q b H0 H1 (upd H p o) src vs := W.same (same_new hp)
theorem Wk.put {p : Addr} {o : HO} {v : V} (W : Wk K x q b H0 H1 H src vs) (hp : H p = none) (f : OddV K (upd H p o) v) : Wk K x q b H0 H1 (upd H p o) src (vs ++ [v]) := by
  have W2 := W.new (o := o) hp
  refine ⟨W2.sk, W2.sb, W2.sr, W2.fx, fun u hu => ?_⟩
  rcases List.mem_append.mp hu with hu | hu
  · exact W2.all u hu
  · rw [List.mem_singleton] at hu
    subst hu
    exact f
theorem Wk.add {v : V} (W : Wk K x q b H0 H1 H src vs) (f : OddV K H v) : Wk K x q b H0 H1 H src (vs ++ [v]) := by
  refine ⟨W.sk, W.sb, W.sr, W.fx, fun u hu => ?_⟩
  rcases List.mem_append.mp hu with hu | hu
  · exact W.all u hu
  · rw [List.mem_singleton] at hu
    subst hu
    exact f
theorem Wk.mark (W : Wk K x q b H0 H1 H src vs) : Wk K x q b H0 H H src vs := ⟨Same.refl _, W.sb, W.sr, W.fx, W.all⟩
/-- a tuple of whole numbers only, too long or no fraction -/
theorem odd_ints {p : Addr} {xs : List Int} (h : H p = some (.tup (xs.map V.int))) (nf : NoFr K H (.ref p)) (hs : ∀ i ∈ xs, ShI i) (hl : xs.length ≤ 9) : OddV K H (.ref p) := by
  have sA : ∀ ys : List Int, (∀ i ∈ ys, ShI i) → SmAll (2 * ys.length) 0 (ys.map PyData.int) ∧ DpAll K H (ys.map V.int) (ys.map PyData.int) := by
    intro ys
    induction ys with
    | nil => exact fun _ => ⟨smA_nil, .nil⟩
    | cons y r ih =>
      intro hy
      obtain ⟨i1, i2⟩ := ih fun i hi => hy i (List.mem_cons_of_mem _ hi)
      have := smA_cons (sm_int (hy y List.mem_cons_self)) i1
      refine ⟨⟨this.sh, this.lf, Nat.le_trans this.bk (by simp only [List.length_cons]; omega), Nat.le_trans this.dp (by decide), this.nd⟩, .cons (.int y) i2⟩
  obtain ⟨a1, a2⟩ := sA xs hs
  exact odd_of nf (.tup (sqT_of h) a2) (sm_tup a1) (by omega) (by decide)
end
end Q7
set_option maxRecDepth 100000
set_option maxHeartbeats 4000000
namespace Q7
open PySem PySem.Spec PyProof.Rows L2
/-! ### a caught exception, kept behind its suite -/
/-- an exception of the class at D without an own dict, as a value -/
def ExK (D a : Addr) : HO := .ext fun h => ∃ oe vs, h.get? a = some oe ∧ Zc (.ref D) none oe ∧ oe.data = .fields vs
theorem exK_ok {P : Program} {w : World} {H : Hp} {h : Heap} {D a : Addr} {oe : Obj} {vs : Array Value} (e : h.get? a = some oe) (z : Zc (.ref D) none oe) (d : oe.data = .fields vs) : ObjOk P w H h a (ExK D a) :=
  ⟨⟨oe, vs, e, z, d⟩, ⟨oe, e⟩, fun h1 h2 ⟨oe1, vs1, e1, z1, d1⟩ k => ⟨oe1, vs1, k _ e1, z1, d1⟩⟩
theorem objOk_upd {P : Program} {w : World} {H : Hp} {h : Heap} {a b : Addr} {o : HO} (ha : H a = none) : ∀ (u : HO), ObjOk P w H h b u → ObjOk P w (upd H a o) h b u
  | .lst _, q => q
  | .tup _, q => q
  | .dK _, q => q
  | .dT kvs, q => by
    obtain ⟨x1, x2, xs, pr, r⟩ := q
    refine ⟨x1, x2, xs, pImp (fun p q z => ⟨z.1, ?_, z.2.2⟩) pr, r⟩
    rw [upd_ne (ne_of_none z.2.1 ha)]
    exact z.2.1
  | .set _ _, q => q
  | .ins C dx fs, q => by
    obtain ⟨x1, r⟩ := q
    refine ⟨?_, r⟩
    rw [upd_ne (ne_of_none x1 ha)]
    exact x1
  | .own _, q => q
  | .xd _, q => q
  | .met _ _, q => q
  | .rng _ _, q => q
  | .frz o u, q => ⟨q.1, objOk_upd ha u q.2⟩
  | .tbl _, q => q
  | .ext _, q => q
theorem inv_hold {X : Cx} {pins : List (Addr × Obj)} {σ : L2.St} {H : Hp} {s : Shared} {a : Addr} {o : HO} (J : Inv X pins σ H s) (ha : H a = none) (h0 : X.s_0.heap.get? a = none) (hL : X.env.locals ≠ a) (hc : ∀ x c, List.lookup x X.env.cells = some c → c ≠ a)
    (hp : ∀ p ∈ X.pn ++ pins, p.1 ≠ a) (ob : ObjOk X.prog X.w (upd H a o) s.heap a o) : Inv X pins σ (upd H a o) s := by
  have old : ∀ {b : Addr} {u : HO}, H b = some u → b ≠ a := fun q => ne_of_none q ha
  refine { J with base := { J.base with free := ?_, tups := ?_, frzs := ?_, tbls := ?_ }, free := ?_, freeC := ?_, pin := ?_, hok := ?_ }
  · intro b u e e0 ex
    have : b ≠ a := fun z => by subst z; rw [h0] at e; cases e
    rw [upd_ne this]
    exact J.base.free b u e e0 ex
  · intro b xs e
    have z := J.base.tups b xs e
    rw [upd_ne (old z)]
    exact z
  · intro b u xs e
    have z := J.base.frzs b u xs e
    rw [upd_ne (old z)]
    exact z
  · intro b ps e
    obtain ⟨m, z⟩ := J.base.tbls b ps e
    refine ⟨m, ?_⟩
    rw [upd_ne (old z)]
    exact z
  · rw [upd_ne hL]
    exact J.free
  · intro x c e
    rw [upd_ne (hc x c e)]
    exact J.freeC x c e
  · intro p m
    obtain ⟨p1, p2, p3⟩ := J.pin p m
    refine ⟨p1, ?_, p3⟩
    rw [upd_ne (hp p m)]
    exact p2
  · intro b u e
    by_cases z : b = a
    · subst z
      rw [upd_same] at e
      cases e
      exact ob
    · rw [upd_ne z] at e
      exact objOk_upd ha u (J.hok b u e)
theorem cell_new {h : Heap} {a : Addr} {v : Option Value} (c : h.IsCell a v) (n : h.get? a = none) : False := by
  obtain ⟨o, e, _⟩ := c
  rw [n] at e
  cases e
/-- what is wished of an error that the except takes: behind its suite it is held -/
def wKept (K : PySem.W.Frag) (c : Value) (i : Nat) (ts : Addr → Value → Option Addr → TS) (D : Ends) : WX := fun cls d σ H => PySem.W.exmOne K cls c = some true ∧ ∃ C, cls = .ref C ∧ d = none ∧
  ∀ a, H a = none → ts a cls d { nx := fun σ' H' => D.nx (σ'.set i none) (upd H' a (ExK C a)), rt := fun v H' => D.rt v (upd H' a (ExK C a)), bk := fun σ' H' => D.bk (σ'.set i none) (upd H' a (ExK C a)), ct := fun σ' H' => D.ct (σ'.set i none) (upd H' a (ExK C a)) } (σ.set i (some (.ref a))) H
section
variable {X : Cx} {x n : Str} {c : Value} {i : Nat} {body suite : List Stmt} {b₀ : Stmt} {np pos pos' : Pos} {tb : WX → TS} {ts : Addr → Value → Option Addr → TS}
theorem ps_try_kept (hs : X.stack = X.env :: X.outer) (hf : X.env.frame = some X.env.locals) (hex : X.ex = []) (hN : X.N.Nodup) (hi : X.N[i]? = some n) (hln : X.env.kindOf n = some NameKind.local) (hc : Names X x c)
    (hb : ∀ (W : WX) (pn : List (Addr × Obj)) (xe : Value → Shared → Prop), Takes (X.tr pn xe) W → PassesOwn (model X.prog X.w) X.A X.env xe → PSs (X.tr pn xe) body (tb W))
    (hsu : ∀ (a : Addr) (oe : Obj) (cls : Value) (d : Option Addr) (pn : List (Addr × Obj)), Zc cls d oe → (∃ vs, oe.data = Data.fields vs) → PSs (X.suite a ((a, oe) :: pn)) (b₀ :: suite) (ts a cls d)) :
    PS X (.Try body [.ExceptHandler (some (.Name x np)) (some n) (b₀ :: suite) pos'] [] [] pos) (fun D σ H => tb (wKept X.K c i ts D) D σ H) := by
  refine ⟨fun pins s σ H D I h => ?_⟩
  have ok := I.ok
  have hfr : X.A.frames = some (X.env :: X.outer) := by rw [ok.frames, hs]
  refine wpAny_Try_except (wpAny_mono ((hb (wKept X.K c i ts D) (X.pn ++ pins) (fun e s₁ => wpAny (model X.prog X.w) X.A (noteFrame e X.env) (fun _ s₂ => wpAny (model X.prog X.w) X.A (setFlight e none)
    (fun _ s₃ => wpAny (model X.prog X.w) X.A (handleBy e X.env [.ExceptHandler (some (.Name x np)) (some n) (b₀ :: suite) pos']) (SP X pins D) X.xe s₃) X.xe s₂) X.xe s₁) (fun u s' xx => ?_) PassesOwn.looking).run [] s σ H D (I.toTry _) h) (fun f s1 hsp => ?_) (fun e s1 he => he))
  · obtain ⟨a, B, sI, pins', σ', H', cls, d, rfl, J', nb, up, sky, na, os, ag, hb1, C, rfl, rfl, hyes⟩ := xx
    have J := Inv.ofTry J' ok
    have sky' : Sky B (X.env :: X.outer) a (Zc (.ref C) none) X.env.locals s'.heap := by rw [← hs]; exact sky
    refine Sky.land Zc.steady hfr hf sky' fun h3 fl3 up3 => ?_
    have J3 : Inv X pins σ' H' ⟨h3, s'.gens, s'.drawn, s'.toks, s'.os⟩ := J.landed nb fl3.1 (up.trans up3) os ag
    obtain ⟨oe3, vs3, he3, hz3, hd3⟩ := fl3.there
    have nfr : ¬ a ∈ frs (X.env :: X.outer) := fun hm => by
      obtain ⟨_, o', e', hnf⟩ := Heap.FunFrames.mem fl3.2.2.1 hm
      rw [he3] at e'
      cases e'
      exact hnf vs3 hd3
    have nL : a ≠ X.env.locals := fun z => nfr (List.mem_filterMap.mpr ⟨X.env, List.mem_cons_self, by rw [hf, z]⟩)
    have nF : ¬ a ∈ X.fs := fun hm => by
      obtain ⟨e, he, q⟩ := List.mem_filterMap.mp hm
      exact nfr (List.mem_filterMap.mpr ⟨e, List.mem_cons_of_mem _ he, q⟩)
    have newI : sI.heap.get? a = none := by
      cases e : sI.heap.get? a with
      | none => rfl
      | some o =>
        have z := nb a o e (by rw [hs]; exact nfr)
        rw [fl3.2.1] at z
        cases z
    have new0 : X.s_0.heap.get? a = none := by
      cases e : X.s_0.heap.get? a with
      | none => rfl
      | some o =>
        obtain ⟨o', z⟩ := J.base.there a o e (by rw [hex]; exact List.not_mem_nil)
        rw [newI] at z
        cases z
    have nC : ∀ x c, List.lookup x X.env.cells = some c → c ≠ a := fun x c e z => by
      obtain ⟨v, hv⟩ := J.cell x c e
      subst z
      exact cell_new hv newI
    have nP : ∀ p ∈ X.pn ++ pins, p.1 ≠ a := fun p m z => by
      obtain ⟨p1, _⟩ := J.pin p m
      rw [z, newI] at p1
      cases p1
    have S3 := J3.suite he3 hd3 na nL nF
    refine wpAny_handleBy_cons (codeAny_handlers_test ?_) (fun q => by cases q)
    have LM : PySem.W.Looks (model X.prog X.w) h3 (excMatches (.ref a) c) true := PySem.W.exm_one J3.kIn (fun A Q E s k q => wpAny_typeOf_ref (k a oe3 he3) (by rw [hz3.1]; exact q)) hb1
    have test : ∀ {Q : Value → Shared → Prop} {E : Value → Shared → Prop}, Q c ⟨h3, s'.gens, s'.drawn, s'.toks, s'.os⟩ → wpAny (model X.prog X.w) (X.A.mark (some (.ref a))) (eval (.Name x np) X.env) Q E ⟨h3, s'.gens, s'.drawn, s'.toks, s'.os⟩ := fun {Q E} q => by
      obtain ⟨hg, hd, hm | ⟨hm, hv, hnn⟩⟩ := hc
      · exact ld_glob S3 hg hm q hd
      · exact ld_blt S3 hg hm hv q hnn hd
    refine test (PySem.W.Looks.here LM ?_)
    refine codeAny_handlers_suite_as (HandSPX.lands_againZ fl3 fun h4 fl4 up4 => ?_)
    have J4 : Inv X pins σ' H' ⟨h4, s'.gens, s'.drawn, s'.toks, s'.os⟩ := J.landed nb fl4.1 ((up.trans up3).trans up4) os ag
    obtain ⟨oe4, vs4, he4, hz4, hd4⟩ := fl4.there
    have S4 := J4.suite he4 hd4 na nL nF
    refine store_ok (X := X.suite a ((a, oe4) :: (X.pn ++ pins))) (v := .ref a) S4 hN hi (.inl hln) rfl (fun s5 S5 => ?_) (.inr hln)
    refine wpAny_mono ((hsu a oe4 (.ref C) none (X.pn ++ pins) hz4 ⟨vs4, hd4⟩).run [] s5 _ H' _ S5 (hyes a na)) (fun f s6 hsp => ?_) (fun _ _ z => z.elim)
    have end_ : ∀ {σ6 : L2.St} {H6 : Hp} {Q : Unit → Shared → Prop}, Inv (X.suite a ((a, oe4) :: (X.pn ++ pins))) [] σ6 H6 s6 → (∀ s7, Inv X pins (σ6.set i none) (upd H6 a (ExK C a)) s7 → Q () s7) →
        wpAny (model X.prog X.w) X.A (do bindName X.env n Value.none; unbindBehindTheSuite X.env n pos') Q X.xe s6 := fun {σ6 H6 Q} S6 hq => by
      obtain ⟨g1, g2, _⟩ := S6.pin (a, oe4) (List.mem_append_left _ List.mem_cons_self)
      exact gone_ok (inv_hold (S6.unsuite ok) g2 new0 (Ne.symm nL) nC nP (exK_ok g1 hz4 hd4)) hN hi hln hq
    cases f with
    | next =>
      obtain ⟨σ6, H6, S6, q6⟩ := hsp
      exact end_ S6 fun s7 J7 => ⟨_, _, J7, q6⟩
    | brk =>
      obtain ⟨σ6, H6, S6, q6⟩ := hsp
      exact end_ S6 fun s7 J7 => ⟨_, _, J7, q6⟩
    | cont =>
      obtain ⟨σ6, H6, S6, q6⟩ := hsp
      exact end_ S6 fun s7 J7 => ⟨_, _, J7, q6⟩
    | ret u =>
      obtain ⟨v6, σ6, H6, S6, r6, q6⟩ := hsp
      exact end_ S6 fun s7 J7 => ⟨v6, _, _, J7, r6, q6⟩
  · cases f with
    | next =>
      obtain ⟨σ', H', J', q⟩ := hsp
      exact wpAny_execs_nil ⟨σ', H', J'.ofTry ok, q⟩
    | brk =>
      obtain ⟨σ', H', J', q⟩ := hsp
      exact ⟨σ', H', J'.ofTry ok, q⟩
    | cont =>
      obtain ⟨σ', H', J', q⟩ := hsp
      exact ⟨σ', H', J'.ofTry ok, q⟩
    | ret u =>
      obtain ⟨v, σ', H', J', q⟩ := hsp
      exact ⟨v, σ', H', J'.ofTry ok, q⟩
end
/-! ### isinstance of a held exception -/
def rIsK (K : PySem.W.Frag) : List V → Hp → VK → Prop := fun xs H Q => ∃ (a D : Addr) (c : V) (u : Value) (b : Bool), xs = [.ref a, c] ∧ H a = some (ExK D a) ∧ ExcC K D ∧ ClsV c u ∧ PySem.W.kitOne K (.ref D) u = some b ∧ Q (.bl b) H
def rIsKT (K : PySem.W.Frag) : List V → Hp → VK → Prop := fun xs H Q => ∃ (a D : Addr) (tp : Addr) (cs : List V) (us : List Value) (b : Bool), xs = [.ref a, .ref tp] ∧ H a = some (ExK D a) ∧ ExcC K D ∧ H tp = some (.tup cs) ∧ Paired ClsV cs us ∧ PySem.W.kitAny K (.ref D) us = some b ∧ Q (.bl b) H
theorem inst_k {X : Cx} {pins : List (Addr × Obj)} {σ : L2.St} {H : Hp} {s : Shared} {a D : Addr} (I : Inv X pins σ H s) (ha : H a = some (ExK D a)) : ∃ oe, PySem.W.InstAt s.heap a oe D none := by
  obtain ⟨⟨oe, vs, e, z, d⟩, _⟩ := I.hok a _ ha
  exact ⟨oe, e, z.1, by unfold PySem.W.notCls; rw [d] <;> rfl, by rw [z.2]; trivial⟩
theorem call_isK {X : Cx} : CallR X (.builtin "isinstance") (rIsK X.K) := by
  intro pins s σ H as us Q I r h
  obtain ⟨a, D, c, u, b, rfl, ha, C, k, e, q⟩ := h
  obtain ⟨u1, u2, rfl, r1, r2⟩ := L2.vals2 r
  obtain rfl : u1 = Value.ref a := r1
  have e2 := ClsV.eq k r2
  subst e2
  obtain ⟨oe, J⟩ := inst_k I ha
  exact PySem.W.kia_one (PySem.W.handS_kitx_exc C.hg C.hk C.hs C.hd C.ha C.hn C.ht C.hm) I.kIn J e (fun z => nomatch z) fun tk => ⟨.bl b, H, I.tok tk, rfl, q⟩
theorem call_isKT {X : Cx} : CallR X (.builtin "isinstance") (rIsKT X.K) := by
  intro pins s σ H as us Q I r h
  obtain ⟨a, D, tp, cs, ws, b, rfl, ha, C, hT, k, e, q⟩ := h
  obtain ⟨u1, u2, rfl, r1, r2⟩ := L2.vals2 r
  obtain rfl : u1 = Value.ref a := r1
  obtain rfl : u2 = Value.ref tp := r2
  obtain ⟨oe, J⟩ := inst_k I ha
  obtain ⟨_, its, rv, o, h1, h2, n, h3⟩ := I.hok tp _ hT
  have e3 := ClsV.all k rv
  subst e3
  obtain ⟨oc, od, dt, sl⟩ := o
  cases h2
  cases h3
  exact PySem.W.kia_tup (PySem.W.handS_kitx_exc C.hg C.hk C.hs C.hd C.ha C.hn C.ht C.hm) I.kIn J h1 e (fun z => nomatch z) fun tk => ⟨.bl b, H, I.tok tk, rfl, q⟩
/-! ### two promises of one def; a call by names alone within a try -/
theorem fnOk_or {P : Program} {w : World} {K : PySem.W.Frag} {mg : Str → Option Value} {base : Heap} {CX : CXT} {k : Nat} {f : Addr} {fd : FuncData} {ps : List Str} {sp sq : Sp} (F : FnOk P w K mg base CX k f fd ps sp) (G : FnOk P w K mg base CX k f fd ps sq) :
    FnOk P w K mg base CX k f fd ps (fun vs H Q E => sp vs H Q E ∨ sq vs H Q E) :=
  ⟨fun vs H Q E h => h.elim (F.len vs H Q E) (G.len vs H Q E), fun A outer s H args us vs Q E r e b v h => h.elim (F.run A outer s H args us vs Q E r e b v) (G.run A outer s H args us vs Q E r e b v)⟩
section
variable {X : Cx} {CX : CXT} {k : Nat} {f : Addr} {fd : FuncData} {ps ks : List Str} {sp : Sp} {E : L2.St → XK} {x : Str} {p pos : Pos} {kws : List Keyword} {tk : TA} {g : List Value → List Value → List Value} {gV : List V → List V → List V}
theorem run_fnNS {n : Nat} {pins : List (Addr × Obj)} {σ : L2.St} {H : Hp} {s : Shared} {Q : VK} {us ws : List Value} {vs zs : List V} (F : FnOk X.prog X.w X.K X.mg X.base CX k f fd ps sp) (room : Room k X.A) (bnd : KBn X.K fd ps n ks g gV) (pass : PassesAt CX X σ (E σ)) (I : Inv X pins σ H s)
    (rv : Vals vs us) (rz : Vals zs ws) (l1 : vs.length = n) (l2 : zs.length = ks.length) (prom : sp (gV vs zs) H Q (E σ)) : wpAny (model X.prog X.w) X.A (call (.ref f) us (ks.zip ws)) (EP X pins σ Q) X.xe s := by
  refine wpAny_call (codeAny_mono (F.run X.A X.stack s H ⟨us, ks.zip ws⟩ (g us ws) (gV vs zs) Q (E σ) room I.env0 (bnd.to s us ws I.kIn (by rw [← rv.length]; exact l1) (by rw [← rz.length]; exact l2)) (bnd.rel rv rz) prom) fun res s' hq => ?_)
  match res, hq with
  | .error e, q => exact pass pins H s e s' I q
  | .ok (.ret _), q => exact I.after q
  | .ok .next, q => exact False.elim q
  | .ok .brk, q => exact False.elim q
  | .ok .cont, q => exact False.elim q
def tCallNS (n m : Nat) (sp : Sp) (gV : List V → List V → List V) (E : L2.St → XK) (t tk : TA) : TE := fun σ H Q => t σ H fun vs H1 => tk σ H1 fun zs H2 => vs.length = n ∧ zs.length = m ∧ sp (gV vs zs) H2 Q (E σ)
theorem pe_callKS (F : FnOk X.prog X.w X.K X.mg X.base CX k f fd ps sp) (room : Room k X.A) (gl : Gl X x) (here : X.mg x = some (.ref f)) (kp : PySem.W.keepIn X.K (.ref f) = true) (bnd : KBn X.K fd ps 0 ks g gV) (pass : ∀ σ, PassesAt CX X σ (E σ)) (args : PK X kws tk)
    (named : (backToKw pos (keywordEach kws X.env)).all (·.1.isSome) = true := by rfl) (names : (backToKw pos (keywordEach kws X.env)).filterMap (·.1) = ks := by rfl) (nd : (x == ("__debug__" : Str)) = false := by decide)
    (plain : ((backTo pos (starEach [] X.env)).any (·.1) || (backToKw pos (keywordEach kws X.env)).any (·.1.isNone)) = false := by rfl) : PE X (.Call (.Name x p) [] kws pos) (tCallNS 0 ks.length sp gV E tNil tk) := by
  constructor
  intro pins s σ H Q I h
  refine wpAny_Call_Name_kw (ld_glob I gl here (PySem.W.callWith_KW0 (h₀ := X.base) I.ok.mod.kin kp named (thn (args.run pos pins s σ H _ I h) fun us s2 z => ?_) plain) nd)
  obtain ⟨zs, H2, I2, rz, l1, l2, q⟩ := z
  refine ⟨I2.kIn, ?_⟩
  rw [names]
  exact run_fnNS (us := []) (vs := []) F room bnd (pass σ) I2 .nil rz rfl l2 q
end
/-- what the written part says of an error class -/
def tExcC (K : PySem.W.Frag) (D : Addr) : Bool :=
  (He.eqO (PySem.W.findIn K (.ref D) "__getattribute__") (some (some (.builtin "BaseException.__getattribute__"))) && (He.eqO (PySem.W.findIn K (.ref D) "__getattr__") (some none) && (decide (PySem.W.subIn K (.ref D) (.type "BaseException") = some true) && PySem.W.hasDictIn K D))) &&
  (He.eqO (PySem.W.findIn K (.ref D) "__class__") (some (some (.builtin "object.__class__"))) && (He.eqO (PySem.W.specialIn K (.builtin "object.__class__") "__get__") (some (some (.builtin "getset_descriptor.__get__"))) && (decide (PySem.W.takesIn K (.builtin "object.__class__") = some true) && decide (PySem.W.mroIn K D (.type "object") = some true))))
theorem tExcC_ok {K : PySem.W.Frag} {D : Addr} (h : tExcC K D = true) : ExcC K D := by
  unfold tExcC at h
  obtain ⟨h, g⟩ := He.ba h
  obtain ⟨h1, h⟩ := He.ba h
  obtain ⟨h2, h⟩ := He.ba h
  obtain ⟨h3, h4⟩ := He.ba h
  obtain ⟨g1, g⟩ := He.ba g
  obtain ⟨g2, g⟩ := He.ba g
  obtain ⟨g3, g4⟩ := He.ba g
  exact ⟨He.eqO_ok h1, He.eqO_ok h2, of_decide_eq_true h3, h4, He.eqO_ok g1, He.eqO_ok g2, of_decide_eq_true g3, of_decide_eq_true g4⟩
theorem fnOk_lift {P : Program} {w : World} {K : PySem.W.Frag} {mg : Str → Option Value} {base : Heap} {CX : CXT} {k : Nat} {f : Addr} {fd : FuncData} {ps : List Str} {sp : Sp} (F : FnOk P w K mg base CX0 k f fd ps sp) : FnOk P w K mg base CX k f fd ps sp :=
  ⟨F.len, fun A outer s H args us vs Q E r e b v h => codeAny_mono (F.run A outer s H args us vs Q E r e b v h) fun res s' hq => match res, hq with
    | .error _, q => False.elim q
    | .ok (.ret _), q => q
    | .ok .next, q => False.elim q
    | .ok .brk, q => False.elim q
    | .ok .cont, q => False.elim q⟩
end Q7
set_option maxRecDepth 100000
set_option maxHeartbeats 4000000
namespace Q7
open PySem PySem.Spec PyProof.Rows L2
/-! ### data with dicts within tuples and lists: their texts -/
section
variable (K : PySem.W.Frag) (H : Hp)
mutual
inductive DpZ : V → PyData → Prop
  | non : DpZ .non .none
  | bl (b : Bool) : DpZ (.bl b) (.bool b)
  | int (i : Int) : DpZ (.int i) (.int i)
  | str (x : Str) : DpZ (.str x) (.str x)
  | lst {a : Addr} {xs : List V} {ds : List PyData} : H a = some (.lst xs) → a ≠ sysModules → DpZs xs ds → DpZ (.ref a) (.list ds)
  | tup {a : Addr} {xs : List V} {ds : List PyData} : SqT K H a xs → DpZs xs ds → DpZ (.ref a) (.tuple ds)
  | dct {a : Addr} {ns : List (Int × Int)} : H a = some (.dK (kvI ns)) → DpZ (.ref a) (dcI ns)
inductive DpZs : List V → List PyData → Prop
  | nil : DpZs [] []
  | cons {v : V} {vs : List V} {d : PyData} {ds : List PyData} : DpZ v d → DpZs vs ds → DpZs (v :: vs) (d :: ds)
end
end
section
variable {K : PySem.W.Frag} {H H' : Hp}
mutual
theorem dpZ_same (s : Same H H') : ∀ {v : V} {d : PyData}, DpZ K H v d → DpZ K H' v d
  | _, _, .non => .non
  | _, _, .bl b => .bl b
  | _, _, .int i => .int i
  | _, _, .str x => .str x
  | _, _, .lst a n b => .lst (s _ _ a) n (dpZs_same s b)
  | _, _, .tup a b => .tup (sqT_same s a) (dpZs_same s b)
  | _, _, .dct a => .dct (s _ _ a)
theorem dpZs_same (s : Same H H') : ∀ {vs : List V} {ds : List PyData}, DpZs K H vs ds → DpZs K H' vs ds
  | _, _, .nil => .nil
  | _, _, .cons a b => .cons (dpZ_same s a) (dpZs_same s b)
end
theorem dpZ_fr {v : V} {q : Rat} (h : FrV K H v q) : DpZ K H v (fr q) := by
  obtain ⟨p, rfl, s⟩ := h
  exact .tup s (.cons (.int _) (.cons (.int _) .nil))
end
section
variable {X : Cx} {pins : List (Addr × Obj)} {σ : L2.St} {H : Hp} {s : Shared}
theorem objTup {a : Addr} {xs : List V} {h : Heap} {P : Program} {w : World} : ∀ (u : HO), u = .tup xs → ObjOk P w H h a u → ∃ its o n, Vals xs its ∧ h.get? a = some o ∧ o.cls = .type "tuple" ∧ o.data = .seq its.toArray n := fun u e h => by
  subst e
  obtain ⟨_, its, r, o, g, c, n, d⟩ := h
  exact ⟨its, o, n, r, g, c, d⟩
theorem sqT_obj (I : Inv X pins σ H s) {a : Addr} {xs : List V} (h : SqT X.K H a xs) : ∃ (o : Obj) (us : Array Value) (n : Nat), s.heap.get? a = some o ∧ o.cls = .type "tuple" ∧ o.data = .seq us n ∧ Vals xs us.toList := by
  rcases h with (h | ⟨o, h⟩) | ⟨o, us, n, h, hc, hd, _, r⟩
  · obtain ⟨its, o, n, r, g, c, d⟩ := objTup _ rfl (I.hok a _ h)
    exact ⟨o, its.toArray, n, g, c, d, by simpa using r⟩
  · obtain ⟨_, z⟩ := I.hok a _ h
    obtain ⟨its, o, n, r, g, c, d⟩ := objTup (P := X.prog) (w := X.w) (H := H) (h := s.heap) _ rfl z
    exact ⟨o, its.toArray, n, g, c, d, by simpa using r⟩
  · exact ⟨o, us, n, I.kIn a o h, hc, hd, r⟩
mutual
theorem dpZ_reads (I : Inv X pins σ H s) : ∀ {v : V} {d : PyData} {u : Value}, DpZ X.K H v d → RelV v u → ∃ as, Reads s.heap u d as ∧ sysModules ∉ as
  | _, _, _, .non, r => by cases r; exact ⟨[], .none, List.not_mem_nil⟩
  | _, _, _, .bl b, r => by cases r; exact ⟨[], .bool b, List.not_mem_nil⟩
  | _, _, _, .int i, r => by obtain ⟨t, rfl⟩ := r; exact ⟨[], .int i t, List.not_mem_nil⟩
  | _, _, _, .str x, r => by obtain ⟨t, rfl⟩ := r; exact ⟨[], .str x t, List.not_mem_nil⟩
  | _, _, _, .lst (a := a) h n ds, r => by
    cases r
    obtain ⟨_, its, m, rv, g⟩ := I.hok a _ h
    obtain ⟨as, q, hn⟩ := dpZs_reads I ds rv
    refine ⟨a :: as, .list g rfl rfl (by simpa using q), ?_⟩
    intro z
    rcases List.mem_cons.mp z with z | z
    · exact n z.symm
    · exact hn z
  | _, _, _, .tup h ds, r => by
    cases r
    obtain ⟨o, us, n, g, c, d, rv⟩ := sqT_obj I h
    obtain ⟨as, q, hn⟩ := dpZs_reads I ds rv
    exact ⟨as, .tuple g c d q, hn⟩
  | _, _, _, .dct (a := a) (ns := ns) h, r => by
    cases r
    obtain ⟨_, nsys, vs, kv, o, es, ep, h1, h2, h3, _, prs, _⟩ := (show ObjOk X.prog X.w H s.heap a (.dK (kvI ns)) from I.hok a _ h)
    obtain ⟨k1, k2⟩ := readsI (h := s.heap) (fun _ _ => rfl) ns kv prs
    refine ⟨_, Reads.dict h1 h2.1 h3 (by rw [List.map_map]; exact k1) (by rw [List.map_map]; exact k2), fun m => ?_⟩
    simp only [List.append_nil, List.mem_cons, List.not_mem_nil, or_false] at m
    rw [← m] at nsys
    simp at nsys
theorem dpZs_reads (I : Inv X pins σ H s) : ∀ {vs : List V} {ds : List PyData} {us : List Value}, DpZs X.K H vs ds → Vals vs us → ∃ as, ReadsAll s.heap us ds as ∧ sysModules ∉ as
  | _, _, _, .nil, r => by cases r; exact ⟨[], .nil, List.not_mem_nil⟩
  | _, _, _, .cons a b, r => by
    cases r with
    | cons r1 r2 =>
      obtain ⟨as, q1, n1⟩ := dpZ_reads I a r1
      obtain ⟨bs, q2, n2⟩ := dpZs_reads I b r2
      exact ⟨_, .cons q1 q2, fun z => (List.mem_append.mp z).elim n1 n2⟩
end
end
def rReprZ (K : PySem.W.Frag) : List V → Hp → VK → Prop := fun as H Q => ∃ v d, as = [v] ∧ DpZ K H v d ∧ d.showable = true ∧ d.depth ≤ 40 ∧ d.shown.length + 64 ≤ sizeLine ∧ Q (.str d.shown) H
theorem call_reprZ {X : Cx} (g : X.A.guards = some []) (hu : X.A.units + 70 < cLine) : CallR X (.builtin "repr") (rReprZ X.K) := by
  intro pins s σ H as us Q I r h
  obtain ⟨v, d, rfl, dp, sh, dep, sz, q⟩ := h
  obtain ⟨u, rfl, rel⟩ := vals1 r
  obtain ⟨bs, rd, hsm⟩ := dpZ_reads I dp rel
  cases rd with
  | none => exact PySem.P.repr_of_none ⟨.str _, H, I.tok _, ⟨_, rfl⟩, q⟩
  | bool b => exact PySem.P.repr_of_bool ⟨.str _, H, I.tok _, ⟨_, rfl⟩, q⟩
  | int i t => exact PySem.P.repr_of_int (of_decide_eq_true sh) ⟨.str _, H, I.tok _, ⟨_, rfl⟩, q⟩
  | str x t => exact PySem.P.repr_of_str ⟨.str _, H, I.tok _, ⟨_, rfl⟩, q⟩ (by have : (reprText x).length + 64 ≤ sizeLine := sz; omega)
  | list a1 a2 a3 a4 => exact repr_of_reads' (.list a1 a2 a3 a4) sh (fun _ => hsm) g (by omega) (fun _ _ z => z) (fun h' u tk kp => ⟨.str _, H, I.kept (t' := tk) kp, ⟨_, rfl⟩, q⟩) (by omega)
  | tuple a1 a2 a3 a4 => exact repr_of_reads' (.tuple a1 a2 a3 a4) sh (fun _ => hsm) g (by omega) (fun _ _ z => z) (fun h' u tk kp => ⟨.str _, H, I.kept (t' := tk) kp, ⟨_, rfl⟩, q⟩) (by omega)
  | dict a1 a2 a3 a4 a5 => exact repr_of_reads' (.dict a1 a2 a3 a4 a5) sh (fun _ => hsm) g (by omega) (fun _ _ z => z) (fun h' u tk kp => ⟨.str _, H, I.kept (t' := tk) kp, ⟨_, rfl⟩, q⟩) (by omega)
/-- a new list is not the modules' dict -/
def tLstS (t : TA) : TE := fun σ H Q => t σ H fun xs H1 => xs.length ≤ sizeLine ∧ ∀ p, H1 p = none → p ≠ sysModules → Q (.ref p) (upd H1 p (.lst xs))
theorem pe_lstS {X : Cx} {es : List Expr} {t : TA} {pos : Pos} (h : PA X es t) : PE X (.List es pos) (tLstS t) := by
  refine ⟨fun pins s σ H Q I hq => wpAny_List_spliced (thn (h.run pos pins s σ H _ I hq) fun us s1 z => ?_)⟩
  obtain ⟨xs, H1, I1, r, l, q⟩ := z
  refine ⟨by rw [← r.length]; exact l, ?_⟩
  exact ⟨.ref s1.heap.objs.size, upd H1 s1.heap.objs.size (.lst xs), I1.laid (o := .lst xs) (fun b u e => Heap.get?_push_of_some _ e) (Nat.le_refl _) ⟨l, us, 0, r, Heap.get?_push_size s1.heap rfl⟩, rfl, q _ (I1.hok.fresh (Nat.le_refl _)) (Nat.ne_of_gt I1.big)⟩
/-! ### nearly fractions, as data -/
structure SmX (n m : Nat) (d : PyData) : Prop where
  sh : d.showable = true
  lf : d.leavesShort 1921 = true
  bk : d.bulk ≤ n
  dp : d.depth ≤ m
theorem SmX.len {n m : Nat} {d : PyData} (h : SmX n m d) (hn : n ≤ 8000) : d.shown.length + 64 ≤ sizeLine := by
  have h1 := PyData.shown_le_bulk 1921 (by decide) d h.lf
  have h3 : (1921 + 2) * 8000 + 1921 + 64 ≤ sizeLine := by decide
  have h4 : (1921 + 2) * d.bulk ≤ (1921 + 2) * 8000 := Nat.mul_le_mul (Nat.le_refl _) (Nat.le_trans h.bk hn)
  omega
theorem SmI.x {n m : Nat} {d : PyData} (h : SmI n m d) : SmX n m d := ⟨h.sh, h.lf, h.bk, h.dp⟩
theorem smX_nil : SmX 4 1 (dcI []) := ⟨by decide +kernel, by decide +kernel, by decide +kernel, by decide +kernel⟩
theorem smX_pair {n m k l : Nat} {d e : PyData} (h : SmX n m d) (hs : SmX k l e) : SmX (n + k + 3) (max m l + 1) (.tuple [d, e]) := by
  refine ⟨?_, ?_, ?_, ?_⟩
  · simp only [PyData.showable, PyData.showableAll, h.sh, hs.sh, Bool.and_self]
  · simp only [PyData.leavesShort, PyData.leavesShortAll, h.lf, hs.lf, Bool.and_self]
  · have := h.bk; have := hs.bk; simp only [PyData.bulk, PyData.bulkAll]; omega
  · have := h.dp; have := hs.dp; simp only [PyData.depth, PyData.depthAll]; omega
def OddZ (K : PySem.W.Frag) (H : Hp) (v : V) : Prop := NoFr K H v ∧ ∃ d, DpZ K H v d ∧ SmX 3000 9 d
section
variable {K : PySem.W.Frag} {H H' : Hp}
theorem oddZ_same {v : V} (s : Same H H') (h : OddZ K H v) : OddZ K H' v := by
  obtain ⟨n, d, dp, r⟩ := h
  exact ⟨noFr_same s n, d, dpZ_same s dp, r⟩
theorem oddZ_of {v : V} {d : PyData} {n m : Nat} (nf : NoFr K H v) (dp : DpZ K H v d) (s : SmI n m d) (hn : n ≤ 3000 := by decide) (hm : m ≤ 9 := by decide) : OddZ K H v :=
  ⟨nf, d, dp, s.sh, s.lf, Nat.le_trans s.bk hn, Nat.le_trans s.dp hm⟩
theorem oddZ_dct {a : Addr} (h : H a = some (.dK (kvI []))) : OddZ K H (.ref a) := ⟨.kind (ki_dct h) (by decide), dcI [], .dct h, smX_nil.sh, smX_nil.lf, Nat.le_trans smX_nil.bk (by decide), Nat.le_trans smX_nil.dp (by decide)⟩
end
/-- what is drawn and made so far: the values stand in a part of the heap that the source is no part of -/
structure Wz (K : PySem.W.Frag) (x : V) (q : Rat) (b : Addr) (H0 H1 H : Hp) (src : HO) (vs : List V) : Prop where
  sk : Same H1 H
  sb : ∀ y o, H0 y = some o → y ≠ b → H y = some o
  sr : H b = some src
  gh : ∃ G : Hp, Same G H ∧ G b = none ∧ FrV K G x q ∧ ∀ v ∈ vs, OddZ K G v
section
variable {K : PySem.W.Frag} {x : V} {q : Rat} {b : Addr} {H0 H1 H H' : Hp} {src : HO} {vs : List V}
theorem Wz.start {ys : List V} (hs : H b = some (.lst ys)) (fx : FrV K H x q) (hu : H0 = H) : Wz K x q b H0 H H (.lst ys) [] := by
  subst hu
  refine ⟨Same.refl _, fun y o e _ => e, hs, fun y => if y = b then none else H0 y, fun y o e => ?_, by simp, ?_, fun v hv => by cases hv⟩
  · by_cases z : y = b
    · simp [z] at e
    · simpa [z] using e
  · obtain ⟨p, rfl, S⟩ := fx
    refine ⟨p, rfl, ?_⟩
    rcases S with (S | ⟨o, S⟩) | S
    · have z : p ≠ b := fun e => by subst e; rw [hs] at S; cases S
      exact .inl (.inl (by simp [z, S]))
    · have z : p ≠ b := fun e => by subst e; rw [hs] at S; cases S
      exact .inl (.inr ⟨o, by simp [z, S]⟩)
    · exact .inr S
theorem Wz.fx (W : Wz K x q b H0 H1 H src vs) : FrV K H x q := by
  obtain ⟨G, s, _, f, _⟩ := W.gh
  exact frV_tk f (same_tk s)
theorem Wz.same (W : Wz K x q b H0 H1 H src vs) (s : Same H H') : Wz K x q b H0 H1 H' src vs := by
  obtain ⟨G, sg, g0, f, a⟩ := W.gh
  exact ⟨W.sk.trans s, fun y o e n => s _ _ (W.sb y o e n), s _ _ W.sr, G, sg.trans s, g0, f, a⟩
theorem Wz.new {p : Addr} {o : HO} (W : Wz K x q b H0 H1 H src vs) (hp : H p = none) : Wz K x q b H0 H1 (upd H p o) src vs := W.same (same_new hp)
theorem Wz.put {p : Addr} {o : HO} {v : V} (W : Wz K x q b H0 H1 H src vs) (hp : H p = none) (f : ∀ G : Hp, G p = none → FrV K G x q → OddZ K (upd G p o) v) : Wz K x q b H0 H1 (upd H p o) src (vs ++ [v]) := by
  obtain ⟨G, sg, g0, fx, a⟩ := W.gh
  have W2 := W.new (o := o) hp
  have gp : G p = none := by
    cases e : G p with
    | none => rfl
    | some u => rw [sg _ _ e] at hp; cases hp
  have pb : b ≠ p := fun e => by subst e; rw [W.sr] at hp; cases hp
  have s1 := same_new (o := o) gp
  refine ⟨W2.sk, W2.sb, W2.sr, upd G p o, fun y u e => ?_, by rw [upd_ne pb]; exact g0, frV_tk fx (same_tk s1), fun u hu => ?_⟩
  · by_cases z : y = p
    · subst z
      rw [upd_same] at e ⊢
      exact e
    · rw [upd_ne z] at e ⊢
      exact sg _ _ e
  · rcases List.mem_append.mp hu with hu | hu
    · exact oddZ_same s1 (a u hu)
    · rw [List.mem_singleton] at hu
      subst hu
      exact f G gp fx
theorem Wz.add {v : V} (W : Wz K x q b H0 H1 H src vs) (f : ∀ G : Hp, OddZ K G v) : Wz K x q b H0 H1 H src (vs ++ [v]) := by
  obtain ⟨G, sg, g0, fx, a⟩ := W.gh
  refine ⟨W.sk, W.sb, W.sr, G, sg, g0, fx, fun u hu => ?_⟩
  rcases List.mem_append.mp hu with hu | hu
  · exact a u hu
  · rw [List.mem_singleton] at hu
    subst hu
    exact f G
theorem Wz.mark (W : Wz K x q b H0 H1 H src vs) : Wz K x q b H0 H H src vs := ⟨Same.refl _, W.sb, W.sr, W.gh⟩
/-- a list that was new since grows -/
theorem Wz.grow {l p : Addr} {o u o2 : HO} {v : V} (W : Wz K x q b H0 H1 H src vs) (hl : H l = none) (hp : upd H l o p = none) (f : ∀ G : Hp, G p = none → FrV K G x q → OddZ K (upd G p u) v) :
    Wz K x q b H0 (upd (upd (upd H l o) p u) l o2) (upd (upd (upd H l o) p u) l o2) src (vs ++ [v]) := by
  obtain ⟨G, sg, g0, fx, a⟩ := W.gh
  have gl : G l = none := by
    cases e : G l with
    | none => rfl
    | some u => rw [sg _ _ e] at hl; cases hl
  have pl : p ≠ l := fun e => by subst e; rw [upd_same] at hp; cases hp
  have hp2 : H p = none := by rwa [upd_ne pl] at hp
  have gp : G p = none := by
    cases e : G p with
    | none => rfl
    | some u => rw [sg _ _ e] at hp2; cases hp2
  have lb : b ≠ l := fun e => by subst e; rw [W.sr] at hl; cases hl
  have pb : b ≠ p := fun e => by subst e; rw [W.sr] at hp2; cases hp2
  have s1 := same_new (o := u) gp
  refine ⟨Same.refl _, fun y o e n => ?_, ?_, upd G p u, fun y w e => ?_, by rw [upd_ne pb]; exact g0, frV_tk fx (same_tk s1), fun w hw => ?_⟩
  · have z := W.sb y o e n
    have yl : y ≠ l := ne_of_none z hl
    have yp : y ≠ p := ne_of_none z hp2
    rw [upd_ne yl, upd_ne yp, upd_ne yl]
    exact z
  · rw [upd_ne lb, upd_ne pb, upd_ne lb]
    exact W.sr
  · by_cases z : y = p
    · subst z
      rw [upd_same] at e
      rw [upd_ne pl, upd_same]
      exact e
    · rw [upd_ne z] at e
      have yl : y ≠ l := fun q => by subst q; rw [gl] at e; cases e
      rw [upd_ne yl, upd_ne z, upd_ne yl]
      exact sg _ _ e
  · rcases List.mem_append.mp hw with hw | hw
    · exact oddZ_same s1 (a w hw)
    · rw [List.mem_singleton] at hw
      subst hw
      exact f G gp fx
/-- the source is drawn from -/
theorem Wz.draw {o : HO} (W : Wz K x q b H0 H1 H src vs) : (∀ v ∈ vs, OddZ K (upd H b o) v) ∧ (∀ y u, H0 y = some u → y ≠ b → upd H b o y = some u) ∧ ∀ y u, H y = some u → y ≠ b → upd H b o y = some u := by
  obtain ⟨G, sg, g0, fx, a⟩ := W.gh
  exact ⟨fun v hv => oddZ_same (same_mut sg g0) (a v hv), fun y u e n => by rw [upd_ne n]; exact W.sb y u e n, fun y u e n => by rw [upd_ne n]; exact e⟩
end
/-- nearly a fraction, in a part of the heap that the source is no part of -/
def OddB (K : PySem.W.Frag) (b : Addr) (H : Hp) (v : V) : Prop := ∃ G : Hp, Same G H ∧ G b = none ∧ OddZ K G v
section
variable {K : PySem.W.Frag} {b : Addr} {H H' : Hp} {v : V}
theorem OddB.z (h : OddB K b H v) : OddZ K H v := by
  obtain ⟨G, s, _, o⟩ := h
  exact oddZ_same s o
theorem OddB.sb (h : OddB K b H v) (s : ∀ y o, H y = some o → y ≠ b → H' y = some o) : OddB K b H' v := by
  obtain ⟨G, sg, g0, o⟩ := h
  exact ⟨G, fun y u e => s _ _ (sg _ _ e) (fun z => by subst z; rw [g0] at e; cases e), g0, o⟩
theorem Wz.drawn {x : V} {q : Rat} {H0 H1 : Hp} {src o : HO} {vs : List V} (W : Wz K x q b H0 H1 H src vs) : ∀ v ∈ vs, OddB K b (upd H b o) v := by
  obtain ⟨G, sg, g0, fx, a⟩ := W.gh
  exact fun v hv => ⟨G, same_mut sg g0, g0, a v hv⟩
end
end Q7
set_option maxRecDepth 100000
set_option maxHeartbeats 4000000
namespace Q7
open PySem PySem.Spec PyProof.Rows L2
/-! ### a method that is called by names alone -/
def tMethK (C : Addr) (m : Str) (nk : Nat) (sp : Sp) (gV : List V → List V → List V) (E : XK) (ta : TE) (tk : TA) : TE := fun σ H Q => ta σ H fun x H1 => ∃ a dx fs, x = .ref a ∧ H1 a = some (.ins C dx fs) ∧ fs.lookup m = none ∧ tk σ H1 fun zs H2 => zs.length = nk ∧ sp (gV [x] zs) H2 Q E
theorem pe_methK0 {X : Cx} {CX : CXT} {k : Nat} {f C : Addr} {fd : FuncData} {ps ks : List Str} {sp : Sp} {E : XK} {m : Str} {pos apos : Pos} {o : Expr} {kws : List Keyword} {ta : TE} {tk : TA} {pl : Sem Bool} {g : List Value → List Value → List Value} {gV : List V → List V → List V}
    (he : PE X o ta) (c : Cls X.K C) (hm : Meth X.K C m f) (F : FnOk X.prog X.w X.K X.mg X.base CX k f fd ps sp) (room : Room k X.A) (bnd : KBn X.K fd ps 1 ks g gV) (pass : Passes CX X E) (args : PK X kws tk)
    (named : (backToKw pos (keywordEach kws X.env)).all (·.1.isSome) = true := by rfl) (names : (backToKw pos (keywordEach kws X.env)).filterMap (·.1) = ks := by rfl)
    (plain : ((backTo pos (starEach [] X.env)).any (·.1) || (backToKw pos (keywordEach kws X.env)).any (·.1.isNone)) = false := by rfl)
    (ht : eval (.Call (.Attribute o m apos) [] kws pos) X.env = (do
      let ov ← eval o X.env
      standAt apos.atName
      let (f, first) ← holding [ov] (getMethod ov m pl)
      callWith pos f first (backTo pos (starEach [] X.env)) (backToKw pos (keywordEach kws X.env))) := by rfl) :
    PE X (.Call (.Attribute o m apos) [] kws pos) (tMethK C m ks.length sp gV E ta tk) := by
  refine ⟨fun pins s σ H Q I h => ?_⟩
  refine PySem.W.methodCall_KW (pl := pl) (thn (he.run pins s σ H _ I h) fun u s1 ⟨x, H1, I1, rx, a, dx, fs, ex, ea, l, q⟩ => ?_) ht
  subst ex
  obtain rfl : u = Value.ref a := rx
  refine getmeth_ok I1 ea c hm l ?_
  refine PySem.W.callWith_KW0 (first := [.ref a]) (h₀ := X.base) I.ok.mod.kin hm.kp named (thn (args.run pos pins s1 σ H1 _ I1 q) fun ws s2 ⟨zs, H2, I2, rz, l2, q2⟩ => ⟨I2.kIn, ?_⟩) plain
  rw [names]
  exact run_fnN (us := [.ref a]) (vs := [.ref a]) F room bnd pass I2 (.cons rfl .nil) rz rfl l2 q2
/-- places, then names in the parameters' order -/
def app2 {α : Type} (us ws : List α) : List α := us ++ ws
theorem vals_app : ∀ {vs zs : List V} {us ws : List Value}, Vals vs us → Vals zs ws → Vals (app2 vs zs) (app2 us ws)
  | _, _, _, _, .nil, h => h
  | _, _, _, _, .cons a b, h => .cons a (vals_app b h)
def app3 {α : Type} (us _ ws : List α) : List α := us ++ ws
theorem vals_app3 {vs ds zs : List V} {us its ws : List Value} (h1 : Vals vs us) (_ : Vals ds its) (h : Vals zs ws) : Vals (app3 vs ds zs) (app3 us its ws) := vals_app h1 h
end Q7
set_option maxRecDepth 100000
set_option maxHeartbeats 4000000
namespace Q7
open PySem PySem.Spec PyProof.Rows L2
/-! ### rows of one tick; the first that is found -/
theorem zero_row {Z : Rw} (h : ∀ p ∈ Z, p.1 = 0) : norm Z = if tot Z = 0 then [] else [(0, tot Z)] := by
  have e : ∀ f : Int → Rat, wt f Z = tot Z * f 0 := fun f => by
    rw [← wt_const]
    exact wt_congr fun p hp => by rw [h p hp]
  by_cases z : tot Z = 0
  · rw [if_pos z]
    refine norm_of ⟨.nil, by simp⟩ fun f => ?_
    rw [e, z, Rat.zero_mul]
    rfl
  · rw [if_neg z]
    refine norm_of ⟨by simp, by simpa using z⟩ fun f => ?_
    rw [e, wt_single]
theorem zero_head {Z : Rw} (h : ∀ p ∈ Z, p.1 = 0) : ∃ r, norm Z ++ [(0, 0)] = (0, tot Z) :: r := by
  rw [zero_row h]
  by_cases z : tot Z = 0
  · rw [if_pos z, z]
    exact ⟨[], rfl⟩
  · rw [if_neg z]
    exact ⟨[(0, 0)], rfl⟩
abbrev hereOf (a : Rw) (n : Int) : List Rat := (a.filter fun p => decide (p.1 = n)).map (·.2)
theorem here_head (n : Int) : ∀ a : Rw, ∃ r, hereOf a n ++ [0] = look a n :: r
  | [] => ⟨[], rfl⟩
  | (t, q) :: r => by
    unfold hereOf look
    by_cases e : t = n
    · rw [if_pos e, List.filter_cons_of_pos (by simpa using e)]
      exact ⟨_, rfl⟩
    · rw [if_neg e, List.filter_cons_of_neg (by simpa using e)]
      exact here_head n r
abbrev zeros (a : Rw) : Rw := a.map fun p => (0, p.2)
theorem zeros_tick (a : Rw) : ∀ p ∈ zeros a, p.1 = 0 := fun p hp => by
  obtain ⟨q, _, rfl⟩ := List.mem_map.mp hp
  rfl
theorem zeros_tot (a : Rw) : tot (zeros a) = tot a := by
  unfold tot zeros
  rw [List.map_map]
  rfl
/-! ### the bounds of a row that is looked at -/
structure GS (a : Rw) : Prop where
  ex : ∃ D M, Gd D M (10 ^ 58) 18 a ∧ 0 < D ∧ D < 2 ^ 400 ∧ M < 2 ^ 450
theorem GS.q {a : Rw} (h : GS a) : Gq a := by
  obtain ⟨D, M, g, h0, h1, h2⟩ := h.ex
  exact ⟨D, M, _, g.mono (Nat.le_refl _) (Nat.le_refl _) (by decide), h0, up_pow h1 (by decide), up_pow h2 (by decide)⟩
theorem GS.sh {a : Rw} (h : GS a) : ∀ p ∈ a, ShP p := fun p hp => by
  obtain ⟨D, M, g, h0, h1, h2⟩ := h.ex
  have hb : B 500 p.2 := (g.nd p hp).B h0 (up_pow h1 (by decide)) (up_pow h2 (by decide))
  refine ⟨?_, ?_, ?_⟩
  · have h1 := g.lo p hp
    have h2 := g.hi p hp
    have h3 : (10 ^ 58 : Nat) < 2 ^ 200 := by decide
    exact up_pow (n := 200) (show p.1.natAbs < 2 ^ 200 by omega) (by decide)
  · exact up_pow hb.1 (by decide)
  · unfold ShI
    rw [Int.natAbs_natCast]
    exact up_pow hb.2 (by decide)
theorem GS.sub {a b : Rw} (h : GS b) (s : a.Sublist b) : GS a := by
  obtain ⟨D, M, g, r⟩ := h.ex
  exact ⟨⟨D, M, g.sub s, r⟩⟩
theorem GS.len {a : Rw} (h : GS a) : a.length ≤ 18 := by
  obtain ⟨D, M, g, _⟩ := h.ex
  exact g.len
theorem GS.tot {a : Rw} (h : GS a) : B 500 (tot a) := by
  obtain ⟨D, M, g, h0, h1, h2⟩ := h.ex
  have z := ND.sum h0 (qs := a.map (·.2)) (M := M) fun q hq => by
    obtain ⟨p, hp, rfl⟩ := List.mem_map.mp hq
    exact g.nd p hp
  refine z.B h0 (up_pow h1 (by decide)) ?_
  rw [List.length_map]
  have h3 : a.length < 2 ^ 5 := by have := g.len; omega
  exact mul_lt_pow h3 h2 (by decide)
theorem GS.look {a : Rw} (h : GS a) (n : Int) : B 500 (look a n) := by
  obtain ⟨D, M, g, h0, h1, h2⟩ := h.ex
  by_cases e : ∃ p ∈ a, p.1 = n ∧ Q7.look a n = p.2
  · obtain ⟨p, hp, _, e⟩ := e
    rw [e]
    exact (g.nd p hp).B h0 (up_pow h1 (by decide)) (up_pow h2 (by decide))
  · have : ∀ b : Rw, (∀ p ∈ b, p.1 = n → False) ∨ ∃ p ∈ b, p.1 = n ∧ Q7.look b n = p.2 := by
      intro b
      induction b with
      | nil => exact .inl fun p hp => by cases hp
      | cons x r ih =>
        obtain ⟨t, q⟩ := x
        by_cases et : t = n
        · refine .inr ⟨(t, q), List.mem_cons_self, et, ?_⟩
          unfold Q7.look
          rw [if_pos et]
        · rcases ih with ih | ⟨p, hp, e1, e2⟩
          · exact .inl fun p hp e => by
              rcases List.mem_cons.mp hp with rfl | hp
              · exact et e
              · exact ih p hp e
          · refine .inr ⟨p, List.mem_cons_of_mem _ hp, e1, ?_⟩
            unfold Q7.look
            rw [if_neg et]
            exact e2
    rcases this a with z | z
    · rw [look_mem fun p hp q => z p hp q]
      exact (ND.zero D).B h0 (up_pow h1 (by decide)) (by decide)
    · exact absurd z e
theorem GS.zeros {a : Rw} (h : GS a) : Gq (zeros a) := by
  obtain ⟨D, M, g, h0, h1, h2⟩ := h.ex
  refine ⟨D, M, 10 ^ 58, ⟨?_, ?_, ?_, ?_⟩, h0, up_pow h1 (by decide), up_pow h2 (by decide)⟩
  · intro p hp
    obtain ⟨q, hq, rfl⟩ := List.mem_map.mp hp
    exact g.nd q hq
  · intro p hp
    rw [zeros_tick a p hp]
    exact Int.le_refl 0
  · intro p hp
    rw [zeros_tick a p hp]
    exact Int.natCast_nonneg _
  · rw [List.length_map]
    have := g.len
    omega
/-! ### texts of two fractions -/
theorem smI_fr {q : Rat} (b : B 500 q) : SmI 2 1 (fr q) := by
  have h1 : ShI q.num := up_pow b.1 (by decide)
  have h2 : ShI (q.den : Int) := by
    unfold ShI
    rw [Int.natAbs_natCast]
    exact up_pow b.2 (by decide)
  have m := sm_tup (smA_cons (sm_int h1) (smA_cons (sm_int h2) smA_nil))
  have z : (fr q).bulk = 2 := by simp only [fr, PyData.bulk, PyData.bulkAll]
  exact ⟨m.sh, m.lf, by rw [z]; exact Nat.le_refl _, m.dp, m.nd⟩
abbrev twoF (q : Rat) : PyData := .list [fr q, fr q]
theorem two_ok {q : Rat} (b : B 500 q) : (twoF q).showable = true ∧ (twoF q).depth ≤ 40 ∧ (twoF q).shown.length + 64 ≤ sizeLine ∧ (twoF q).hasDict = false := by
  have m := sm_lst (smA_cons (smI_fr b) (smA_cons (smI_fr b) smA_nil))
  exact ⟨m.sh, Nat.le_trans m.dp (by decide), m.len (by decide), m.nd⟩
end Q7
set_option maxRecDepth 100000
set_option maxHeartbeats 4000000
namespace Q7
open PySem PySem.Spec PyProof.Rows L2
/-! ### an instance == a value of a known kind -/
theorem notFirst_kind {K : PySem.W.Frag} {C : Addr} : ∀ {t : String}, t ∈ kinds → PySem.W.notFirst K C (.type t) = true := by
  intro t ht
  unfold kinds at ht
  simp only [List.mem_cons, List.not_mem_nil, or_false] at ht
  rcases ht with rfl | rfl | rfl | rfl | rfl | rfl | rfl <;> rfl
def rOwnY (K : PySem.W.Frag) (C : Addr) (sp : Sp) (E : XK) : R2 := fun x y H Q => ∃ a dx fs t, x = .ref a ∧ H a = some (.ins C dx fs) ∧ Ki K H y t ∧ sp [x, y] H Q E
section
variable {X : Cx} {CX : CXT} {n : Nat} {g C : Addr} {fd : FuncData} {ps : List Str} {sp : Sp} {E : XK}
theorem op_ownEqY (hs : PySem.W.findIn X.K (.ref C) "__eq__" = some (some (.ref g))) (hf : PySem.W.isFn X.K (.ref g) = true)
    (F : FnOk X.prog X.w X.K X.mg X.base CX n g fd ps sp) (hr : Room n X.A) (hb : Binds X.K fd ps []) (hx : Passes CX X E) : OpR X (compareOp .Eq) (rOwnY X.K C sp E) := by
  intro pins s σ H x y v u Q I rx ry h
  obtain ⟨a, dx, fs, t, rfl, ha, ⟨ty, ht⟩, q⟩ := h
  cases rx
  obtain ⟨ox, od, J⟩ := look2 I ha
  obtain ⟨P, Z, p, _⟩ := kit_of I ry ty
  obtain ⟨m, hF⟩ := I.fr
  unfold compareOp
  refine PySem.W.cmp_K (op := .Eq) (tb := .type t) hr.units0 hF I.ok.mod.kin J (Z.ty _ _ I.kIn p) (notFirst_kind ht) hs hf ?_
  refine wpAny_mono (run_fn (us := [.ref a, u]) (vs := [.ref a, y]) F hr hb .nil hx I (.cons rfl (.cons ry .nil)) q) (fun w s' z => ?_) fun _ _ z => z
  obtain ⟨z', H', I', rz, qz⟩ := z
  exact SlX.cmpback rz ⟨z', H', I', rz, qz⟩
end
/-! ### what pairs with a list that is put in another order -/
theorem perm_pair {α β : Type} {R : α → β → Prop} {ys xs : List α} (p : ys.Perm xs) : ∀ {a : List β}, Paired R xs a → ∃ b, b.Perm a ∧ Paired R ys b := by
  induction p with
  | nil => intro a h; exact ⟨a, .refl _, h⟩
  | cons x _ ih =>
    intro a h
    cases h with
    | cons r1 r2 =>
      obtain ⟨b, pb, hb⟩ := ih r2
      exact ⟨_, pb.cons _, .cons r1 hb⟩
  | swap x y l =>
    intro a h
    cases h with
    | cons r1 h =>
      cases h with
      | cons r2 h => exact ⟨_, List.Perm.swap _ _ _, .cons r2 (.cons r1 h)⟩
  | trans _ _ ih1 ih2 =>
    intro a h
    obtain ⟨b, pb, hb⟩ := ih2 h
    obtain ⟨c, pc, hc⟩ := ih1 hb
    exact ⟨c, pc.trans pb, hc⟩
theorem norm_perm {a b : Rw} (p : b.Perm a) : norm b = norm a := norm_eq fun f => wt_perm f p
def half (q : Rat) : Rat := Rat.divInt q.num ((q.den : Int) * 2)
theorem half_two (q : Rat) : half q + half q = q := by
  have d := q.den_pos
  have d1 : (q.den : Int) * 2 ≠ 0 := by omega
  have d2 : (q.den : Int) ≠ 0 := by omega
  unfold half
  rw [Rat.divInt_add_divInt _ _ d1 d1]
  conv => rhs; rw [← Rat.num_divInt_den q]
  rw [Rat.divInt_eq_divInt_iff (Int.mul_ne_zero d1 d1) d2]
  generalize (q.den : Int) = e
  generalize q.num = n
  grind
def halves (a : Rw) : Rw := a.map fun p => (p.1, half p.2)
/-- halves, twice -/
theorem norm_split (a : Rw) : norm (halves a ++ halves a) = norm a := norm_eq fun f => by
  rw [wt_append]
  unfold halves
  induction a with
  | nil => exact Rat.zero_add 0
  | cons p r ih =>
    simp only [List.map_cons, wt]
    rw [← ih]
    conv => rhs; rw [← half_two p.2]
    rw [Rat.add_mul]
    generalize half p.2 * f p.1 = u
    generalize wt f (r.map fun p => (p.1, half p.2)) = v
    grind
theorem nd_half {D M : Nat} {q : Rat} (h : ND D M q) : ND (D * 2) M (half q) := by
  have d := q.den_pos
  have e : half q = q * Rat.divInt 1 (2 : Nat) := by
    unfold Q7.half
    conv => rhs; rw [← Rat.num_divInt_den q]
    rw [Rat.divInt_mul_divInt, Int.mul_one]
    rfl
  rw [e]
  have := h.mul (⟨1, rfl, by decide⟩ : ND 2 1 (Rat.divInt 1 (2 : Nat)))
  rwa [Nat.mul_one] at this
end Q7
set_option maxRecDepth 100000
set_option maxHeartbeats 4000000
namespace Q7
open PySem PySem.Spec PyProof.Rows L2
/-! ### sorted(d) of a dict of ints, many of them -/
theorem call_sortedDIb {X : Cx} (hcalm : X.calm = true) : CallR X (.builtin "sorted") (fun xs H Q => ∃ (a : Addr) (kvs : List (Key × V)) (ks : List Int), xs = [.ref a] ∧ Rd H a (.dK kvs) ∧ kvs.map (·.1) = ks.map Sum.inl ∧ ks.length ≤ 2 ^ 20 ∧
    ∀ (ys : List Int) (p : Addr), ys.Perm ks → ys.Pairwise (· ≤ ·) → H p = none → Q (.ref p) (upd H p (.lst (ys.map V.int)))) := by
  intro pins s σ H xs us Q I r q
  obtain ⟨a, kvs, ks, ex, hd, hks, h64, q⟩ := q
  subst ex
  obtain ⟨u, eu, rx⟩ := vals1 r
  subst eu
  cases rx
  obtain ⟨z, lo, vs, rel, dd⟩ := dk_rd I.hok hd
  obtain ⟨ep, hat⟩ := dd.dictAt
  have hkeys : vs.map (·.1) = ks.map Sum.inl := rel.keys.symm.trans hks
  have hl : vs.length = ks.length := by
    have e := congrArg List.length hkeys
    rw [List.length_map, List.length_map] at e
    exact e
  have h16 : vs.length ≤ sizeLine := by rw [hl]; exact Nat.le_trans h64 (by decide)
  refine Calls.call_function_entry PyProof.Rows.kind_sorted PyProof.Rows.plain_sorted PyProof.Rows.entry_sorted (PyProof.Rows.args_sorted1 _) ?_
  unfold Builtin.«sorted»
  refine wpAny_bind (m := checkCount "sorted" 1 1 _) (wpAny_pure ?_)
  refine wpAny_bind (PySem.W.kdu_collect (A := X.A.in1) (PySem.W.kdl_dict (knd := mixKind X.prog X.w) (kvs := vs) (ep := ep) lo) (I.ok.hd hcalm) hat h16 fun h' tk acc hk hacc => ?_)
  have hal : acc.toList.length = ks.length := by rw [Array.length_toList, hacc.1, hl]
  have hS : IntsAre acc.toList ks := ints_each hal fun j v e => by
    obtain ⟨k, x, e1, e2⟩ := hacc.2 j v (by rw [← Array.getElem?_toList]; exact e)
    have e3 : (vs.map (·.1))[j]? = some k := by rw [List.getElem?_map, e1]; rfl
    rw [hkeys, List.getElem?_map] at e3
    cases e4 : ks[j]? with
    | none => rw [e4] at e3; cases e3
    | some y =>
      rw [e4] at e3
      have e5 : Sum.inl y = k := Option.some.inj e3
      subst e5
      rcases keyIs_shape (show keyIs (Sum.inl y) v = true from e2) with ⟨i, t, ek, ev⟩ | ⟨z, t, ek, ev⟩
      · cases ek
        exact ⟨y, t, rfl, ev⟩
      · cases ek
  have I1 : Inv X pins σ H { s with heap := h', toks := tk } := I.kept hk
  have hz2 : acc.toList.length ≤ sizeLine := by rw [hal]; exact Nat.le_trans h64 (by decide)
  refine wpAny_bind (wpAny_newList ?_ hz2)
  have hoL : (h'.push (seqObj "list" acc.toList.toArray 0)).get? h'.objs.size = some (seqObj "list" acc.toList.toArray 0) := Heap.get?_push_size _ rfl
  show wpAny _ _ _ _ _ { s with heap := h'.push (seqObj "list" acc.toList.toArray 0), toks := tk }
  refine wpAny_bind (wpAny_holding (wpAny_call_entry PyProof.Rows.slot_list_sort ⟨_, hoL, rfl⟩ PyProof.Rows.entry_list_sort
    (SrtO.list_sort_ord (s := { s with heap := h'.push (seqObj "list" acc.toList.toArray 0), toks := tk }) SrtO.swo_int hoL hz2 (fun h2 => SrtO.ints_sortable hS h2) fun out g1 g2 => ⟨_, rfl, ?_⟩) (PyProof.Rows.args_list_sort _)))
  obtain ⟨k1, k2, k3⟩ := SrtO.ints_out hS g1 g2
  obtain ⟨e', he'⟩ := PyProof.Rows.sortedHeap_at (vs := acc.toList) (out := out.toArray) hoL
  have hlen : ((out.map SrtO.iv).map V.int).length ≤ sizeLine := by
    rw [List.length_map, k2.length_eq]
    exact Nat.le_trans h64 (by decide)
  refine wpAny_pure ⟨_, rfl, .ref h'.objs.size, upd H h'.objs.size (.lst ((out.map SrtO.iv).map V.int)), I1.laid (t' := tk) (fun b u e => ?_) (Nat.le_refl _)
    (show ObjOk X.prog X.w _ _ _ (.lst ((out.map SrtO.iv).map V.int)) from ⟨hlen, out, e', vals_of_ints k1, he'⟩), rfl, q _ _ k2 k3 (I1.hok.fresh (Nat.le_refl _))⟩
  have hb : b < h'.objs.size := Heap.lt_size e
  rw [PyProof.Rows.sortedHeap_old (Nat.ne_of_lt hb) (by rw [size_push']; exact Nat.lt_succ_of_lt hb)]
  exact Heap.get?_push_of_some _ e
/-! ### rows of many pairs -/
def Gw (ps : Rw) : Prop := ∃ D M T, Gd D M T 2100 ps ∧ 0 < D ∧ D < 2 ^ 2900 ∧ M < 2 ^ 2900
theorem Gw.of {D M T L : Nat} {ps : Rw} (h : Gd D M T L ps) (hD : 0 < D) (h1 : D < 2 ^ 2900) (h2 : M < 2 ^ 2900) (h3 : L ≤ 2100) : Gw ps := ⟨D, M, T, h.mono (Nat.le_refl _) (Nat.le_refl _) h3, hD, h1, h2⟩
theorem lt_4096 {M n : Nat} (h : M < 2 ^ 2900) (hn : n ≤ 4096) : n * M < 2 ^ 3000 := by
  have h1 : n * M ≤ 2 ^ 12 * M := Nat.mul_le_mul (by omega) (Nat.le_refl _)
  have h2 : 2 ^ 12 * M < 2 ^ 12 * 2 ^ 2900 := Nat.mul_lt_mul_of_pos_left h (by omega)
  rw [← Nat.pow_add] at h2
  have h3 := pow_le' (show 12 + 2900 ≤ 3000 by omega)
  omega
theorem Gw.mem {ps : Rw} (h : Gw ps) : ∀ p ∈ ps, B 3000 p.2 := fun p hp => by
  obtain ⟨D, M, T, g, hD, h1, h2⟩ := h
  exact (g.nd p hp).B hD (lt_1000 h1) (Nat.lt_of_lt_of_le h2 (pow_le' (by omega)))
theorem Gw.lo {ps : Rw} (h : Gw ps) : ∀ p ∈ ps, 0 ≤ p.1 := fun p hp => by
  obtain ⟨D, M, T, g, _⟩ := h
  exact g.lo p hp
theorem Gw.len {ps : Rw} (h : Gw ps) : ps.length ≤ 2100 := by
  obtain ⟨D, M, T, g, _⟩ := h
  exact g.len
theorem Gw.sub {a b : Rw} (h : Gw b) (s : a.Sublist b) : Gw a := by
  obtain ⟨D, M, T, g, r⟩ := h
  exact ⟨D, M, T, g.sub s, r⟩
theorem Gw.look {ps : Rw} (h : Gw ps) (i : Nat) (t : Int) : B 3000 (look (sums (ps.take i)) t) := by
  obtain ⟨D, M, T, g, hD, h1, h2⟩ := h
  rw [look_sums]
  refine (ND.wt hD t (ps := ps.take i) (M := M) fun p hp => g.nd p (List.mem_of_mem_take hp)).B hD (lt_1000 h1) (lt_4096 h2 ?_)
  rw [List.length_take]
  have := g.len
  omega
theorem Gw.look' {ps : Rw} (h : Gw ps) (t : Int) : B 3000 (Q7.look (sums ps) t) := by
  have := h.look ps.length t
  rwa [List.take_length] at this
theorem Gw.psum {ps : Rw} (h : Gw ps) (i : Nat) : B 3000 ((ps.map (·.2)).take i).sum := by
  obtain ⟨D, M, T, g, hD, h1, h2⟩ := h
  refine (ND.sum hD (qs := (ps.map (·.2)).take i) (M := M) fun q hq => ?_).B hD (lt_1000 h1) (lt_4096 h2 ?_)
  · obtain ⟨p, hp, rfl⟩ := List.mem_map.mp (List.mem_of_mem_take hq)
    exact g.nd p hp
  · rw [List.length_take, List.length_map]
    have := g.len
    omega
theorem Gw.none : Gw [] := Gw.of (D := 1) (M := 0) (T := 0) (L := 0) ⟨by simp, by simp, by simp, by simp⟩ (by decide) (Nat.one_lt_two_pow (by decide)) (Nat.two_pow_pos _) (by decide)
theorem line22 : 2200 < sizeLine := by decide
end Q7
set_option maxRecDepth 100000
set_option maxHeartbeats 4000000
namespace Q7
open PySem PySem.Spec PyProof.Rows L2
/-! ### methods, makings, operators whose error is wished for where the slots stand -/
section
variable {X : Cx} {CX : CXT} {n : Nat} {g C : Addr} {fd : FuncData} {ps ks : List Str} {sp : Sp} {dv : List V} {dw : List Value} {W : L2.St → XK} {nm m : Str} {p pos apos : Pos} {a o : Expr} {as : List Expr} {ta : TE} {t tk : TA} {kws : List Keyword}
def tMethAt (C : Addr) (m : Str) (sp : Sp) (dv : List V) (W : L2.St → XK) (ta : TE) (t : TA) : TE := fun σ H Q => ta σ H fun x H1 => ∃ y dy fs, x = .ref y ∧ H1 y = some (.ins C dy fs) ∧ fs.lookup m = none ∧
  t σ H1 fun vs H2 => sp (x :: (vs ++ dv)) H2 Q (W σ)
theorem pe_methAt {pl : Sem Bool} (ho : PE X o ta) (c : Cls X.K C) (hm : Meth X.K C m g) (F : FnOk X.prog X.w X.K X.mg X.base CX n g fd ps sp) (room : Room n X.A) (bnd : Binds X.K fd ps dw) (hd : Vals dv dw) (pass : ∀ σ, PassesAt CX X σ (W σ)) (args : PA X (a :: as) t)
    (stars : starEach (a :: as) X.env = (false, eval a X.env) :: starEach as X.env := by rfl) (plain : (backTo pos (starEach as X.env)).any (·.1) = false := by rfl)
    (text : eval (.Call (.Attribute o m apos) (a :: as) [] pos) X.env = (do
      let ov ← eval o X.env
      standAt apos.atName
      let (f, first) ← holding [ov] (getMethod ov m pl)
      callWith pos f first (backTo pos (starEach (a :: as) X.env)) (backToKw pos (keywordEach [] X.env))) := by rfl) :
    PE X (.Call (.Attribute o m apos) (a :: as) [] pos) (tMethAt C m sp dv W ta t) := by
  constructor
  intro pins s σ H Q I h
  refine PySem.W.methodCall_KW (pl := pl) (thn (ho.run pins s σ H _ I h) fun u s1 z => ?_) text
  obtain ⟨x, H1, I1, rx, y, dy, fs, rfl, hy, l, q⟩ := z
  obtain rfl : u = Value.ref y := rx
  refine getmeth_ok I1 hy c hm l (PySem.W.callWith_K (first := [.ref y]) (h₀ := X.base) I.ok.mod.kin hm.kp (thn (args.run pos pins s1 σ H1 _ I1 q) fun us s2 z => ?_) stars plain)
  obtain ⟨vs, H2, I2, r, q2⟩ := z
  exact ⟨I2.kIn, run_fnSD (us := .ref y :: us) (vs := .ref y :: vs) F room bnd hd (pass σ) I2 (.cons rfl r) q2⟩
/-- a new instance whose __init__ may raise -/
theorem made_at {pins : List (Addr × Obj)} {σ : L2.St} {H : Hp} {s : Shared} {Q : VK} {us ws zs : List Value} {vs : List V} (M : Mk X.K C g) (F : FnOk X.prog X.w X.K X.mg X.base CX n g fd ps sp) (room : Room (n + 1) X.A) (pass : PassesAt CX X σ (W σ))
    (I : Inv X pins σ H s) (y dy : Addr) (ey : y = s.heap.objs.size + 1) (ed : dy = s.heap.objs.size) (r : Vals (.ref y :: vs) (.ref y :: zs))
    (bnd : ∀ s' : Shared, X.K.In s'.heap → BindsTo s' fd ⟨.ref y :: us, ks.zip ws⟩ (ps.zip (.ref y :: zs)))
    (prom : sp (.ref y :: vs) (upd (upd H dy (.own y)) y (.ins C dy [])) (fun v H2 => v = .non ∧ Q (.ref y) H2) (W σ)) :
    wpAny (model X.prog X.w) X.A (call (.ref C) us (ks.zip ws)) (EP X pins σ Q) X.xe s := by
  subst ey ed
  have J := Inv.made (C := C) I
  refine wpAny_call (make_map (f := g) I.kIn M.makes M.init (beq_iff_eq.mp M.fn) (codeAny_mono (F.run _ X.stack _ _ ⟨.ref (s.heap.objs.size + 1) :: us, ks.zip ws⟩ _ _ _ (W σ) (room.make C us (ks.zip ws))
    (J.env0.make C us (ks.zip ws)) (bnd _ J.kIn) r prom) fun res s' hq => ?_))
  match res, hq with
  | .error er, q => exact pass pins _ _ er s' J q
  | .ok .next, q => exact False.elim q
  | .ok .brk, q => exact False.elim q
  | .ok .cont, q => exact False.elim q
  | .ok (.ret _), q =>
    obtain ⟨v, H', I3, rv, ev, q3⟩ := J.after q
    subst ev
    exact ⟨rv, .ref (s.heap.objs.size + 1), H', I3, rfl, q3⟩
def tMakeAt (C : Addr) (sp : Sp) (dv : List V) (W : L2.St → XK) (t : TA) : TE := fun σ H Q => t σ H fun vs H1 => ∀ y dy, H1 y = none → H1 dy = none → dy ≠ y →
  sp (.ref y :: (vs ++ dv)) (upd (upd H1 dy (.own y)) y (.ins C dy [])) (fun v H2 => v = .non ∧ Q (.ref y) H2) (W σ)
theorem pe_makeAt (M : Mk X.K C g) (F : FnOk X.prog X.w X.K X.mg X.base CX n g fd ps sp) (room : Room (n + 1) X.A) (gl : Gl X nm) (here : X.mg nm = some (.ref C)) (bnd : Binds X.K fd ps dw) (hd : Vals dv dw) (pass : ∀ σ, PassesAt CX X σ (W σ))
    (args : PA X (a :: as) t) (nd : (nm == ("__debug__" : Str)) = false := by decide) (stars : starEach (a :: as) X.env = (false, eval a X.env) :: starEach as X.env := by rfl) (plain : (backTo pos (starEach as X.env)).any (·.1) = false := by rfl) :
    PE X (.Call (.Name nm p) (a :: as) [] pos) (tMakeAt C sp dv W t) := by
  constructor
  intro pins s σ H Q I h
  refine wpAny_Call_Name_kw (ld_glob I gl here (PySem.W.callWith_K (h₀ := X.base) I.ok.mod.kin M.kp (thn (args.run pos pins s σ H _ I h) fun us s1 z => ?_) stars plain) nd)
  obtain ⟨vs, H1, I1, r, q⟩ := z
  have q1 := q (s1.heap.objs.size + 1) s1.heap.objs.size (I1.hok.fresh (Nat.le_succ _)) (I1.hok.fresh (Nat.le_refl _)) (Nat.ne_of_lt (Nat.lt_succ_self _))
  have r2 : Vals (V.ref (s1.heap.objs.size + 1) :: (vs ++ dv)) (Value.ref (s1.heap.objs.size + 1) :: (us ++ dw)) := .cons rfl (r.append hd)
  have hl := r2.length
  rw [F.len _ _ _ _ q1] at hl
  exact ⟨I1.kIn, made_at (ks := []) (ws := []) M F room (pass σ) I1 _ _ rfl rfl r2 (fun s' k => bnd s' (.ref (s1.heap.objs.size + 1) :: us) k hl.symm) q1⟩
def tMakeKAt (C : Addr) (m : Nat) (sp : Sp) (gV : List V → List V → List V) (W : L2.St → XK) (tk : TA) : TE := fun σ H Q => tk σ H fun zs H1 => zs.length = m ∧ ∀ y dy, H1 y = none → H1 dy = none → dy ≠ y →
  ∃ vs, gV [.ref y] zs = .ref y :: vs ∧ sp (.ref y :: vs) (upd (upd H1 dy (.own y)) y (.ins C dy [])) (fun v H2 => v = .non ∧ Q (.ref y) H2) (W σ)
theorem pe_makeKAt {gg : List Value → List Value → List Value} {gV : List V → List V → List V} (M : Mk X.K C g) (F : FnOk X.prog X.w X.K X.mg X.base CX n g fd ps sp) (room : Room (n + 1) X.A) (gl : Gl X nm) (here : X.mg nm = some (.ref C)) (bnd : KBn X.K fd ps 1 ks gg gV) (pass : ∀ σ, PassesAt CX X σ (W σ))
    (args : PK X kws tk) (named : (backToKw pos (keywordEach kws X.env)).all (·.1.isSome) = true := by rfl) (names : (backToKw pos (keywordEach kws X.env)).filterMap (·.1) = ks := by rfl) (nd : (nm == ("__debug__" : Str)) = false := by decide)
    (plain : ((backTo pos (starEach [] X.env)).any (·.1) || (backToKw pos (keywordEach kws X.env)).any (·.1.isNone)) = false := by rfl) :
    PE X (.Call (.Name nm p) [] kws pos) (tMakeKAt C ks.length sp gV W tk) := by
  constructor
  intro pins s σ H Q I h
  refine wpAny_Call_Name_kw (ld_glob I gl here (PySem.W.callWith_KW0 (h₀ := X.base) I.ok.mod.kin M.kp named (thn (args.run pos pins s σ H _ I h) fun ws s1 z => ?_) plain) nd)
  obtain ⟨zs, H1, I1, rz, l1, q⟩ := z
  refine ⟨I1.kIn, ?_⟩
  rw [names]
  obtain ⟨vs, ev, q1⟩ := q (s1.heap.objs.size + 1) s1.heap.objs.size (I1.hok.fresh (Nat.le_succ _)) (I1.hok.fresh (Nat.le_refl _)) (Nat.ne_of_lt (Nat.lt_succ_self _))
  have r0 : Vals [V.ref (s1.heap.objs.size + 1)] [Value.ref (s1.heap.objs.size + 1)] := .cons rfl .nil
  have r2 := bnd.rel r0 rz
  rw [ev] at r2
  have l2 : ws.length = ks.length := rz.length.symm.trans l1
  have key : ∃ us, gg [Value.ref (s1.heap.objs.size + 1)] ws = Value.ref (s1.heap.objs.size + 1) :: us := by
    generalize gg [Value.ref (s1.heap.objs.size + 1)] ws = all at r2
    cases r2 with
    | cons r3 r4 => cases r3; exact ⟨_, rfl⟩
  obtain ⟨us, eu⟩ := key
  rw [eu] at r2
  exact made_at (us := []) M F room (pass σ) I1 _ _ rfl rfl r2 (fun s' k => by
    have := bnd.to s' [.ref (s1.heap.objs.size + 1)] ws k rfl l2
    rwa [eu] at this) q1
/-! ### x op y by the own method of x's class, y of a known kind -/
/-- what the built-in types' tables say of an operator, beside the class at x -/
def tBin (op : Operator) (x : Str) : Tst := fun K => (match PySem.W.findIn K (.ref (He.ga K x)) (dunderR op.info.2) with
    | some none => true
    | _ => false) && kinds.all fun t => (PySem.W.findIn K (.type t) (PySem.dunder op.info.2)).isSome && ((PySem.W.findIn K (.type t) (dunderR op.info.2)).isSome && decide (PySem.W.subIn K (.type t) (.ref (He.ga K x)) = some false))
structure BinT (K : PySem.W.Frag) (op : Operator) (C : Addr) : Prop where
  no : PySem.W.findIn K (.ref C) (dunderR op.info.2) = some none
  all : ∀ t ∈ kinds, ∃ fo ro, PySem.W.findIn K (.type t) (PySem.dunder op.info.2) = some fo ∧ PySem.W.findIn K (.type t) (dunderR op.info.2) = some ro ∧ PySem.W.subIn K (.type t) (.ref C) = some false
theorem tBin_ok {op : Operator} {x : Str} {K : PySem.W.Frag} (c : tBin op x K = true) : BinT K op (He.ga K x) := by
  obtain ⟨h1, h2⟩ := He.ba c
  refine ⟨?_, fun t ht => ?_⟩
  · split at h1
    · assumption
    · cases h1
  · have h3 := List.all_eq_true.mp h2 t ht
    obtain ⟨h4, h5⟩ := He.ba h3
    obtain ⟨h6, h7⟩ := He.ba h5
    obtain ⟨fo, e1⟩ := Option.isSome_iff_exists.mp h4
    obtain ⟨ro, e2⟩ := Option.isSome_iff_exists.mp h6
    exact ⟨fo, ro, e1, e2, of_decide_eq_true h7⟩
theorem bin_kind {prog : Program} {w : World} {A : Around} {Ex : Value → Shared → Prop} {K : PySem.W.Frag} {y C f L : Addr} {h₀ : Heap} {mm : Str → Option Value} {oy : Obj} {od : Option Obj} {op : Operator} {b : Value} {T : String} {fo ro : Option Value} {P : Value → Shared → Prop} {s : Shared}
    (F : PyProof.Rows.Fr h₀ L s.heap mm) (K0 : K.In h₀) (J : PySem.W.InstAt s.heap y oy C od) (ty : PySem.W.Looks (model prog w) s.heap (typeOf b) (.type T)) (first : PySem.W.selfFirst K C = true)
    (own : PySem.W.findIn K (.ref C) (PySem.dunder op.info.2) = some (some (.ref f))) (isf : PySem.W.isFn K (.ref f) = true) (noR : PySem.W.findIn K (.ref C) (dunderR op.info.2) = some none)
    (e1 : PySem.W.findIn K (.type T) (PySem.dunder op.info.2) = some fo) (e2 : PySem.W.findIn K (.type T) (dunderR op.info.2) = some ro) (sub : PySem.W.subIn K (.type T) (.ref C) = some false)
    (goes : wpAny (model prog w) A (call (.ref f) [.ref y, b]) (PySem.W.CmpBack P) Ex s) : wpAny (model prog w) A (binaryOp op (.ref y) b) P Ex s := by
  have KX := K0.keeps F.keep
  obtain ⟨cd, rest, hcd, hmro⟩ := PySem.W.ksp_first first
  rcases hop : op.info with ⟨sy, nm'⟩
  rw [hop] at own noR e1 e2
  simp only at own noR e1 e2
  have its := PySem.W.ksp_try KX J own isf goes
  obtain ⟨hp, gs, dn, tt, os⟩ := s
  have A1 : PySem.W.Looks (model prog w) hp (typeOf (.ref y)) (.ref C) := J.type
  have A2 : PySem.W.Looks (model prog w) hp (fillsNumberSlot (.ref C) nm') true := PySem.W.fills_K KX hcd hmro own
  have A3 : PySem.W.Looks (model prog w) hp (fillsNumberSlot (.type T) nm') ((fo.isSome && !isSeqSlot fo) || (ro.isSome && !isSeqSlot ro)) := PySem.W.ksp_fillsT KX e1 e2
  have A4 : PySem.W.Looks (model prog w) hp (isSubtype (.type T) (.ref C)) false := PySem.W.looks_subIn KX sub
  have A5 : PySem.W.Looks (model prog w) hp (numberSlotInPython (.ref C) nm') true := PySem.W.ksp_inPy KX own noR (.inl rfl)
  have A6 : PySem.W.Looks (model prog w) hp (numberSlotInPython (.type T) nm') false := PySem.W.Looks.of_pure rfl
  have A7 : PySem.W.Looks (model prog w) hp (typeLookup (.type T) (dunderR nm')) ro := PySem.W.looks_findIn KX e2
  generalize ((fo.isSome && !isSeqSlot fo) || (ro.isSome && !isSeqSlot ro)) = right at A3
  have two : (Value.ref C == Value.type T) = false := Bool.eq_false_iff.mpr fun q => nomatch beq_iff_eq.mp q
  simp only [binaryOp, hop]
  refine wpAny_holding (wpAny_bind ?_)
  unfold binaryOp1
  refine wpAny_bind (A1.at (wpAny_bind (ty.at (wpAny_bind (A2.at ?_)))))
  simp only [two, Bool.false_eq_true, if_false]
  cases right <;> (ksp_lk; refine wpAny_mono its (fun r s' z => ?_) fun _ _ e => e; obtain ⟨v, rfl, z⟩ := z; ksp_lk; exact z)
/-- x op y, x an instance of the class at C, y of a kind: what C's method for op keeps -/
def tOpAt (K : PySem.W.Frag) (C : Addr) (sp : Sp) (W : L2.St → XK) (ta tb : TE) : TE := fun σ H Q => ta σ H fun x H1 => tb σ H1 fun y H2 => ∃ b dx fs, x = .ref b ∧ H2 b = some (.ins C dx fs) ∧
  ((∃ t, Ki K H2 y t) ∨ ∃ c dy gs, y = .ref c ∧ H2 c = some (.ins C dy gs)) ∧ sp [x, y] H2 Q (W σ)
theorem pe_opAt {op : Operator} {b : Expr} {tb : TE} (first : PySem.W.selfFirst X.K C = true) (BT : BinT X.K op C) (own : PySem.W.findIn X.K (.ref C) (PySem.dunder op.info.2) = some (some (.ref g))) (isf : PySem.W.isFn X.K (.ref g) = true)
    (F : FnOk X.prog X.w X.K X.mg X.base CX n g fd ps sp) (room : Room n X.A) (bnd : Binds X.K fd ps []) (pass : ∀ σ, PassesAt CX X σ (W σ)) (ha : PE X a ta) (hb : PE X b tb) : PE X (.BinOp a op b pos) (tOpAt X.K C sp W ta tb) := by
  constructor
  intro pins s σ H Q I h
  refine wpAny_BinOp (binT ha hb I h fun v u s2 x y H2 I2 rx ry q => ?_)
  obtain ⟨c, dx, fs, rfl, hc, hy, q⟩ := q
  cases rx
  obtain ⟨ox, od, J⟩ := look2 I2 hc
  obtain ⟨mm, hF⟩ := I2.fr
  have goes : wpAny (model X.prog X.w) X.A (call (.ref g) [.ref c, u]) (PySem.W.CmpBack (EP X pins σ Q)) X.xe s2 := by
    refine wpAny_mono (run_fnSD (us := [.ref c, u]) (vs := [.ref c, y]) F room bnd .nil (pass σ) I2 (.cons rfl (.cons ry .nil)) q) (fun w s' z => ?_) fun _ _ z => z
    obtain ⟨z', H', I', rz, qz⟩ := z
    exact SlX.cmpback rz ⟨z', H', I', rz, qz⟩
  rcases hy with ⟨t, ty, ht⟩ | ⟨d, dy, gs, rfl, hd⟩
  · obtain ⟨P, Z, p, _⟩ := kit_of I2 ry ty
    obtain ⟨fo, ro, e1, e2, sub⟩ := BT.all t ht
    exact bin_kind hF I2.ok.mod.kin J (Z.ty _ _ I2.kIn p) first own isf BT.no e1 e2 sub goes
  · cases ry
    obtain ⟨oy, od', J'⟩ := look2 I2 hd
    exact PySem.W.binop_K hF I2.ok.mod.kin J J'.type first own isf goes
end
/-! ### {(True, False): "x", ..}.get(t, "y") -/
section
abbrev lk (P : Program) (w : World) : HeapKind P w (List Leaf) := tupleKind (leafKind P w)
def leafB (b : Bool) : Leaf := .num (if b = true then 1 else 0)
theorem leafB_inj {a b : Bool} (h : leafB a = leafB b) : a = b := by cases a <;> cases b <;> first | rfl | (simp [leafB] at h)
theorem keyB_inj : ∀ {a b : List Bool}, a.map leafB = b.map leafB → a = b
  | [], [], _ => rfl
  | [], _ :: _, h => by simp at h
  | _ :: _, [], h => by simp at h
  | x :: a, y :: b, h => by
    simp only [List.map_cons, List.cons.injEq] at h
    rw [leafB_inj h.1, keyB_inj h.2]
theorem itemsB {P : Program} {w : World} : ∀ {bs : List Bool} {us : List Value}, Vals (bs.map V.bl) us → ItemsAre (leafKind P w) (bs.map leafB) us
  | [], _, .nil => .nil
  | b :: bs, _, .cons r1 r2 => by
    cases r1
    refine .cons ?_ (itemsB r2)
    cases b <;> rfl
/-- a dict whose keys are tuples of truth values, its values texts: its own object -/
def DTb (P : Program) (w : World) (d : Addr) (xs : List (List Bool × Addr × Str)) : HO := .ext fun h => ∃ o es ep ys, h.get? d = some o ∧ o.ExactDict ∧ o.data = .dict es ep ∧ es.toList = ys.map (entryOfKey (lk P w)) ∧
  Paired (fun (x : List Bool × Addr × Str) (y : List Leaf × Addr × Value) => y.1 = x.1.map leafB ∧ y.2.1 = x.2.1 ∧ RelV (.str x.2.2) y.2.2) xs ys
variable {X : Cx} {pins : List (Addr × Obj)} {σ : L2.St} {H : Hp} {s : Shared}
theorem key_tracked {t : Addr} {bs : List Bool} (I : Inv X pins σ H s) (ht : H t = some (.tup (bs.map V.bl))) : (lk X.prog X.w).is s.heap (bs.map leafB) t := by
  obtain ⟨its, r, ⟨o, e1, e2, n, e3⟩, _⟩ := I.tuple (.inl (.inl ht))
  exact ⟨o, _, n, e1, e2, e3, by simpa using itemsB r⟩
theorem at_none {xs : List (List Leaf × Addr × Value)} {k : List Leaf} (h : k ∉ xs.map (·.1)) : atKey xs k = none := by
  unfold atKey
  rw [Option.map_eq_none_iff, List.find?_eq_none]
  intro x hx e
  exact h (List.mem_map.mpr ⟨x, hx, of_decide_eq_true e⟩)
theorem stored_new : ∀ (ps acc : List (List Leaf × Addr × Value)), ((acc ++ ps).map (·.1)).Nodup → storedAllH acc ps = acc ++ ps
  | [], acc, _ => by unfold storedAllH; simp
  | p :: ps, acc, h => by
    have h1 : p.1 ∉ acc.map (·.1) := fun q => by
      rw [List.map_append, List.nodup_append] at h
      exact h.2.2 _ q _ (by simp) rfl
    show storedAllH (storedH acc p.1 p.2.1 p.2.2) ps = _
    rw [storedH_new (at_none h1), stored_new ps _ (by simpa using h)]
    simp
theorem carriesB {P : Program} {w : World} {h : Heap} : ∀ {xs : List (List Bool × Addr × Str)} {ws : List (Value × Value)}, VV (xs.map fun x => (V.ref x.2.1, V.str x.2.2)) ws → (∀ x ∈ xs, (lk P w).is h (x.1.map leafB) x.2.1) →
    ∃ ys, CarriesH (lk P w) h ws ys ∧ Paired (fun (x : List Bool × Addr × Str) (y : List Leaf × Addr × Value) => y.1 = x.1.map leafB ∧ y.2.1 = x.2.1 ∧ RelV (.str x.2.2) y.2.2) xs ys
  | [], _, .nil, _ => ⟨[], trivial, .nil⟩
  | x :: xs, _, .cons (b := q) r1 r2, k => by
    obtain ⟨ys, c, p⟩ := carriesB r2 fun z hz => k z (List.mem_cons_of_mem _ hz)
    obtain ⟨u, v⟩ := q
    obtain ⟨ru, rv⟩ := r1
    exact ⟨(x.1.map leafB, x.2.1, v) :: ys, ⟨ru, rfl, k x List.mem_cons_self, c⟩, .cons ⟨rfl, rfl, rv⟩ p⟩
theorem keysB : ∀ {xs : List (List Bool × Addr × Str)} {ys : List (List Leaf × Addr × Value)}, Paired (fun (x : List Bool × Addr × Str) (y : List Leaf × Addr × Value) => y.1 = x.1.map leafB ∧ y.2.1 = x.2.1 ∧ RelV (.str x.2.2) y.2.2) xs ys →
    (xs.map (·.1)).Nodup → (ys.map (·.1)).Nodup
  | _, _, .nil, _ => List.nodup_nil
  | _, _, .cons (a := x) (b := y) (l₁ := xs) (l₂ := ys) r1 r2, h => by
    rw [List.map_cons, List.nodup_cons] at h ⊢
    refine ⟨fun q => h.1 ?_, keysB r2 h.2⟩
    obtain ⟨z, hz, e⟩ := List.mem_map.mp q
    obtain ⟨x', hx', e2⟩ : ∃ x' ∈ xs, z.1 = x'.1.map leafB := by
      clear h q
      induction r2 with
      | nil => simp at hz
      | cons a b ih =>
        rcases List.mem_cons.mp hz with rfl | hz
        · exact ⟨_, List.mem_cons_self, a.1⟩
        · obtain ⟨w, hw, e⟩ := ih hz
          exact ⟨w, List.mem_cons_of_mem _ hw, e⟩
    rw [r1.1, e2] at e
    exact List.mem_map.mpr ⟨x', hx', keyB_inj e⟩
def tDispB (P : Program) (w : World) (trs : List (TE × TE)) : TE := fun σ H Q => ∀ d, H d = none → tPairs trs σ (upd H d (.dK [])) fun ps H2 => H2 d = some (.dK []) ∧ ∃ xs : List (List Bool × Addr × Str), ps = xs.map (fun x => (V.ref x.2.1, V.str x.2.2)) ∧
  (∀ x ∈ xs, H2 x.2.1 = some (.tup (x.1.map V.bl))) ∧ (xs.map (·.1)).Nodup ∧ xs.length ≤ 15 ∧ (d ≠ sysModules → Q (.ref d) (upd H2 d (DTb P w d xs)))
theorem pe_dispB {pos : Pos} {keys : List (Option Expr)} {values : List Expr} {trs : List (TE × TE)} (h : PPs X pos keys values trs) (hu : X.A.units < cLine) (all : keys.all (·.isSome) = true := by rfl) (len : keys.length = values.length := by rfl) (ne : keys ≠ [] := by exact fun z => nomatch z)
    (few : keys.length ≤ 15 := by decide) : PE X (.Dict keys values pos) (tDispB X.prog X.w trs) := by
  constructor
  intro pins s σ H Q I q
  have fresh := I.hok.fresh (Nat.le_refl s.heap.objs.size)
  have I1 := I.laid (a := s.heap.objs.size) (o := .dK []) (h' := s.heap.push { cls := .type "dict", data := .dict #[] }) (t' := s.toks) (fun _ _ z => Heap.get?_push_of_some _ z) (Nat.le_refl _) (dk_empty s.heap I.big)
  have hn := pairTrees_length keys values X.env pos all len
  have n0 : pairTrees keys values X.env pos ≠ [] := fun z => by
    rw [z] at hn
    exact ne (List.length_eq_zero_iff.mp hn.symm)
  rw [arm_eval_Dict, zip_pairTrees keys values X.env pos all len, dictDisplay_pairs _ n0 (by rw [hn]; omega)]
  refine wpAny_bind (wpAny_standAt (wpAny_bind (wpAny_subDictH (knd := lk X.prog X.w) (Q := fun d s' => wpAny (model X.prog X.w) X.A (pure (Value.ref d)) (EP X pins σ Q) X.xe s') hu (by rw [hn]; exact few) (thn (h.run pins _ σ _ _ I1 (q _ fresh)) fun ws s2 z => ?_))))
  obtain ⟨ps, H2, I2, rel, e, xs, ep, tr, nd, l15, q2⟩ := z
  subst ep
  obtain ⟨ys, cr, pr⟩ := carriesB (P := X.prog) (w := X.w) (h := s2.heap) rel fun x hx => key_tracked I2 (tr x hx)
  obtain ⟨_, nsys, vs0, r0, o, es, en, h1, h2, h3, _, h4, _⟩ := dk_of I2.hok e
  cases r0
  refine ⟨ys, cr, ?_, fun h' tk dd sb => wpAny_pure ⟨.ref s.heap.objs.size, upd H2 s.heap.objs.size (DTb X.prog X.w s.heap.objs.size xs), ?_, rfl, q2 (by simpa using nsys)⟩⟩
  · refine ⟨o, es, en, h1, h2, h3, ?_, by simp, by simp⟩
    cases z4 : es.toList with
    | nil => rfl
    | cons a b => rw [z4] at h4; cases h4
  · rw [stored_new ys [] (by simpa using keysB pr nd), List.nil_append] at dd
    obtain ⟨o', es', en', g1, g2, g3, g4, _, _⟩ := dd
    exact d_write I2 (by rw [e]; exact True.intro) sb ⟨_, g1⟩ ⟨⟨o', es', en', ys, g1, g2, g3, g4, pr⟩, ⟨_, g1⟩, fun ha hb ⟨o2, es2, en2, ys2, k1, k2⟩ k => ⟨o2, es2, en2, ys2, k _ k1, k2⟩⟩
def getB (xs : List (List Bool × Addr × Str)) (bs : List Bool) (st : Str) : Str := ((xs.find? fun x => decide (x.1 = bs)).map (·.2.2)).getD st
theorem at_pairB {bs : List Bool} {st : Str} {u : Value} (ru : RelV (.str st) u) : ∀ {xs : List (List Bool × Addr × Str)} {ys : List (List Leaf × Addr × Value)}, Paired (fun (x : List Bool × Addr × Str) (y : List Leaf × Addr × Value) => y.1 = x.1.map leafB ∧ y.2.1 = x.2.1 ∧ RelV (.str x.2.2) y.2.2) xs ys →
    RelV (.str (getB xs bs st)) (((atKey ys (bs.map leafB)).map (·.2)).getD u)
  | _, _, .nil => ru
  | _, _, .cons (a := x) (b := y) (l₁ := xs) (l₂ := ys) r1 r2 => by
    have ih := at_pairB (bs := bs) ru r2
    unfold getB atKey at *
    by_cases e : x.1 = bs
    · rw [List.find?_cons_of_pos (by simpa using e), List.find?_cons_of_pos (by simp [r1.1, e])]
      exact r1.2.2
    · rw [List.find?_cons_of_neg (by simpa using e), List.find?_cons_of_neg (by
        simp only [r1.1, decide_eq_true_eq]
        exact fun z => e (keyB_inj z))]
      exact ih
def tGetB (P : Program) (w : World) (to te tf : TE) : TE := fun σ H Q => to σ H fun x H1 => ∃ d xs, x = .ref d ∧ d ≠ sysModules ∧ H1 d = some (DTb P w d xs) ∧ te σ H1 fun y H2 => tf σ H2 fun z H3 => H3 d = some (DTb P w d xs) ∧
  (∀ x ∈ xs, H3 x.2.1 = some (.tup (x.1.map V.bl))) ∧ (xs.map (·.1)).Nodup ∧ ∃ t bs st, y = .ref t ∧ z = .str st ∧ H3 t = some (.tup (bs.map V.bl)) ∧ Q (.str (getB xs bs st)) H3
theorem dtb_at {d : Addr} {xs : List (List Bool × Addr × Str)} (I : Inv X pins σ H s) (hd : H d = some (DTb X.prog X.w d xs)) : ∃ o es ep ys, s.heap.get? d = some o ∧ o.ExactDict ∧ o.data = .dict es ep ∧ es.toList = ys.map (entryOfKey (lk X.prog X.w)) ∧
    Paired (fun (x : List Bool × Addr × Str) (y : List Leaf × Addr × Value) => y.1 = x.1.map leafB ∧ y.2.1 = x.2.1 ∧ RelV (.str x.2.2) y.2.2) xs ys := by
  obtain ⟨z, _⟩ := I.hok d _ hd
  exact z
theorem all_tracked (I : Inv X pins σ H s) : ∀ {xs : List (List Bool × Addr × Str)} {ys : List (List Leaf × Addr × Value)}, Paired (fun (x : List Bool × Addr × Str) (y : List Leaf × Addr × Value) => y.1 = x.1.map leafB ∧ y.2.1 = x.2.1 ∧ RelV (.str x.2.2) y.2.2) xs ys →
    (∀ x ∈ xs, H x.2.1 = some (.tup (x.1.map V.bl))) → ∀ y ∈ ys, (lk X.prog X.w).is s.heap y.1 y.2.1
  | _, _, .nil, _, y, hy => by simp at hy
  | _, _, .cons a b, tr, y, hy => by
    rcases List.mem_cons.mp hy with rfl | hy
    · rw [a.1, a.2.1]
      exact key_tracked I (tr _ List.mem_cons_self)
    · exact all_tracked I b (fun x hx => tr x (List.mem_cons_of_mem _ hx)) y hy
theorem pe_getB {o e f : Expr} {to te tf : TE} {apos cpos : Pos} (hu : X.A.units + 1 < cLine) (ho : PE X o to) (he : PE X e te) (hf : PE X f tf) (m : M2 X o "get" apos e f cpos) : PE X (.Call (.Attribute o "get" apos) [e, f] [] cpos) (tGetB X.prog X.w to te tf) := by
  constructor
  intro pins s σ H Q I h
  refine wpAny_Call_method m.base m.few m.line PySem.F.plainAttrs_dict PySem.F.slot_dict_get PySem.F.type_dict_get (thn (ho.run pins s σ H _ I h) fun u s1 z => ?_)
  obtain ⟨x, H1, I1, rx, d, xs, rfl, dn, hd, q1⟩ := z
  obtain rfl : u = Value.ref d := rx
  obtain ⟨o1, es1, ep1, ys1, k1, k2, k3, k4, k5⟩ := dtb_at I1 hd
  refine ⟨⟨o1, k1, k2.1⟩, fun b q => ?_, ?_⟩
  · cases q
    exact ⟨o1, k1, k2.2.1⟩
  rw [m.trees]
  refine wpAny_dict_get2_heap (knd := lk X.prog X.w) (show X.A.units + 1 < cLine from hu) (by simpa using dn) (thn (he.run pins s1 σ H1 _ I1 q1) fun ku s2 z => ?_)
  obtain ⟨y, H2, I2, ry, q2⟩ := z
  refine thn (hf.run pins s2 σ H2 _ I2 q2) fun fu s3 z => ?_
  obtain ⟨z', H3, I3, rz, hd3, tr, nd, t, bs, st, rfl, rfl, ht, q3⟩ := z
  cases ry
  obtain ⟨o3, es3, ep3, ys3, j1, j2, j3, j4, j5⟩ := dtb_at I3 hd3
  have is := all_tracked I3 j5 tr
  exact ⟨t, bs.map leafB, ys3, rfl, key_tracked I3 ht, ⟨o3, es3, ep3, j1, j2, j3, j4, is, keysB j5 nd⟩, .str (getB xs bs st), H3, I3.tok _, at_pairB rz j5, q3⟩
end
end Q7
set_option maxRecDepth 100000
set_option maxHeartbeats 4000000
namespace Q7
open PySem PySem.Spec PyProof.Rows L2
/-! ### a head's facts with the modules' dict among them -/
def hookY (n : Nat) (fa : List He.Fa) (fn : List He.DefD) (ex : List Tst) : PySem.W.Hook where
  α := He.AlD × Bool
  obs := fun s => (He.obsD fa fn (He.frG s.heap.get? (sysModules :: He.asD s.heap.get? n)), ex.all fun f => f (He.frG s.heap.get? (sysModules :: He.asD s.heap.get? n)))
  val := fun _ => (He.valD fn, true)
  says := fun _ h => ∃ K : PySem.W.Frag, K.In h ∧ He.SaysD fa fn K ∧ (ex.all fun f => f K) = true
  of := fun _ _ e => ⟨_, He.frG_in, congrArg (fun z : He.AlD × Bool => z.1) e, congrArg (fun z : He.AlD × Bool => z.2) e⟩
  keeps := fun _ _ _ ⟨K, hK, c⟩ k => ⟨K, PySem.W.Frag.In.keeps hK k, c⟩
def obY (n : Nat) (fa : List He.Fa) (fn : List He.DefD) (ex : List Tst) (g : Addr → Option Obj) : He.AlD × Bool := (He.obsD fa fn (He.frG g (sysModules :: He.asD g n)), ex.all fun f => f (He.frG g (sysModules :: He.asD g n)))
theorem obY_eq {n : Nat} {fa : List He.Fa} {fn : List He.DefD} {ex : List Tst} {g : Addr → Option Obj} {s : Shared} (h : ∀ a, g a = s.heap.get? a) : obY n fa fn ex g = (hookY n fa fn ex).obs s := by
  have e : g = s.heap.get? := funext h
  rw [e] <;> rfl
/-- the modules' dict stands in the written part -/
def SysD (K : PySem.W.Frag) : Prop := ∃ o, K.lookup sysModules = some o ∧ o.cls = .type "dict"
def tSys : Tst := fun K => match K.lookup sysModules with
  | some ⟨.type c, _, _, _⟩ => decide (c = "dict")
  | _ => false
theorem tSys_ok {K : PySem.W.Frag} (c : tSys K = true) : SysD K := by
  unfold tSys at c
  split at c
  · rename_i e
    exact ⟨_, e, by rw [of_decide_eq_true c]⟩
  · cases c
/-! ### data with dicts in them -/
def kD : Key → PyData
  | .inl i => .int i
  | .inr x => .str x
section
variable (K : PySem.W.Frag) (H : Hp)
mutual
inductive DpW : V → PyData → Prop
  | non : DpW .non .none
  | bl (b : Bool) : DpW (.bl b) (.bool b)
  | int (i : Int) : DpW (.int i) (.int i)
  | str (x : Str) : DpW (.str x) (.str x)
  | lst {a : Addr} {xs : List V} {ds : List PyData} : SqL K H a xs → DpWs xs ds → DpW (.ref a) (.list ds)
  | tup {a : Addr} {xs : List V} {ds : List PyData} : SqT K H a xs → DpWs xs ds → DpW (.ref a) (.tuple ds)
  | dct {a : Addr} {kvs : List (Key × V)} {es : List (PyData × PyData)} : H a = some (.dK kvs) → DpWk kvs es → DpW (.ref a) (.dict es)
inductive DpWs : List V → List PyData → Prop
  | nil : DpWs [] []
  | cons {v : V} {vs : List V} {d : PyData} {ds : List PyData} : DpW v d → DpWs vs ds → DpWs (v :: vs) (d :: ds)
inductive DpWk : List (Key × V) → List (PyData × PyData) → Prop
  | nil : DpWk [] []
  | cons {k : Key} {v : V} {kvs : List (Key × V)} {d : PyData} {es : List (PyData × PyData)} : DpW v d → DpWk kvs es → DpWk ((k, v) :: kvs) ((kD k, d) :: es)
end
end
section
variable {K : PySem.W.Frag} {H H' : Hp}
mutual
theorem dpW_same (s : Same H H') : ∀ {v : V} {d : PyData}, DpW K H v d → DpW K H' v d
  | _, _, .non => .non
  | _, _, .bl b => .bl b
  | _, _, .int i => .int i
  | _, _, .str x => .str x
  | _, _, .lst a b => .lst (sqL_same s a) (dpWs_same s b)
  | _, _, .tup a b => .tup (sqT_same s a) (dpWs_same s b)
  | _, _, .dct a b => .dct (s _ _ a) (dpWk_same s b)
theorem dpWs_same (s : Same H H') : ∀ {vs : List V} {ds : List PyData}, DpWs K H vs ds → DpWs K H' vs ds
  | _, _, .nil => .nil
  | _, _, .cons a b => .cons (dpW_same s a) (dpWs_same s b)
theorem dpWk_same (s : Same H H') : ∀ {vs : List (Key × V)} {ds : List (PyData × PyData)}, DpWk K H vs ds → DpWk K H' vs ds
  | _, _, .nil => .nil
  | _, _, .cons a b => .cons (dpW_same s a) (dpWk_same s b)
end
theorem dpWs_app : ∀ {vs us : List V} {ds es : List PyData}, DpWs K H vs ds → DpWs K H us es → DpWs K H (vs ++ us) (ds ++ es)
  | _, _, _, _, .nil, h => h
  | _, _, _, _, .cons a b, h => .cons a (dpWs_app b h)
mutual
theorem dp_dpW : ∀ {v : V} {d : PyData}, Dp K H v d → DpW K H v d
  | _, _, .non => .non
  | _, _, .bl b => .bl b
  | _, _, .int i => .int i
  | _, _, .str x => .str x
  | _, _, .lst a b => .lst a (dpAll_dpW b)
  | _, _, .tup a b => .tup a (dpAll_dpW b)
theorem dpAll_dpW : ∀ {vs : List V} {ds : List PyData}, DpAll K H vs ds → DpWs K H vs ds
  | _, _, .nil => .nil
  | _, _, .cons a b => .cons (dp_dpW a) (dpAll_dpW b)
end
theorem dpW_fr {v : V} {q : Rat} (h : FrV K H v q) : DpW K H v (fr q) := dp_dpW (frV_dp h)
theorem dpW_pr {v : V} {t : Int × Rat} (h : PrV K H v t) : DpW K H v (pr t) := dp_dpW (prV_dp h)
theorem dpWs_prs : ∀ {xs : List V} {ps : Rw}, PrsV K H xs ps → DpWs K H xs (ps.map pr)
  | _, _, .nil => .nil
  | _, _, .cons h r => .cons (dpW_pr h) (dpWs_prs r)
end
theorem sys_none {X : Cx} {pins : List (Addr × Obj)} {σ : L2.St} {H : Hp} {s : Shared} (I : Inv X pins σ H s) (y : SysD X.K) : H sysModules = none := by
  obtain ⟨o, e, _⟩ := y
  exact (I.bs _ _ (I.ok.mod.kin _ _ e)).2
theorem lst_sys {X : Cx} {pins : List (Addr × Obj)} {σ : L2.St} {H : Hp} {s : Shared} (I : Inv X pins σ H s) (y : SysD X.K) {a : Addr} {xs : List V} (h : SqL X.K H a xs) : a ≠ sysModules := by
  intro e
  subst e
  have n := sys_none I y
  rcases h with (h | ⟨o, h⟩) | ⟨o, us, m, h, hc, _⟩
  · rw [n] at h; cases h
  · rw [n] at h; cases h
  · obtain ⟨u, e1, e2⟩ := y
    rw [e1] at h
    cases h
    rw [e2] at hc
    exact absurd hc (by decide)
theorem sqL_obj {X : Cx} {pins : List (Addr × Obj)} {σ : L2.St} {H : Hp} {s : Shared} {a : Addr} {xs : List V} (I : Inv X pins σ H s) (h : SqL X.K H a xs) : ∃ o us n, s.heap.get? a = some o ∧ o.cls = .type "list" ∧ o.data = .seq us n ∧ Vals xs us.toList := by
  obtain ⟨its, r, ⟨⟨oc, od, dt, sl⟩, n, e1, e2, e3, e4⟩, _⟩ := I.list h
  simp only at e2 e3 e4
  subst e2 e4
  exact ⟨_, _, n, e1, rfl, rfl, by simpa using r⟩
section
variable {X : Cx} {pins : List (Addr × Obj)} {σ : L2.St} {H : Hp} {s : Shared}
theorem kv_keys {h : Heap} : ∀ {kvs : List (Key × V)} {vs : List (Key × Value)} {es : List DictEntry}, KV kvs vs → Pairs (mixKind X.prog X.w) es vs → ReadsAll h (es.map (·.key)) (kvs.map fun p => kD p.1) [] ∧ Vals (kvs.map (·.2)) (es.map (·.val))
  | [], _, _, r, p => by
    cases r
    cases p
    exact ⟨.nil, .nil⟩
  | q :: kvs, _, _, r, p => by
    cases r with
    | cons r1 r2 =>
      cases p with
      | cons p1 p2 p3 =>
        obtain ⟨i1, i2⟩ := kv_keys (h := h) r2 p3
        have p1 : keyIs _ _ = true := p1
        rw [← r1.1] at p1
        refine ⟨?_, ?_⟩
        · simp only [List.map_cons]
          rcases keyIs_shape p1 with ⟨i, t, a1, a2⟩ | ⟨x, t, a1, a2⟩
          · rw [a1, a2]
            exact .cons (.int _ _) i1
          · rw [a1, a2]
            exact .cons (.str _ _) i1
        · simp only [List.map_cons]
          rw [p2]
          exact .cons r1.2 i2
mutual
theorem dpW_reads (I : Inv X pins σ H s) (y : SysD X.K) : ∀ {v : V} {d : PyData} {u : Value}, DpW X.K H v d → RelV v u → ∃ as, Reads s.heap u d as ∧ sysModules ∉ as
  | _, _, _, .non, r => by cases r; exact ⟨[], .none, List.not_mem_nil⟩
  | _, _, _, .bl b, r => by cases r; exact ⟨[], .bool b, List.not_mem_nil⟩
  | _, _, _, .int i, r => by obtain ⟨t, rfl⟩ := r; exact ⟨[], .int i t, List.not_mem_nil⟩
  | _, _, _, .str x, r => by obtain ⟨t, rfl⟩ := r; exact ⟨[], .str x t, List.not_mem_nil⟩
  | _, _, _, .lst (a := a) h ds, r => by
    cases r
    obtain ⟨o, us, n, g, c, d, rv⟩ := sqL_obj I h
    obtain ⟨as, q, hn⟩ := dpWs_reads I y ds rv
    refine ⟨a :: as, .list g c d q, fun z => ?_⟩
    rcases List.mem_cons.mp z with z | z
    · exact lst_sys I y h z.symm
    · exact hn z
  | _, _, _, .tup h ds, r => by
    cases r
    obtain ⟨o, us, n, g, c, d, rv⟩ := sqT_obj I h
    obtain ⟨as, q, hn⟩ := dpWs_reads I y ds rv
    exact ⟨as, .tuple g c d q, hn⟩
  | _, _, _, .dct (a := a) (kvs := kvs) h ks, r => by
    cases r
    obtain ⟨_, nsys, vs, kv, o, es, ep, h1, h2, h3, _, prs, _⟩ := (show ObjOk X.prog X.w H s.heap a (.dK kvs) from I.hok a _ h)
    obtain ⟨k1, k2⟩ := kv_keys (X := X) (h := s.heap) kv prs
    obtain ⟨as, q, hn, ek⟩ := dpWk_reads I y ks k2
    refine ⟨_, Reads.dict h1 h2.1 h3 (by rw [← ek]; exact k1) q, fun m => ?_⟩
    simp only [List.append_nil, List.cons_append, List.nil_append, List.mem_cons] at m
    rcases m with m | m
    · rw [← m] at nsys
      simp at nsys
    · exact hn m
theorem dpWs_reads (I : Inv X pins σ H s) (y : SysD X.K) : ∀ {vs : List V} {ds : List PyData} {us : List Value}, DpWs X.K H vs ds → Vals vs us → ∃ as, ReadsAll s.heap us ds as ∧ sysModules ∉ as
  | _, _, _, .nil, r => by cases r; exact ⟨[], .nil, List.not_mem_nil⟩
  | _, _, _, .cons a b, r => by
    cases r with
    | cons r1 r2 =>
      obtain ⟨as, q1, n1⟩ := dpW_reads I y a r1
      obtain ⟨bs, q2, n2⟩ := dpWs_reads I y b r2
      exact ⟨_, .cons q1 q2, fun z => (List.mem_append.mp z).elim n1 n2⟩
theorem dpWk_reads (I : Inv X pins σ H s) (y : SysD X.K) : ∀ {kvs : List (Key × V)} {es : List (PyData × PyData)} {us : List Value}, DpWk X.K H kvs es → Vals (kvs.map (·.2)) us → ∃ as, ReadsAll s.heap us (es.map (·.2)) as ∧ sysModules ∉ as ∧ (kvs.map fun p => kD p.1) = es.map (·.1)
  | _, _, _, .nil, r => by cases r; exact ⟨[], .nil, List.not_mem_nil, rfl⟩
  | _, _, _, .cons a b, r => by
    rw [List.map_cons] at r
    cases r with
    | cons r1 r2 =>
      obtain ⟨as, q1, n1⟩ := dpW_reads I y a r1
      obtain ⟨bs, q2, n2, e⟩ := dpWk_reads I y b r2
      exact ⟨_, .cons q1 q2, fun z => (List.mem_append.mp z).elim n1 n2, by simp only [List.map_cons, e]⟩
end
end
/-- small enough to be shown -/
structure Shw (d : PyData) : Prop where
  sh : d.showable = true
  dp : d.depth ≤ 40
  ln : d.shown.length + 64 ≤ sizeLine
def rReprW (K : PySem.W.Frag) : List V → Hp → VK → Prop := fun as H Q => ∃ v d, as = [v] ∧ DpW K H v d ∧ Shw d ∧ Q (.str d.shown) H
theorem call_reprW {X : Cx} (y : SysD X.K) (g : X.A.guards = some []) (hu : X.A.units + 70 < cLine) : CallR X (.builtin "repr") (rReprW X.K) := by
  intro pins s σ H as us Q I r h
  obtain ⟨v, d, rfl, dp, ⟨sh, dep, sz⟩, q⟩ := h
  obtain ⟨u, rfl, rel⟩ := vals1 r
  obtain ⟨bs, rd, hsm⟩ := dpW_reads I y dp rel
  cases rd with
  | none => exact PySem.P.repr_of_none ⟨.str _, H, I.tok _, ⟨_, rfl⟩, q⟩
  | bool b => exact PySem.P.repr_of_bool ⟨.str _, H, I.tok _, ⟨_, rfl⟩, q⟩
  | int i t => exact PySem.P.repr_of_int (of_decide_eq_true sh) ⟨.str _, H, I.tok _, ⟨_, rfl⟩, q⟩
  | str x t => exact PySem.P.repr_of_str ⟨.str _, H, I.tok _, ⟨_, rfl⟩, q⟩ (by have : (reprText x).length + 64 ≤ sizeLine := sz; omega)
  | list a1 a2 a3 a4 => exact repr_of_reads' (.list a1 a2 a3 a4) sh (fun _ => hsm) g (by omega) (fun _ _ z => z) (fun h' u tk kp => ⟨.str _, H, I.kept (t' := tk) kp, ⟨_, rfl⟩, q⟩) (by omega)
  | tuple a1 a2 a3 a4 => exact repr_of_reads' (.tuple a1 a2 a3 a4) sh (fun _ => hsm) g (by omega) (fun _ _ z => z) (fun h' u tk kp => ⟨.str _, H, I.kept (t' := tk) kp, ⟨_, rfl⟩, q⟩) (by omega)
  | dict a1 a2 a3 a4 a5 => exact repr_of_reads' (.dict a1 a2 a3 a4 a5) sh (fun _ => hsm) g (by omega) (fun _ _ z => z) (fun h' u tk kp => ⟨.str _, H, I.kept (t' := tk) kp, ⟨_, rfl⟩, q⟩) (by omega)
/-! ### how large data is -/
structure Sz8 (n m : Nat) (d : PyData) : Prop where
  sh : d.showable = true
  lf : d.leavesShort 1921 = true
  bk : d.bulk ≤ n
  dp : d.depth ≤ m
structure Sz8s (n m : Nat) (ds : List PyData) : Prop where
  sh : PyData.showableAll ds = true
  lf : PyData.leavesShortAll 1921 ds = true
  bk : PyData.bulkAll ds ≤ n
  dp : PyData.depthAll ds ≤ m
structure Sz8k (n m : Nat) (es : List (PyData × PyData)) : Prop where
  sh : PyData.showableKv es = true
  lf : PyData.leavesShortKv 1921 es = true
  bk : PyData.bulkKv es ≤ n
  dp : PyData.depthKv es ≤ m
theorem Sz8.mono {n m n' m' : Nat} {d : PyData} (h : Sz8 n m d) (hn : n ≤ n' := by decide) (hm : m ≤ m' := by decide) : Sz8 n' m' d := ⟨h.sh, h.lf, Nat.le_trans h.bk hn, Nat.le_trans h.dp hm⟩
theorem Sz8s.mono {n m n' m' : Nat} {d : List PyData} (h : Sz8s n m d) (hn : n ≤ n' := by decide) (hm : m ≤ m' := by decide) : Sz8s n' m' d := ⟨h.sh, h.lf, Nat.le_trans h.bk hn, Nat.le_trans h.dp hm⟩
theorem Sz8.shw {n m : Nat} {d : PyData} (h : Sz8 n m d) (hn : n ≤ 8000 := by decide) (hm : m ≤ 40 := by decide) : Shw d := by
  refine ⟨h.sh, Nat.le_trans h.dp hm, ?_⟩
  have h1 := PyData.shown_le_bulk 1921 (by decide) d h.lf
  have h3 : (1921 + 2) * 8000 + 1921 + 64 ≤ sizeLine := by decide
  have h4 : (1921 + 2) * d.bulk ≤ (1921 + 2) * 8000 := Nat.mul_le_mul (Nat.le_refl _) (Nat.le_trans h.bk hn)
  omega
theorem SmI.z {n m : Nat} {d : PyData} (h : SmI n m d) : Sz8 n m d := ⟨h.sh, h.lf, h.bk, h.dp⟩
theorem sz_nil : Sz8s 0 0 [] := ⟨by simp [PyData.showableAll], by simp [PyData.leavesShortAll], by simp [PyData.bulkAll], by simp [PyData.depthAll]⟩
theorem sz_cons {n m k l : Nat} {d : PyData} {ds : List PyData} (h : Sz8 n m d) (hs : Sz8s k l ds) : Sz8s (n + k + 1) (max m l) (d :: ds) := by
  refine ⟨?_, ?_, ?_, ?_⟩
  · simp only [PyData.showableAll, h.sh, hs.sh, Bool.and_self]
  · simp only [PyData.leavesShortAll, h.lf, hs.lf, Bool.and_self]
  · have := h.bk; have := hs.bk; simp only [PyData.bulkAll]; omega
  · have := h.dp; have := hs.dp; simp only [PyData.depthAll]; omega
theorem sz_app {n m k l : Nat} : ∀ {ds es : List PyData}, Sz8s n m ds → Sz8s k l es → Sz8s (n + k) (max m l) (ds ++ es)
  | [], es, _, h => h.mono (by omega) (by omega)
  | d :: ds, es, h1, h2 => by
    have a1 := h1.sh; have a2 := h1.lf; have a3 := h1.bk; have a4 := h1.dp
    simp only [PyData.showableAll, Bool.and_eq_true] at a1
    simp only [PyData.leavesShortAll, Bool.and_eq_true] at a2
    simp only [PyData.bulkAll] at a3
    simp only [PyData.depthAll] at a4
    have ih := sz_app (n := n - d.bulk - 1) (m := m) ⟨a1.2, a2.2, by omega, by omega⟩ h2
    have i3 := ih.bk; have i4 := ih.dp
    refine ⟨?_, ?_, ?_, ?_⟩
    · simp only [List.cons_append, PyData.showableAll, a1.1, ih.sh, Bool.and_self]
    · simp only [List.cons_append, PyData.leavesShortAll, a2.1, ih.lf, Bool.and_self]
    · simp only [List.cons_append, PyData.bulkAll]; omega
    · simp only [List.cons_append, PyData.depthAll]; omega
theorem sz_all {n m : Nat} : ∀ {ds : List PyData}, (∀ d ∈ ds, Sz8 n m d) → Sz8s ((n + 1) * ds.length) m ds
  | [], _ => sz_nil.mono (Nat.zero_le _) (Nat.zero_le _)
  | d :: ds, h => by
    have h1 := sz_cons (h d List.mem_cons_self) (sz_all (ds := ds) fun x hx => h x (List.mem_cons_of_mem _ hx))
    refine h1.mono ?_ (by omega)
    rw [List.length_cons, Nat.mul_add]
    omega
theorem sz_lst {n m : Nat} {ds : List PyData} (h : Sz8s n m ds) : Sz8 n (m + 1) (.list ds) := by
  refine ⟨?_, ?_, ?_, ?_⟩
  · simp only [PyData.showable]; exact h.sh
  · simp only [PyData.leavesShort]; exact h.lf
  · have := h.bk; simp only [PyData.bulk]; omega
  · have := h.dp; simp only [PyData.depth]; omega
theorem sz_tup {n m : Nat} {ds : List PyData} (h : Sz8s n m ds) : Sz8 n (m + 1) (.tuple ds) := by
  refine ⟨?_, ?_, ?_, ?_⟩
  · simp only [PyData.showable]; exact h.sh
  · simp only [PyData.leavesShort]; exact h.lf
  · have := h.bk; simp only [PyData.bulk]; omega
  · have := h.dp; simp only [PyData.depth]; omega
theorem szk_nil : Sz8k 0 0 [] := ⟨by simp [PyData.showableKv], by simp [PyData.leavesShortKv], by simp [PyData.bulkKv], by simp [PyData.depthKv]⟩
theorem szk_cons {a b n m k l : Nat} {d e : PyData} {es : List (PyData × PyData)} (h1 : Sz8 a b d) (h : Sz8 n m e) (hs : Sz8k k l es) : Sz8k (a + n + k + 2) (max b (max m l)) ((d, e) :: es) := by
  refine ⟨?_, ?_, ?_, ?_⟩
  · simp only [PyData.showableKv, h1.sh, h.sh, hs.sh, Bool.and_self]
  · simp only [PyData.leavesShortKv, h1.lf, h.lf, hs.lf, Bool.and_self]
  · have := h1.bk; have := h.bk; have := hs.bk; simp only [PyData.bulkKv]; omega
  · have := h1.dp; have := h.dp; have := hs.dp; simp only [PyData.depthKv]; omega
theorem szk_all {a b n m : Nat} : ∀ {es : List (PyData × PyData)}, (∀ p ∈ es, Sz8 a b p.1 ∧ Sz8 n m p.2) → Sz8k ((a + n + 2) * es.length) (max b m) es
  | [], _ => ⟨szk_nil.sh, szk_nil.lf, Nat.le_trans szk_nil.bk (Nat.zero_le _), Nat.le_trans szk_nil.dp (Nat.zero_le _)⟩
  | (d, e) :: es, h => by
    obtain ⟨h1, h2⟩ := h _ List.mem_cons_self
    have h3 := szk_cons h1 h2 (szk_all (es := es) fun x hx => h x (List.mem_cons_of_mem _ hx))
    refine ⟨h3.sh, h3.lf, Nat.le_trans h3.bk ?_, Nat.le_trans h3.dp (by omega)⟩
    rw [List.length_cons, Nat.mul_add]
    omega
theorem sz_dct {n m : Nat} {es : List (PyData × PyData)} (h : Sz8k n m es) : Sz8 n (m + 1) (.dict es) := by
  refine ⟨?_, ?_, ?_, ?_⟩
  · simp only [PyData.showable]; exact h.sh
  · simp only [PyData.leavesShort]; exact h.lf
  · have := h.bk; simp only [PyData.bulk]; omega
  · have := h.dp; simp only [PyData.depth]; omega
theorem sz_pr {p : Int × Rat} (h : ShP p) : Sz8 5 2 (pr p) := ⟨show_pr h, leaf_pr h, by simp [pr, fr, PyData.bulk, PyData.bulkAll], by simp [pr, fr, PyData.depth, PyData.depthAll]⟩
theorem sz_fr {q : Rat} (h1 : ShI q.num) (h2 : ShI q.den) : Sz8 4 1 (fr q) := by
  have h := sz_tup (sz_cons (sm_int h1).z (sz_cons (sm_int h2).z sz_nil))
  exact h.mono
def Stab (F : Hp → Prop) : Prop := ∀ A B, Same A B → F A → F B
def StabV (G : Hp → V → Prop) : Prop := ∀ A B v, Same A B → G A v → G B v
/-! ### what is drawn and made so far, of any sort: it stands in a part of the heap that the source is no part of -/
structure Wg (Fx : Hp → Prop) (Gd : Hp → V → Prop) (b : Addr) (H0 H1 H : Hp) (src : HO) (vs : List V) : Prop where
  sk : Same H1 H
  sb : ∀ y o, H0 y = some o → y ≠ b → H y = some o
  sr : H b = some src
  gh : ∃ G : Hp, Same G H ∧ G b = none ∧ Fx G ∧ ∀ v ∈ vs, Gd G v
/-- good of its kind, in such a part -/
def GdB (Gd : Hp → V → Prop) (b : Addr) (H : Hp) (v : V) : Prop := ∃ G : Hp, Same G H ∧ G b = none ∧ Gd G v
section
variable {Fx : Hp → Prop} {Gd : Hp → V → Prop} {b : Addr} {H0 H1 H H' : Hp} {src : HO} {vs : List V}
theorem Wg.same (W : Wg Fx Gd b H0 H1 H src vs) (s : Same H H') : Wg Fx Gd b H0 H1 H' src vs := by
  obtain ⟨G, sg, g0, f, a⟩ := W.gh
  exact ⟨W.sk.trans s, fun y o e n => s _ _ (W.sb y o e n), s _ _ W.sr, G, sg.trans s, g0, f, a⟩
theorem Wg.new {p : Addr} {o : HO} (W : Wg Fx Gd b H0 H1 H src vs) (hp : H p = none) : Wg Fx Gd b H0 H1 (upd H p o) src vs := W.same (same_new hp)
theorem Wg.put {p : Addr} {o : HO} (us : List V) (stF : Stab Fx) (st : StabV Gd) (W : Wg Fx Gd b H0 H1 H src vs) (hp : H p = none) (f : ∀ G : Hp, G p = none → Fx G → Fx (upd G p o) → ∀ v ∈ us, Gd (upd G p o) v) :
    Wg Fx Gd b H0 H1 (upd H p o) src (vs ++ us) := by
  obtain ⟨G, sg, g0, fx, a⟩ := W.gh
  have W2 := W.new (o := o) hp
  have gp : G p = none := by
    cases e : G p with
    | none => rfl
    | some u => rw [sg _ _ e] at hp; cases hp
  have pb : b ≠ p := fun e => by subst e; rw [W.sr] at hp; cases hp
  have s1 := same_new (o := o) gp
  refine ⟨W2.sk, W2.sb, W2.sr, upd G p o, fun y u e => ?_, by rw [upd_ne pb]; exact g0, stF _ _ s1 fx, fun u hu => ?_⟩
  · by_cases z : y = p
    · subst z
      rw [upd_same] at e ⊢
      exact e
    · rw [upd_ne z] at e ⊢
      exact sg _ _ e
  · rcases List.mem_append.mp hu with hu | hu
    · exact st _ _ _ s1 (a u hu)
    · exact f G gp fx (stF _ _ s1 fx) u hu
theorem Wg.aux {Fx' : Hp → Prop} {p : Addr} {o : HO} (stF : Stab Fx) (st : StabV Gd) (W : Wg Fx Gd b H0 H1 H src vs) (hp : H p = none) (f : ∀ G : Hp, Fx (upd G p o) → Fx' (upd G p o)) : Wg Fx' Gd b H0 H1 (upd H p o) src vs := by
  have W2 := W.put [] stF st hp (o := o) fun _ _ _ _ v hv => by cases hv
  obtain ⟨G, sg, g0, fx, a⟩ := W.gh
  have gp : G p = none := by
    cases e : G p with
    | none => rfl
    | some u => rw [sg _ _ e] at hp; cases hp
  have pb : b ≠ p := fun e => by subst e; rw [W.sr] at hp; cases hp
  refine ⟨W2.sk, W2.sb, W2.sr, upd G p o, fun y u e => ?_, by rw [upd_ne pb]; exact g0, f G (stF _ _ (same_new gp) fx), fun u hu => st _ _ _ (same_new gp) (a u hu)⟩
  by_cases z : y = p
  · subst z
    rw [upd_same] at e ⊢
    exact e
  · rw [upd_ne z] at e ⊢
    exact sg _ _ e
theorem Wg.one {p : Addr} {o : HO} {v : V} (stF : Stab Fx) (st : StabV Gd) (W : Wg Fx Gd b H0 H1 H src vs) (hp : H p = none) (f : ∀ G : Hp, Fx (upd G p o) → Gd (upd G p o) v) : Wg Fx Gd b H0 H1 (upd H p o) src (vs ++ [v]) :=
  W.put [v] stF st hp fun G _ _ fx u hu => by
    rw [List.mem_singleton] at hu
    subst hu
    exact f G fx
theorem upd_upd {H : Hp} {a : Addr} {o u : HO} : upd (upd H a o) a u = upd H a u := by
  funext y
  by_cases z : y = a
  · rw [z, upd_same, upd_same]
  · rw [upd_ne z, upd_ne z, upd_ne z]
theorem Wg.one2 {p : Addr} {o1 o : HO} {v : V} (stF : Stab Fx) (st : StabV Gd) (W : Wg Fx Gd b H0 H1 H src vs) (hp : H p = none) (f : ∀ G : Hp, Fx (upd G p o) → Gd (upd G p o) v) : Wg Fx Gd b H0 H1 (upd (upd H p o1) p o) src (vs ++ [v]) := by
  rw [upd_upd]
  exact W.one stF st hp f
theorem Wg.new2 {p : Addr} {o1 o : HO} (W : Wg Fx Gd b H0 H1 H src vs) (hp : H p = none) : Wg Fx Gd b H0 H1 (upd (upd H p o1) p o) src vs := by
  rw [upd_upd]
  exact W.new hp
theorem Wg.at (stF : Stab Fx) (W : Wg Fx Gd b H0 H1 H src vs) : Fx H := by
  obtain ⟨G, sg, _, fx, _⟩ := W.gh
  exact stF _ _ sg fx
theorem Wg.imp {Fx' : Hp → Prop} (W : Wg Fx Gd b H0 H1 H src vs) (f : ∀ G, Fx G → Fx' G) : Wg Fx' Gd b H0 H1 H src vs := by
  obtain ⟨G, sg, g0, fx, a⟩ := W.gh
  exact ⟨W.sk, W.sb, W.sr, G, sg, g0, f G fx, a⟩
theorem Wg.weak {us : List V} (W : Wg Fx Gd b H0 H1 H src vs) (h : ∀ u ∈ us, u ∈ vs) : Wg Fx Gd b H0 H1 H src us := by
  obtain ⟨G, sg, g0, fx, a⟩ := W.gh
  exact ⟨W.sk, W.sb, W.sr, G, sg, g0, fx, fun u hu => a u (h u hu)⟩
theorem Wg.add {v : V} (W : Wg Fx Gd b H0 H1 H src vs) (f : ∀ G : Hp, Fx G → Gd G v) : Wg Fx Gd b H0 H1 H src (vs ++ [v]) := by
  obtain ⟨G, sg, g0, fx, a⟩ := W.gh
  refine ⟨W.sk, W.sb, W.sr, G, sg, g0, fx, fun u hu => ?_⟩
  rcases List.mem_append.mp hu with hu | hu
  · exact a u hu
  · rw [List.mem_singleton] at hu
    subst hu
    exact f G fx
theorem Wg.mark (W : Wg Fx Gd b H0 H1 H src vs) : Wg Fx Gd b H0 H H src vs := ⟨Same.refl _, W.sb, W.sr, W.gh⟩
theorem Wg.drawn {o : HO} (W : Wg Fx Gd b H0 H1 H src vs) : ∀ v ∈ vs, GdB Gd b (upd H b o) v := by
  obtain ⟨G, sg, g0, fx, a⟩ := W.gh
  exact fun v hv => ⟨G, same_mut sg g0, g0, a v hv⟩
theorem Wg.draw {o : HO} (W : Wg Fx Gd b H0 H1 H src vs) : (∀ y u, H0 y = some u → y ≠ b → upd H b o y = some u) ∧ ∀ y u, H y = some u → y ≠ b → upd H b o y = some u :=
  ⟨fun y u e n => by rw [upd_ne n]; exact W.sb y u e n, fun y u e n => by rw [upd_ne n]; exact e⟩
theorem GdB.at (st : StabV Gd) {v : V} (h : GdB Gd b H v) : Gd H v := by
  obtain ⟨G, s, _, o⟩ := h
  exact st _ _ _ s o
theorem GdB.sb {v : V} (h : GdB Gd b H v) (s : ∀ y o, H y = some o → y ≠ b → H' y = some o) : GdB Gd b H' v := by
  obtain ⟨G, sg, g0, o⟩ := h
  exact ⟨G, fun y u e => s _ _ (sg _ _ e) (fun z => by subst z; rw [g0] at e; cases e), g0, o⟩
/-- all but the source's list -/
def butB (b : Addr) (H : Hp) : Hp := fun y => if y = b then none else H y
theorem butB_same : Same (butB b H) H := fun y o e => by
  unfold butB at e
  by_cases z : y = b
  · simp [z] at e
  · simpa [z] using e
theorem butB_at : butB b H b = none := by simp [butB]
theorem butB_tup {K : PySem.W.Frag} {ys xs : List V} {p : Addr} (hb : H b = some (.lst ys)) (S : SqT K H p xs) : SqT K (butB b H) p xs := by
  rcases S with (S | ⟨o, S⟩) | S
  · exact .inl (.inl (by unfold butB; rw [if_neg fun e => by subst e; rw [hb] at S; cases S]; exact S))
  · exact .inl (.inr ⟨o, by unfold butB; rw [if_neg fun e => by subst e; rw [hb] at S; cases S]; exact S⟩)
  · exact .inr S
theorem butB_fr {K : PySem.W.Frag} {ys : List V} {x : V} {q : Rat} (hb : H b = some (.lst ys)) (f : FrV K H x q) : FrV K (butB b H) x q := by
  obtain ⟨p, e, S⟩ := f
  exact ⟨p, e, butB_tup hb S⟩
theorem Wg.start {ys : List V} (hs : H b = some (.lst ys)) (fx : Fx (butB b H)) : Wg Fx Gd b H H H (.lst ys) [] := ⟨Same.refl _, fun y o e _ => e, hs, butB b H, butB_same, butB_at, fx, fun v hv => by cases hv⟩
end
end Q7
set_option maxRecDepth 100000
set_option maxHeartbeats 4000000
namespace Q7
open PySem PySem.Spec PyProof.Rows L2
/-! ### whole numbers that the program names -/
theorem pe_gint {X : Cx} {x : Str} {i : Int} {pos : Pos} (hg : Gl X x) (hm : ∃ t, X.mg x = some (.int i t)) (hdb : (x == ("__debug__" : Str)) = false := by decide) : PE X (.Name x pos) (tC (.int i)) := by
  obtain ⟨t, e⟩ := hm
  exact pe_glob hg e ⟨t, rfl⟩ hdb
def tInt (x : Str) (i : Int) : Tst := fun K => (He.Fa.int x i).ok K
theorem tInt_ok {x : Str} {i : Int} {K : PySem.W.Frag} {h : Heap} {mg : Str → Option Value} (X : K.In h) (G : h.Ns mainGlobals mg) (c : tInt x i K = true) : ∃ t, mg x = some (.int i t) := He.int_ok X G c
/-! ### data < data, both of one form -/
def rLtD (K : PySem.W.Frag) : V → V → Hp → VK → Prop := fun x y H Q => ∃ da db, Dp K H x da ∧ Dp K H y db ∧ PySem.W.alike da db = true ∧ da ≠ .none ∧ da.depth ≤ 60 ∧ Q (.bl (PySem.W.dataLt da db)) H
theorem op_ltD {X : Cx} (hu : X.A.units + 64 < cLine) : OpR X (compareOp .Lt) (rLtD X.K) := by
  intro pins s σ H x y v u Q I rx ry h
  obtain ⟨d, e, hd, he, al, hn, dp, q⟩ := h
  obtain ⟨as, r1⟩ := Dp.reads I d x v hd rx
  obtain ⟨bs, r2⟩ := Dp.reads I e y u he ry
  show wpAny _ _ (richCompare .Lt v u) _ _ _
  exact PySem.W.rcLt_alike d e X.A s v u as bs r1 r2 al hn (by omega) _ _ _ _ ⟨.bl _, H, I, rfl, q⟩
theorem lt_int_word {t1 t2 : Int} {w1 w2 : Str} (h : t1 < t2 ∨ t1 = t2 ∧ w1.cps.toList < w2.cps.toList) : PySem.W.dataLt (.tuple [.int t1, .str w1]) (.tuple [.int t2, .str w2]) = true := by
  rw [PySem.W.dataLt_tuple]
  rcases h with h | ⟨rfl, h⟩
  · rw [PySem.W.dataLt_all_no (by rfl) (by simp [PyData.eqv]; omega), PySem.W.dataLt_int]
    exact decide_eq_true h
  · rw [PySem.W.dataLt_all_yes (by rfl) (by simp [PyData.eqv])]
    rw [PySem.W.dataLt_all_no (by rfl) (by
      simp only [PyData.eqv]
      refine beq_eq_false_iff_ne.mpr fun z => ?_
      subst z
      exact absurd h (List.lt_irrefl _)), PySem.W.dataLt_str]
    exact decide_eq_true h
/-! ### tasks as data -/
/-- an end: its tick, whether it is done, its share -/
abbrev EndD := Int × Bool × Rat
def wordOf (b : Bool) : Str := if b then "done" else "failed"
structure TaskD where
  cost : Int
  undo : Option Int
  ends : List EndD
def undoV : Option Int → V
  | none => .non
  | some i => .int i
def EndV (K : PySem.W.Frag) (H : Hp) (v : V) (e : EndD) : Prop := ∃ p f, v = .ref p ∧ SqT K H p [.int e.1, .str (wordOf e.2.1), f] ∧ FrV K H f e.2.2
def TaskV (K : PySem.W.Frag) (H : Hp) (v : V) (t : TaskD) : Prop := ∃ p l es, v = .ref p ∧ SqT K H p [.int t.cost, undoV t.undo, .ref l] ∧ H l = some (.lst es) ∧ Paired (EndV K H) es t.ends
theorem endV_tk {K : PySem.W.Frag} {H H' : Hp} {v : V} {e : EndD} (h : EndV K H v e) (s : TK H H') : EndV K H' v e := by
  obtain ⟨p, f, e1, S, F⟩ := h
  exact ⟨p, f, e1, sqT_tk S s, frV_tk F s⟩
theorem taskV_same {K : PySem.W.Frag} {H H' : Hp} {v : V} {t : TaskD} (h : TaskV K H v t) (s : Same H H') : TaskV K H' v t := by
  obtain ⟨p, l, es, e1, S, L, P⟩ := h
  exact ⟨p, l, es, e1, sqT_same s S, s _ _ L, pImp (fun _ _ z => endV_tk z (same_tk s)) P⟩
/-- the place of an end in its task's order -/
def endK (e : EndD) : Int := 2 * e.1 + if e.2.1 then 0 else 1
structure GoodE (e : EndD) : Prop where
  t0 : 1 ≤ e.1
  t1 : e.1 ≤ 30
  n0 : 0 < e.2.2.num
  n1 : e.2.2.num ≤ 1000
  d1 : e.2.2.den ≤ 1000
structure GoodT (t : TaskD) : Prop where
  c0 : 0 ≤ t.cost
  c1 : t.cost ≤ 1000000000000
  u : ∀ i, t.undo = some i → 0 ≤ i ∧ i ≤ 1000000000000
  e : ∀ e ∈ t.ends, GoodE e
  l0 : t.ends ≠ []
  l1 : t.ends.length ≤ 8
  asc : (t.ends.map endK).Pairwise (· < ·)
  one : (t.ends.map (·.2.2)).sum = 1
def planWords : List Str := ["order", "other", "both", "race", "again", "within", "later", "keep", "easy", "back", "watch"]
structure GoodN (x : Str) : Prop where
  l0 : 1 ≤ x.length
  l1 : x.length ≤ 8
  az : ∀ c ∈ x.cps.toList, 97 ≤ c ∧ c ≤ 122
  pw : x ∉ planWords
def revA {α : Type} (_ : List α) (ws : List α) : List α := match ws with
  | [a, b, c] => [c, b, a]
  | _ => ws
theorem revA_rel {vs zs : List V} {us ws : List Value} (_ : Vals vs us) (h : Vals zs ws) : Vals (revA vs zs) (revA us ws) := by
  cases h with
  | nil => exact .nil
  | cons h1 t1 => cases t1 with
    | nil => exact .cons h1 .nil
    | cons h2 t2 => cases t2 with
      | nil => exact .cons h1 (.cons h2 .nil)
      | cons h3 t3 => cases t3 with
        | nil => exact .cons h3 (.cons h2 (.cons h1 .nil))
        | cons h4 t4 => exact .cons h1 (.cons h2 (.cons h3 (.cons h4 t4)))
end Q7
set_option maxRecDepth 100000
set_option maxHeartbeats 4000000
/-! ### {**d, k: v} -/
namespace Q7
open PySem PySem.Spec PyProof.Rows L2
section
variable {prog : Program} {w : World} {K : Type} [DecidableEq K] {kn : KeyKind prog w K} {A : Around} {E : Value → Shared → Prop} {s : Shared}
/-- one pair put into a dict by its hash -/
theorem put_one {a : Addr} {ps : List (K × Value)} {k : K} {u v : Value} {Q : Unit → Shared → Prop} (ku : kn.is k u = true) (m : s.heap.DictOf kn a ps) (z : ps.length ≤ sizeLine)
    (q : ∀ g, g.DictOf kn a (stored ps k v) → Heap.SameBut a s.heap g → Q () { s with heap := g }) : wpAny (model prog w) A (dictPut a (kn.hash k) u v) Q E s := by
  obtain ⟨o, es, n, e1, e2, e3, e4, e5, e6⟩ := m
  have len : es.size ≤ sizeLine := by
    have := e5.length
    rw [Array.length_toList] at this
    omega
  have same : (es.findIdx? fun e => kn.is k e.key) = ps.findIdx? fun p => decide (p.1 = k) := by
    rw [← e5.findIdx k]
    obtain ⟨l⟩ := es
    simp
  unfold dictPut
  refine wpAny_bind (wpAny_dictFind_of ku e1 e3 e4 ?_)
  cases c : es.findIdx? fun e => kn.is k e.key with
  | some i =>
    have yes := any_of_findIdx_some (same ▸ c)
    refine wpAny_updateDict e1 e3 (q _ ?_ (Heap.SameBut.update ..))
    refine ⟨_, _, n, Heap.get?_update_self _ e1 (Obj.isFreed_of_dict (Obj.data_mapDict e3 _)), e2.mapDict _, Obj.data_mapDict e3 _, e4.modify _ _, ?_, ?_⟩
    · rw [stored, if_pos yes]
      have c2 : (es.toList.findIdx? fun e => kn.is k e.key) = some i := by
        rw [← c]
        obtain ⟨l⟩ := es
        simp
      have r := e5.modify e6 c2 v
      obtain ⟨l⟩ := es
      simpa using r
    · rw [stored, if_pos yes, keys_map_store]
      exact e6
  | none =>
    have out : k ∉ ps.map (·.1) := not_mem_of_findIdx_none (same ▸ c)
    have no : ¬ (ps.any fun p => decide (p.1 = k)) = true := fun t => by
      obtain ⟨p, hp, he⟩ := List.any_eq_true.mp t
      exact out (List.mem_map.mpr ⟨p, hp, of_decide_eq_true he⟩)
    refine wpAny_updateDictKeys (hz := len) e1 e3 (q _ ?_ (Heap.SameBut.update ..))
    refine ⟨_, _, n + 1, Heap.get?_update_self _ e1 (Obj.isFreed_of_dict (Obj.data_mapDictKeys e3 _)), e2.mapDictKeys _, Obj.data_mapDictKeys e3 _, e4.push ku _, ?_, ?_⟩
    · rw [stored, if_neg no]
      have r := e5.append ku (kn.hash k) v
      obtain ⟨l⟩ := es
      simpa using r
    · rw [stored, if_neg no, List.map_append]
      refine List.nodup_append.mpr ⟨e6, by simp, fun x hx y hy => ?_⟩
      rw [List.map_cons, List.map_nil, List.mem_singleton] at hy
      subst hy
      exact fun t => out (t ▸ hx)
theorem merge_map {a b : Addr} {ps qs : List (K × Value)} {Q : Unit → Shared → Prop} (hab : a ≠ b) (hb : (b == sysModules) = false) (ha : s.heap.DictOf kn a ps) (hq : s.heap.DictOf kn b qs) (z : ps.length + qs.length ≤ sizeLine)
    (q : ∀ g, g.DictOf kn a (merged ps qs) → Heap.SameBut a s.heap g → Q () { s with heap := g }) : wpAny (model prog w) A (mergeMapping a (.ref b) false) Q E s := by
  obtain ⟨oa, ea, na, a1, a2, a3, a4, a5, a6⟩ := id ha
  obtain ⟨ob, eb, nb, b1, b2, b3, b4, b5, b6⟩ := id hq
  have len : qs.length = eb.size := by rw [← b5.length, Array.length_toList]
  have main : wpAny (model prog w) A (do
      let l ← dictEntries b
      let n ← dictEpoch b
      forIn (List.range l.size) PUnit.unit fun i (_ : PUnit) => (do
        let l2 ← dictEntries b
        match l2[i]? with
        | some e => do
          holding [e.key, e.val] (dictPut a e.hash e.key e.val)
          let n2 ← dictEpoch b
          if (n2 != n) = true then do
              (unsupported "dict.changed-during-merge" : Sem PUnit)
              pure (ForInStep.yield PUnit.unit)
            else pure (ForInStep.yield PUnit.unit)
        | _ => do
          (unsupported "dict.changed-during-merge" : Sem PUnit)
          pure (ForInStep.yield PUnit.unit) : Sem (ForInStep PUnit))
      pure ()) Q E s := by
    refine wpAny_bind (wpAny_dictEntries b1 b3 (wpAny_bind (wpAny_dictEpoch b1 b3 (wpAny_bind ?_))))
    rw [List.range_eq_range']
    refine wpAny_forIn_list _ (fun rest _ t => ∃ g i, t = { s with heap := g } ∧ rest = List.range' i (eb.size - i) ∧ i ≤ eb.size ∧ g.DictOf kn a (merged ps (qs.take i)) ∧ g.get? b = some ob ∧ Heap.SameBut a s.heap g) _ ?_ ?_ _ _
      ⟨s.heap, 0, rfl, by rw [Nat.sub_zero], Nat.zero_le _, by simpa [merged] using ha, b1, Heap.SameBut.refl _ _⟩
    · rintro x rest _ t ⟨g, i, rfl, hr, hi, gd, gb, sb⟩
      have lt : i < eb.size := by
        by_cases c : i < eb.size
        · exact c
        · rw [Nat.sub_eq_zero_of_le (Nat.le_of_not_lt c)] at hr
          cases hr
      rw [show eb.size - i = (eb.size - (i + 1)) + 1 by omega, List.range'_succ] at hr
      injection hr with r1 r2
      subst r1
      refine wpAny_bind (wpAny_dictEntries gb b3 ?_)
      rw [Array.getElem?_eq_getElem lt]
      obtain ⟨⟨k, v⟩, hkv⟩ : ∃ p, qs[x]? = some p := ⟨_, List.getElem?_eq_getElem (by rw [len]; exact lt)⟩
      obtain ⟨c1, c2⟩ := b5.get? (e := eb[x]) (by simp [lt]) hkv
      obtain ⟨k2, c3, c4⟩ := b4 eb[x] (Array.getElem_mem lt)
      obtain rfl : k2 = k := kn.inj _ _ _ c3 c1
      show wpAny _ _ (holding [eb[x].key, eb[x].val] (dictPut a eb[x].hash eb[x].key eb[x].val) >>= _) _ _ _
      rw [c4, c2]
      have room : (merged ps (qs.take x)).length ≤ sizeLine := by
        have h1 := merged_length_le ps (qs.take x)
        rw [List.length_take] at h1
        omega
      refine wpAny_bind (wpAny_holding (put_one c1 gd room fun g2 d2 s2 => ?_))
      have gb2 : g2.get? b = some ob := (s2.2 b (Ne.symm hab)).trans gb
      refine wpAny_bind (wpAny_dictEpoch gb2 b3 ?_)
      rw [if_neg (by simp)]
      exact wpAny_pure ⟨g2, x + 1, rfl, r2, lt, by rw [merged_take_succ ps qs x (k2, v) hkv]; exact d2, gb2, sb.trans s2⟩
    · rintro _ t ⟨g, i, rfl, hr, hi, gd, gb, sb⟩
      have e : i = eb.size := by
        by_cases c : i < eb.size
        · rw [show eb.size - i = (eb.size - (i + 1)) + 1 by omega, List.range'_succ] at hr
          cases hr
        · omega
      refine wpAny_pure (q g ?_ sb)
      rw [e, ← len, List.take_length] at gd
      exact gd
  unfold mergeMapping
  refine wpAny_bind (wpAny_isInstance hq.typeIs isSubtype_dict_dict ?_)
  rw [if_pos rfl]
  refine wpAny_bind (wpAny_specialOf hq.typeIs F.slot_dict_iter.lookup ?_)
  refine wpAny_bind (wpAny_pure ?_)
  show wpAny _ _ (ite ((b == sysModules) = true) _ _) _ _ s
  rw [if_neg (by rw [hb]; exact Bool.false_ne_true)]
  refine wpAny_bind (wpAny_dictEntries a1 a3 ?_)
  by_cases c : ea.isEmpty = true
  · rw [if_pos c]
    refine wpAny_bind (wpAny_dictEntries b1 b3 ?_)
    refine wpAny_bind ?_
    rw [← Array.forIn_toList]
    refine wpAny_of_eq (forIn_yield_id _ fun e he _ => ?_) main
    obtain ⟨k, ke, _⟩ := b4 e (Array.mem_toList_iff.mp he)
    have nk := kn.byValue k _ ke
    cases ev : e.key with
    | ref r => rw [ev] at nk; exact absurd nk Bool.false_ne_true
    | _ => rfl
  · rw [if_neg c]
    exact main
theorem spread_walk {V1 K1 V2 : Sem Value} {Q : Value → Shared → Prop}
    (h : wpAny (model prog w) A V1 (fun m s1 => ∃ b qs, m = .ref b ∧ (b == sysModules) = false ∧ s.heap.objs.size ≠ b ∧ s1.heap.DictOf kn s.heap.objs.size [] ∧ s1.heap.DictOf kn b qs ∧ qs.length ≤ sizeLine ∧
      ∀ g, g.DictOf kn s.heap.objs.size qs → Heap.SameBut s.heap.objs.size s1.heap g →
        wpAny (model prog w) A (subDict [(K1, V2)]) (fun b2 s2 => ∃ q1 q2, (b2 == sysModules) = false ∧ s.heap.objs.size ≠ b2 ∧ s2.heap.DictOf kn s.heap.objs.size q1 ∧ s2.heap.DictOf kn b2 q2 ∧ q1.length + q2.length ≤ sizeLine ∧
          ∀ g2, g2.DictOf kn s.heap.objs.size (merged q1 q2) → Heap.SameBut s.heap.objs.size s2.heap g2 → Q (.ref s.heap.objs.size) { s2 with heap := g2 }) E { s1 with heap := g }) E { s with heap := s.heap.push { cls := .type "dict", data := .dict #[] } }) :
    wpAny (model prog w) A (dictDisplay [(none, V1), (some K1, V2)]) Q E s := by
  unfold dictDisplay
  simp only [List.forIn_cons, List.forIn_nil, List.isEmpty_nil, if_true]
  refine wpAny_bind (wpAny_bind (wpAny_bind (wpAny_pure ?_)))
  refine wpAny_bind (wpAny_alloc ?_)
  refine wpAny_bind (wpAny_holding (wpAny_mono h (fun m s1 r => ?_) fun _ _ e => e))
  obtain ⟨b, qs, rfl, hb, ne, d0, dq, z, k⟩ := r
  refine wpAny_bind (wpAny_onRaise (wpAny_tryCatch (wpAny_onRaise (wpAny_holding (merge_map ne hb d0 dq (by simpa using z) fun g dg sb => ?_)))))
  have nd : (qs.map (·.1)).Nodup := by
    obtain ⟨_, _, _, _, _, _, _, _, h6⟩ := dq
    exact h6
  rw [merged_nil_of_nodup qs nd] at dg
  refine wpAny_pure ?_
  refine wpAny_bind ?_
  rw [if_neg (by simp)]
  refine wpAny_pure (wpAny_pure ?_)
  refine wpAny_bind ?_
  rw [if_neg (by simp)]
  refine wpAny_bind (wpAny_holding (wpAny_mono (k g dg sb) (fun b2 s2 r => ?_) fun _ _ e => e))
  obtain ⟨q1, q2, hb2, ne2, d1, d2, z2, k2⟩ := r
  refine wpAny_bind (wpAny_onRaise (wpAny_holding (merge_map ne2 hb2 d1 d2 z2 fun g2 dg2 sb2 => ?_)))
  exact wpAny_pure (wpAny_pure (k2 g2 dg2 sb2))
end
def tSpr (td tk tv : TE) : TE := fun σ H Q => ∀ p, H p = none → td σ (upd H p (.dK [])) fun x H1 => ∃ d kvs, x = .ref d ∧ d ≠ p ∧ Rd H1 d (.dK kvs) ∧ H1 p = some (.dK []) ∧ ∀ q, upd H1 p (.dK kvs) q = none →
  tk σ (upd (upd H1 p (.dK kvs)) q (.dK [])) fun y H2 => tv σ H2 fun z H3 => ∃ k, y = kV k ∧ H3 p = some (.dK kvs) ∧ H3 q = some (.dK []) ∧ kvs.length < sizeLine ∧ Q (.ref p) (upd (upd H3 q (.dK [(k, z)])) p (.dK (putK kvs k z)))
theorem pe_spread1 {X : Cx} {e1 ke e2 : Expr} {td tk tv : TE} {pos : Pos} (hd : PE X e1 td) (hk : PE X ke tk) (hv : PE X e2 tv) : PE X (.Dict [none, some ke] [e1, e2] pos) (tSpr td tk tv) := by
  refine ⟨fun pins s σ H Q I h => ?_⟩
  have hn := I.hok.fresh (Nat.le_refl s.heap.objs.size)
  have I1 := I.laid (a := s.heap.objs.size) (o := .dK []) (h' := s.heap.push { cls := .type "dict", data := .dict #[] }) (t' := s.toks) (fun _ _ q => Heap.get?_push_of_some _ q) (Nat.le_refl _) (dk_empty s.heap I.big)
  rw [arm_eval_Dict]
  refine wpAny_bind (wpAny_standAt ?_)
  refine spread_walk (kn := mixKind X.prog X.w) (wpAny_bind (thn (hd.run pins _ σ _ _ I1 (h _ hn)) fun u s1 ⟨x, H1, J1, rx, d, kvs, ex, dp, rd, p0, q1⟩ => wpAny_bind (wpAny_standAt (wpAny_pure ?_))))
  subst ex
  obtain rfl : u = Value.ref d := rx
  obtain ⟨z, lo, vs, rel, dd⟩ := dk_rd J1.hok rd
  obtain ⟨z0, lp, vs0, r0, d0⟩ := dk_of J1.hok p0
  cases r0
  have lv : vs.length = kvs.length := rel.length.symm
  refine ⟨d, vs, rfl, lo, Ne.symm dp, d0, dd, by rw [lv]; exact z, fun g dg sb => ?_⟩
  have he : ∃ q, g.get? s.heap.objs.size = some q := let ⟨q, _, _, hq, _⟩ := dg; ⟨q, hq⟩
  have J2 := d_write (t' := s1.toks) J1 (by rw [p0]; exact True.intro) sb he (dk_new z lp rel dg)
  have big : s.heap.objs.size < g.objs.size := by
    obtain ⟨_, hq⟩ := he
    exact Heap.lt_size hq
  have hn2 : upd H1 s.heap.objs.size (.dK kvs) g.objs.size = none := J2.hok.fresh (Nat.le_refl _)
  have J3 := J2.laid (a := g.objs.size) (o := .dK []) (h' := g.push { cls := .type "dict", data := .dict #[] }) (t' := s1.toks) (fun _ _ q => Heap.get?_push_of_some _ q) (Nat.le_refl _) (dk_empty g J2.big)
  refine wpAny_subDict (knd := mixKind X.prog X.w) (show 1 ≤ 15 by decide) ?_
  refine thn ((pps_cons hk hv pps_nil).run pins _ σ _ (fun ps H3 => match ps with
    | [(y, z)] => ∃ k, y = kV k ∧ H3 s.heap.objs.size = some (.dK kvs) ∧ H3 g.objs.size = some (.dK []) ∧ kvs.length < sizeLine ∧ Q (.ref s.heap.objs.size) (upd (upd H3 g.objs.size (.dK [(k, z)])) s.heap.objs.size (.dK (putK kvs k z)))
    | _ => False) J3 (q1 _ hn2)) fun ws s2 ⟨ps, H3, J4, rel4, q4⟩ => ?_
  match ps, q4, rel4 with
  | [(y, z2)], q4, rel4 =>
    obtain ⟨k, rfl, p3, g3, lt, q5⟩ := q4
    obtain ⟨rs, c, rk⟩ := carries_of (P := X.prog) (w := X.w) (kvs := [(k, z2)]) rel4
    obtain ⟨zz, lg, vs1, r1, d1⟩ := dk_of J4.hok g3
    cases r1
    refine ⟨rs, c, d1, fun h' dd' hs => ?_⟩
    have he2 : ∃ q, h'.get? g.objs.size = some q := let ⟨q, _, _, hq, _⟩ := dd'; ⟨q, hq⟩
    have rm : KV [(k, z2)] (merged [] rs) := rk.merge .nil
    have J5 := d_write (t' := s2.toks + ws.length) J4 (by rw [g3]; exact True.intro) hs he2 (dk_new (kvs := [(k, z2)]) (show 1 ≤ sizeLine by decide) lg rm dd')
    have p5 : upd H3 g.objs.size (.dK [(k, z2)]) s.heap.objs.size = some (.dK kvs) := by rw [upd_ne (Nat.ne_of_lt big)]; exact p3
    obtain ⟨z6, l6, vs6, r6, d6⟩ := dk_of J5.hok p5
    have l1 : (merged [] rs).length = 1 := rm.length.symm
    have lv6 : vs6.length = kvs.length := r6.length.symm
    have d7 : h'.DictOf (mixKind X.prog X.w) g.objs.size (merged [] rs) := dd'
    refine ⟨vs6, merged [] rs, lg, Nat.ne_of_lt big, d6, d7, by rw [l1, lv6]; exact lt, fun g2 dg2 sb2 => ?_⟩
    have he3 : ∃ q, g2.get? s.heap.objs.size = some q := let ⟨q, _, _, hq, _⟩ := dg2; ⟨q, hq⟩
    have rfin : KV (putK kvs k z2) (merged vs6 (merged [] rs)) := KV.merge (more := [(k, z2)]) rm r6
    have zf : (putK kvs k z2).length ≤ sizeLine := Nat.le_trans (length_putK kvs k z2) lt
    exact ⟨.ref s.heap.objs.size, _, d_write (t' := s2.toks + ws.length) J5 (by rw [p5]; exact True.intro) sb2 he3 (dk_new zf l6 rfin dg2), rfl, q5⟩
end Q7
set_option maxRecDepth 100000
set_option maxHeartbeats 4000000
namespace Q7
open PySem PySem.Spec PyProof.Rows L2
/-! ### a head's facts with the modules' dict and tables with text keys among them -/
def hookZ (n : Nat) (fa : List He.Fa) (fn : List He.DefD) (ts : List He.Tab) (ex : List Tst) : PySem.W.Hook where
  α := He.AlT × Bool
  obs := fun s => (He.obsT fa fn ts (He.frG s.heap.get? (sysModules :: He.asD s.heap.get? n)), ex.all fun f => f (He.frG s.heap.get? (sysModules :: He.asD s.heap.get? n)))
  val := fun w => (He.valT fn ts w, true)
  says := fun w h => ∃ K : PySem.W.Frag, K.In h ∧ He.SaysT fa fn ts w K ∧ (ex.all fun f => f K) = true
  of := fun _ _ e => ⟨_, He.frG_in, congrArg (fun z : He.AlT × Bool => z.1) e, congrArg (fun z : He.AlT × Bool => z.2) e⟩
  keeps := fun _ _ _ ⟨K, hK, c⟩ k => ⟨K, PySem.W.Frag.In.keeps hK k, c⟩
def obZ (n : Nat) (fa : List He.Fa) (fn : List He.DefD) (ts : List He.Tab) (ex : List Tst) (g : Addr → Option Obj) : He.AlT × Bool := (He.obsT fa fn ts (He.frG g (sysModules :: He.asD g n)), ex.all fun f => f (He.frG g (sysModules :: He.asD g n)))
theorem obZ_eq {n : Nat} {fa : List He.Fa} {fn : List He.DefD} {ts : List He.Tab} {ex : List Tst} {g : Addr → Option Obj} {s : Shared} (h : ∀ a, g a = s.heap.get? a) : obZ n fa fn ts ex g = (hookZ n fa fn ts ex).obs s := by
  have e : g = s.heap.get? := funext h
  rw [e] <;> rfl
/-- a table of the module: where it stands -/
def tabG (x : Str) (ks : List Str) : He.Tab := (fun K => He.ga K x, ks)
/-- the dict of a module, its keys and values -/
structure TabD (w : World) (K : PySem.W.Frag) (a : Addr) (kvs : List (Str × V)) : Prop where
  kd : ∃ es n, KDict K w a es n
  at_ : ∀ q ∈ kvs, ∃ u, PySem.W.nsIn K a q.1 = some (some u) ∧ RelV q.2 u
theorem tabD_of {w : World} {K : PySem.W.Frag} {a : Addr} {kvs : List (Str × He.Dv)} (h : ∃ es n, KDict K w a es n) (v : He.valsB K a kvs = true) : TabD w K a (kvs.map fun q => (q.1, q.2.v K)) := by
  refine ⟨h, fun q hq => ?_⟩
  obtain ⟨p, hp, rfl⟩ := List.mem_map.mp hq
  exact He.valsB_ok v hp
theorem TabD.ix {w : World} {K : PySem.W.Frag} {a : Addr} {kvs : List (Str × V)} (t : TabD w K a kvs) {x : Str} {v : V} (h : (x, v) ∈ kvs) : KDct K w a x v := by
  obtain ⟨es, n, d⟩ := t.kd
  obtain ⟨u, e, r⟩ := t.at_ _ h
  exact ⟨es, n, u, d.at_, d.lit, e, r⟩
end Q7
set_option maxRecDepth 100000
set_option maxHeartbeats 4000000
namespace Q7
open PySem PySem.Spec PyProof.Rows L2
/-! ### d.get(k), d a dict of the module with text keys -/
def OptV : Option V → Option Value → Prop
  | some v, some u => RelV v u
  | none, none => True
  | _, _ => False
theorem OptV.getD {o : Option V} {r : Option Value} (h : OptV o r) : RelV (o.getD .non) (r.getD .none) := by
  rcases o with _ | v <;> rcases r with _ | u
  · exact rfl
  · exact h.elim
  · exact h.elim
  · exact h
def KGet (K : PySem.W.Frag) (w : World) (a : Addr) (x : Str) (o : Option V) : Prop := ∃ es n r, KDict K w a es n ∧ PySem.W.nsIn K a x = some r ∧ OptV o r
theorem TabD.get {w : World} {K : PySem.W.Frag} {a : Addr} {kvs : List (Str × V)} (t : TabD w K a kvs) {x : Str} {v : V} (h : (x, v) ∈ kvs) : KGet K w a x (some v) := by
  obtain ⟨es, n, d⟩ := t.kd
  obtain ⟨u, e, r⟩ := t.at_ _ h
  exact ⟨es, n, some u, d, e, r⟩
def tKGet1 (K : PySem.W.Frag) (w : World) (td ty : TE) : TE := fun σ H Q => td σ H fun x H1 => ∃ a es n, x = .ref a ∧ KDict K w a es n ∧ ty σ H1 fun y H2 => ∃ z o, y = .str z ∧ KGet K w a z o ∧ Q (o.getD .non) H2
section
variable {X : Cx} {o e : Expr} {apos cpos : Pos} {td ty : TE}
theorem pe_kget1 (ho : PE X o td) (he : PE X e ty) (m : M1 X o "get" apos e cpos) : PE X (.Call (.Attribute o "get" apos) [e] [] cpos) (tKGet1 X.K X.w td ty) := by
  refine ⟨fun pins s σ H Q I h => ?_⟩
  refine wpAny_Call_method m.base m.few m.line PySem.F.plainAttrs_dict PySem.F.slot_dict_get PySem.F.type_dict_get (thn (ho.run pins s σ H _ I h) fun u s1 ⟨x, H1, I1, rx, a, es, n, ex, d, q1⟩ => ?_)
  subst ex
  obtain rfl : u = Value.ref a := rx
  have hm1 := PySem.W.mapOf_K (prog := X.prog) (w := X.w) I1.kIn d.at_ d.lit
  refine ⟨hm1.typeIs, hm1.noDict, ?_⟩
  rw [m.trees]
  refine Calls.callWith_builtin rfl (Calls.evalArgs_plain (Calls.spliced_cons (thn (he.run pins s1 σ H1 _ I1 q1) fun iv s2 ⟨y, H2, I2, ry, z, ov, ez, ⟨es2, n2, r, d2, er, rel⟩, q2⟩ => Calls.spliced_nil ?_)))
  subst ez
  obtain ⟨t, rfl⟩ : ∃ t, iv = Value.str z t := ry
  have hm2 := PySem.W.mapOf_K (prog := X.prog) (w := X.w) I2.kIn d2.at_ d2.lit
  refine call_meetsIn PySem.F.slot_dict_get hm2.typeIs PySem.F.entry_dict_get (PySem.F.args_dict_get_2 _ _) (meets_dict_get (strKind X.prog X.w) a (strKind_is X.prog X.w z t) d2.low) ⟨_, hm2, ?_⟩
  rw [PySem.W.find_K d2.at_ er]
  exact ⟨_, H2, I2.tok _, rel.getD, q2⟩
end
end Q7
set_option maxRecDepth 100000
set_option maxHeartbeats 4000000
namespace Q7
open PySem PySem.Spec PyProof.Rows L2
/-! ### max(xs, default=d), whole numbers -/
theorem dp_ints {K : PySem.W.Frag} {H : Hp} : ∀ ns : List Int, DpAll K H (ns.map V.int) (ns.map PyData.int)
  | [] => .nil
  | x :: r => .cons (.int x) (dp_ints r)
theorem maxOf_mem : ∀ (ys : List Int) (y : Int), PySem.W.maxOf y ys ∈ y :: ys
  | [], y => List.mem_cons_self
  | z :: r, y => by
    show PySem.W.maxOf (if PySem.W.DatumOrd.lt y z = true then z else y) r ∈ _
    have h := maxOf_mem r (if PySem.W.DatumOrd.lt y z = true then z else y)
    rcases List.mem_cons.mp h with h | h
    · rw [h]
      split
      · exact List.mem_cons_of_mem _ List.mem_cons_self
      · exact List.mem_cons_self
    · exact List.mem_cons_of_mem _ (List.mem_cons_of_mem _ h)
theorem maxOf_ge : ∀ (ys : List Int) (y : Int), ∀ x ∈ y :: ys, x ≤ PySem.W.maxOf y ys
  | [], y, x, h => by
    rw [List.mem_singleton.mp h]
    exact Int.le_refl _
  | z :: r, y, x, h => by
    show x ≤ PySem.W.maxOf (if PySem.W.DatumOrd.lt y z = true then z else y) r
    have lt : (PySem.W.DatumOrd.lt y z = true) ↔ y < z := by
      show (decide (y < z) = true) ↔ _
      exact decide_eq_true_iff
    have g := maxOf_ge r (if PySem.W.DatumOrd.lt y z = true then z else y)
    have g0 := g _ List.mem_cons_self
    rcases List.mem_cons.mp h with rfl | h
    · by_cases c : PySem.W.DatumOrd.lt x z = true
      · rw [if_pos c] at g0 ⊢
        have := lt.mp c
        omega
      · rw [if_neg c] at g0 ⊢
        exact g0
    · rcases List.mem_cons.mp h with rfl | h
      · by_cases c : PySem.W.DatumOrd.lt y x = true
        · rw [if_pos c] at g0 ⊢
          exact g0
        · rw [if_neg c] at g0 ⊢
          have : ¬ y < x := fun z => c (lt.mpr z)
          omega
      · exact g x (List.mem_cons_of_mem _ h)
def rMaxDf (K : PySem.W.Frag) : List V → List V → Hp → VK → Prop := fun xs zs H Q => ∃ (a : Addr) (ns : List Int) (d : Int), xs = [.ref a] ∧ zs = [.int d] ∧ SqL K H a (ns.map V.int) ∧ (ns = [] → Q (.int d) H) ∧ ∀ m, m ∈ ns → (∀ y, y ∈ ns → y ≤ m) → Q (.int m) H
theorem call_maxDf {X : Cx} (hc : X.calm = true) (hu : X.A.units + 64 < cLine) : CallRK X (.builtin "max") ["default"] (rMaxDf X.K) := by
  intro pins s σ H xs zs us ws Q I r1 r2 h
  obtain ⟨a, ns, d, rfl, rfl, S, h0, h1⟩ := h
  obtain ⟨its, rv, hl, _⟩ := I.list S
  obtain rfl := Vals.ref1 r1
  cases r2 with
  | @cons _ u _ _ ru rt =>
    cases rt
    have hold : PySem.W.HoldAll s.heap its.toArray.toList ns := Dp.readsAll I _ _ _ (dp_ints ns) rv
    refine PySem.W.max_list_datum_default (xs := ns) (I.ok.hd hc) hl.isList hold (by show X.A.units + 1 + 0 < cLine; omega) (fun e h' tk k => ⟨.int d, H, I.kept k, ru, h0 e⟩) fun y ys i v h' tk e hi hv k => ?_
    obtain ⟨as, hr⟩ := hv
    have hv : ∃ t, v = Value.int (PySem.W.maxOf y ys) t := by
      have hr2 : Reads h' v (.int (PySem.W.maxOf y ys)) as := hr
      cases hr2
      exact ⟨_, rfl⟩
    exact ⟨.int (PySem.W.maxOf y ys), H, I.kept k, hv, h1 _ (by rw [e]; exact maxOf_mem ys y) (by rw [e]; exact maxOf_ge ys y)⟩
/-! ### tuples of the module at any place -/
def tupA (p : PySem.W.Frag → Addr) (vs : List He.Dv) : Tst := fun K => match K.lookup (p K) with
  | some ⟨.type c, _, .seq its _, _⟩ => decide (c = "tuple") && (decide (its.size ≤ sizeLine) && He.relAll (vs.map (He.Dv.v K)) its.toList)
  | _ => false
theorem tupA_ok {K : PySem.W.Frag} {p : PySem.W.Frag → Addr} {vs : List He.Dv} (h : tupA p vs K = true) (H : Hp) : SqT K H (p K) (vs.map (He.Dv.v K)) := by
  unfold tupA at h
  cases q : K.lookup (p K) with
  | none =>
    rw [q] at h
    cases h
  | some o =>
    obtain ⟨oc, od, dt, osl⟩ := o
    rw [q] at h
    cases oc with
    | type c =>
      cases dt with
      | seq its n =>
        simp only [Bool.and_eq_true, decide_eq_true_eq] at h
        obtain ⟨h1, h2, h3⟩ := h
        exact .inr ⟨_, its, n, q, congrArg Value.type h1, rfl, h2, He.relAll_ok h3⟩
      | _ => cases h
    | _ => cases dt <;> cases h
/-- the object that a dict of the module has under a text -/
def entA (x y : Str) (K : PySem.W.Frag) : Addr := match PySem.W.nsIn K (He.ga K x) y with
  | some (some (.ref a)) => a
  | _ => 0
/-- the i-th item of a tuple, an object -/
def itemA (p : PySem.W.Frag → Addr) (i : Nat) (K : PySem.W.Frag) : Addr := match K.lookup (p K) with
  | some ⟨_, _, .seq its _, _⟩ => (match its[i]? with
    | some (.ref a) => a
    | _ => 0)
  | _ => 0
/-! ### zip of two tuples -/
theorem walk_zipT {K : PySem.W.Frag} {a b : Addr} {xs ys : List V} {n : Nat} (hn : n = min xs.length ys.length) : Walk (RZ.ItzT K a b) n (fun H => SqT K H a xs ∧ SqT K H b ys) (YPair (fun i => xs[i]?) (fun i => ys[i]?)) := by
  subst hn
  refine ⟨fun i _ hi q => ?_, fun _ q => ⟨xs, ys, q.1, q.2, by omega⟩, fun i H v H' _ q y => ?_⟩
  · have h1 : i < xs.length := by omega
    have h2 : i < ys.length := by omega
    exact ⟨xs, ys, xs[i], ys[i], q.1, q.2, by simp [h1], by simp [h2]⟩
  · obtain ⟨T, x, z, h1, h2, h3, h4, h5⟩ := y
    exact ⟨T, x, z, h1, h2, h3, h4 xs q.1, h5 ys q.2⟩
end Q7
set_option maxRecDepth 100000
set_option maxHeartbeats 4000000
namespace Q7
open PySem PySem.Spec PyProof.Rows L2
/-! ### plans as trees -/
inductive LW where
  | order | other | both | race
deriving DecidableEq
def LW.word : LW → Str
  | .order => "order" | .other => "other" | .both => "both" | .race => "race"
/-- a word with one part, and its numbers -/
inductive UW where
  | again (n d : Int) | within (l : Int) | later (d : Int) | keep | easy | back (m : Int)
def UW.word : UW → Str
  | .again _ _ => "again" | .within _ => "within" | .later _ => "later" | .keep => "keep" | .easy => "easy" | .back _ => "back"
def UW.nums : UW → List Int
  | .again n d => [n, d] | .within l => [l] | .later d => [d] | .keep => [] | .easy => [] | .back m => [m]
def UW.bounds : UW → List (Int × Int)
  | .again _ _ => [(1, 20), (0, 100)] | .within _ => [(0, 200)] | .later _ => [(0, 100)] | .keep => [] | .easy => [] | .back _ => [(0, 1000000000000)]
def UW.ok (u : UW) : Prop := ∀ q ∈ u.nums.zip u.bounds, q.2.1 ≤ q.1 ∧ q.1 ≤ q.2.2
mutual
inductive PlanD where
  | task (n : Str)
  | many (w : LW) (ps : PlanL)
  | one (u : UW) (p : PlanD)
  | watch (l : Int) (s p : PlanD)
inductive PlanL where
  | nil
  | cons (p : PlanD) (ps : PlanL)
end
def PlanL.list : PlanL → List PlanD
  | .nil => []
  | .cons p ps => p :: ps.list
def PlanL.of : List PlanD → PlanL
  | [] => .nil
  | p :: ps => .cons p (PlanL.of ps)
theorem PlanL.list_of : ∀ ps : List PlanD, (PlanL.of ps).list = ps
  | [] => rfl
  | p :: ps => congrArg (p :: ·) (PlanL.list_of ps)
/-- what stands in a plan -/
def PlanD.kids : PlanD → List PlanD
  | .task _ => []
  | .many _ ps => ps.list
  | .one _ p => [p]
  | .watch _ s p => [s, p]
mutual
def PlanD.count : PlanD → Nat
  | .task _ => 1
  | .many _ ps => 1 + ps.count
  | .one _ p => 1 + p.count
  | .watch _ s p => 1 + (s.count + p.count)
def PlanL.count : PlanL → Nat
  | .nil => 0
  | .cons p ps => p.count + ps.count
end
mutual
def PlanD.deep : PlanD → Nat
  | .task _ => 1
  | .many _ ps => 1 + ps.deep
  | .one _ p => 1 + p.deep
  | .watch _ s p => 1 + max s.deep p.deep
def PlanL.deep : PlanL → Nat
  | .nil => 0
  | .cons p ps => max p.deep ps.deep
end
theorem PlanD.count_pos (p : PlanD) : 1 ≤ p.count := by cases p <;> simp only [PlanD.count] <;> omega
theorem PlanD.deep_pos (p : PlanD) : 1 ≤ p.deep := by cases p <;> simp only [PlanD.deep] <;> omega
theorem PlanL.count_eq : ∀ ps : PlanL, ps.count = (ps.list.map PlanD.count).sum
  | .nil => rfl
  | .cons p ps => by
    show p.count + ps.count = _
    rw [PlanL.count_eq ps]
    rfl
theorem PlanD.count_kids (p : PlanD) : p.count = 1 + (p.kids.map PlanD.count).sum := by
  cases p with
  | task n => rfl
  | many w ps =>
    show 1 + ps.count = _
    rw [PlanL.count_eq ps]
    rfl
  | one u p => rfl
  | watch l s p => rfl
theorem PlanL.deep_le : ∀ {ps : PlanL} {q : PlanD}, q ∈ ps.list → q.deep ≤ ps.deep
  | .nil, q, h => by cases h
  | .cons p ps, q, h => by
    show q.deep ≤ max p.deep ps.deep
    rcases List.mem_cons.mp h with rfl | h
    · exact Nat.le_max_left _ _
    · exact Nat.le_trans (PlanL.deep_le h) (Nat.le_max_right _ _)
theorem PlanD.deep_kid {p q : PlanD} (h : q ∈ p.kids) : q.deep < p.deep := by
  cases p with
  | task n => cases h
  | many w ps =>
    have := PlanL.deep_le h
    show q.deep < 1 + ps.deep
    omega
  | one u p =>
    rw [List.mem_singleton.mp h]
    show p.deep < 1 + p.deep
    omega
  | watch l s p =>
    show q.deep < 1 + max s.deep p.deep
    have h' : q ∈ [s, p] := h
    simp only [List.mem_cons, List.not_mem_nil, or_false] at h'
    rcases h' with rfl | rfl
    · have := Nat.le_max_left q.deep p.deep
      omega
    · have := Nat.le_max_right s.deep q.deep
      omega
/-! numbers within their bounds, names among these -/
mutual
def PlanD.ok (ns : List Str) : PlanD → Prop
  | .task n => n ∈ ns
  | .many _ ps => ps.ok ns
  | .one u p => u.ok ∧ p.ok ns
  | .watch l s p => 0 ≤ l ∧ l ≤ 200 ∧ s.ok ns ∧ p.ok ns
def PlanL.ok (ns : List Str) : PlanL → Prop
  | .nil => True
  | .cons p ps => p.ok ns ∧ ps.ok ns
end
theorem PlanL.ok_mem {ns : List Str} : ∀ {ps : PlanL}, ps.ok ns → ∀ q ∈ ps.list, q.ok ns
  | .nil, _, q, h => by cases h
  | .cons p ps, ⟨h1, h2⟩, q, h => by
    rcases List.mem_cons.mp h with rfl | h
    · exact h1
    · exact PlanL.ok_mem h2 q h
theorem PlanD.ok_kid {ns : List Str} {p q : PlanD} (g : p.ok ns) (h : q ∈ p.kids) : q.ok ns := by
  cases p with
  | task n => cases h
  | many w ps => exact PlanL.ok_mem g q h
  | one u p =>
    rw [List.mem_singleton.mp h]
    exact g.2
  | watch l s p =>
    have h' : q ∈ [s, p] := h
    simp only [List.mem_cons, List.not_mem_nil, or_false] at h'
    rcases h' with rfl | rfl
    · exact g.2.2.1
    · exact g.2.2.2
theorem PlanL.ok_of {ns : List Str} : ∀ {ps : List PlanD}, (∀ q ∈ ps, q.ok ns) → (PlanL.of ps).ok ns
  | [], _ => True.intro
  | p :: ps, h => ⟨h p List.mem_cons_self, PlanL.ok_of fun q hq => h q (List.mem_cons_of_mem _ hq)⟩
/-! ### sizes and spans -/
mutual
def PlanD.size : PlanD → Int
  | .task _ => 1
  | .many _ ps => 1 + ps.size
  | .one (.again n _) p => 1 + n * p.size
  | .one (.within _) p => 1 + p.size
  | .one (.later _) p => 1 + p.size
  | .one .keep p => 1 + p.size
  | .one .easy p => 1 + p.size
  | .one (.back _) p => 1 + p.size
  | .watch _ s p => 1 + (s.size + p.size)
def PlanL.size : PlanL → Int
  | .nil => 0
  | .cons p ps => p.size + ps.size
end
theorem PlanL.size_eq : ∀ ps : PlanL, ps.size = (ps.list.map PlanD.size).sum
  | .nil => rfl
  | .cons p ps => by
    show p.size + ps.size = _
    rw [PlanL.size_eq ps]
    rfl
/-! t: the last ticks of the tasks -/
mutual
def PlanD.span (t : Str → Int) : PlanD → Int
  | .task n => t n
  | .many .order ps => ps.spanS t
  | .many .other ps => ps.spanS t
  | .many .both ps => ps.spanM t
  | .many .race ps => ps.spanM t
  | .one (.again n d) p => n * p.span t + (n - 1) * d
  | .one (.within l) p => min l (p.span t)
  | .one (.later d) p => d + p.span t
  | .one .keep p => p.span t
  | .one .easy p => p.span t
  | .one (.back _) p => p.span t
  | .watch l s p => max (p.span t) (l + s.span t)
def PlanL.spanS (t : Str → Int) : PlanL → Int
  | .nil => 0
  | .cons p ps => p.span t + ps.spanS t
def PlanL.spanM (t : Str → Int) : PlanL → Int
  | .nil => 0
  | .cons p ps => max (p.span t) (ps.spanM t)
end
theorem PlanL.spanS_eq (t : Str → Int) : ∀ ps : PlanL, ps.spanS t = (ps.list.map (PlanD.span t)).sum
  | .nil => rfl
  | .cons p ps => by
    show p.span t + ps.spanS t = _
    rw [PlanL.spanS_eq t ps]
    rfl
/-! ### plans in the heap; N: what is known of their lists' places -/
mutual
inductive PlanV (K : PySem.W.Frag) (H : Hp) (N : Addr → Prop) : V → PlanD → Prop where
  | task {a : Addr} {n : Str} : SqT K H a [.str "task", .str n] → PlanV K H N (.ref a) (.task n)
  | many {a l : Addr} {w : LW} {xs : List V} {ps : PlanL} : SqT K H a [.str w.word, .ref l] → N l → H l = some (.lst xs) → PlanVs K H N xs ps → PlanV K H N (.ref a) (.many w ps)
  | one {a : Addr} {u : UW} {x : V} {p : PlanD} : SqT K H a (.str u.word :: (u.nums.map V.int ++ [x])) → PlanV K H N x p → PlanV K H N (.ref a) (.one u p)
  | watch {a : Addr} {l : Int} {x y : V} {s p : PlanD} : SqT K H a [.str "watch", .int l, x, y] → PlanV K H N x s → PlanV K H N y p → PlanV K H N (.ref a) (.watch l s p)
inductive PlanVs (K : PySem.W.Frag) (H : Hp) (N : Addr → Prop) : List V → PlanL → Prop where
  | nil : PlanVs K H N [] .nil
  | cons {x : V} {xs : List V} {p : PlanD} {ps : PlanL} : PlanV K H N x p → PlanVs K H N xs ps → PlanVs K H N (x :: xs) (.cons p ps)
end
section
variable {K : PySem.W.Frag} {H H' : Hp} {N : Addr → Prop}
mutual
theorem planV_tr {M : Addr → Prop} (tk : TK H H') (kp : ∀ l xs, N l → H l = some (.lst xs) → H' l = some (.lst xs)) (im : ∀ l xs, N l → H l = some (.lst xs) → M l) : ∀ {v : V} {p : PlanD}, PlanV K H N v p → PlanV K H' M v p
  | _, _, .task S => .task (sqT_tk S tk)
  | _, _, .many S n L P => .many (sqT_tk S tk) (im _ _ n L) (kp _ _ n L) (planVs_tr tk kp im P)
  | _, _, .one S P => .one (sqT_tk S tk) (planV_tr tk kp im P)
  | _, _, .watch S P Q => .watch (sqT_tk S tk) (planV_tr tk kp im P) (planV_tr tk kp im Q)
theorem planVs_tr {M : Addr → Prop} (tk : TK H H') (kp : ∀ l xs, N l → H l = some (.lst xs) → H' l = some (.lst xs)) (im : ∀ l xs, N l → H l = some (.lst xs) → M l) : ∀ {v : List V} {p : PlanL}, PlanVs K H N v p → PlanVs K H' M v p
  | _, _, .nil => .nil
  | _, _, .cons P Q => .cons (planV_tr tk kp im P) (planVs_tr tk kp im Q)
end
theorem planV_same {v : V} {p : PlanD} (h : PlanV K H N v p) (s : Same H H') : PlanV K H' N v p := planV_tr (same_tk s) (fun _ _ _ e => s _ _ e) (fun _ _ n _ => n) h
theorem planVs_same {v : List V} {p : PlanL} (h : PlanVs K H N v p) (s : Same H H') : PlanVs K H' N v p := planVs_tr (same_tk s) (fun _ _ _ e => s _ _ e) (fun _ _ n _ => n) h
theorem planV_any {M : Addr → Prop} {v : V} {p : PlanD} (h : PlanV K H N v p) (im : ∀ l xs, N l → H l = some (.lst xs) → M l) : PlanV K H M v p := planV_tr (same_tk (Same.refl _)) (fun _ _ _ e => e) im h
theorem planVs_len : ∀ {xs : List V} {ps : PlanL}, PlanVs K H N xs ps → xs.length = ps.list.length
  | _, _, .nil => rfl
  | _, _, .cons _ r => by
    show _ + 1 = _ + 1
    rw [planVs_len r]
theorem planVs_get : ∀ {xs : List V} {ps : PlanL}, PlanVs K H N xs ps → ∀ {i : Nat} {x : V}, xs[i]? = some x → ∃ p, ps.list[i]? = some p ∧ PlanV K H N x p
  | _, _, .nil, i, x, h => by simp at h
  | _, _, .cons P r, 0, x, h => by
    have h' := Option.some.inj h
    subst h'
    exact ⟨_, rfl, P⟩
  | _, _, .cons P r, i + 1, x, h => planVs_get r (i := i) h
theorem planVs_snoc : ∀ {xs : List V} {ps : List PlanD} {x : V} {p : PlanD}, PlanVs K H N xs (PlanL.of ps) → PlanV K H N x p → PlanVs K H N (xs ++ [x]) (PlanL.of (ps ++ [p]))
  | _, [], x, p, h, P => by
    cases h
    exact .cons P .nil
  | _, q :: ps, x, p, h, P => by
    cases h with
    | cons A B => exact .cons A (planVs_snoc B P)
theorem planV_ref {v : V} {p : PlanD} (h : PlanV K H N v p) : ∃ a, v = .ref a := by cases h <;> exact ⟨_, rfl⟩
end
end Q7
set_option maxRecDepth 100000
set_option maxHeartbeats 4000000
namespace Q7
open PySem PySem.Spec PyProof.Rows L2
/-! ### sets of texts: L its members, each once -/
def txtE (e : Int × Value) : Str := match e.2 with
  | .str x _ => x
  | _ => Str.empty
def EntS (w : World) (e : Int × Value) : Prop := ∃ (x : Str) (tk : Tok), e.2 = Value.str x tk ∧ e.1 = hashStr w x
/-- entries and a table that the set may hold -/
structure TabS (w : World) (es : Array (Int × Value)) (t : SetTable) (L : List Str) : Prop where
  good : ∀ e ∈ es.toList, EntS w e
  mem : (es.toList.map txtE).Perm L
  once : L.Nodup
  few : es.size < scanBound
  fits : t.fits es.size = true
  rise : Ris t.place.toList
  led : w.params.followText "set-order" = true ∨ t.led = true
def SetS (w : World) (h : Heap) (a : Addr) (L : List Str) : Prop := ∃ o es ep t, h.get? a = some o ∧ o.ExactSet ∧ o.data = .set es ep t ∧ TabS w es t L
section
variable {P : Program} {w : World} {A : Around} {E : Value → Shared → Prop} {s : Shared} {a : Addr} {L : List Str}
theorem SetS.keep {h h' : Heap} (R : SetS w h a L) (k : ∀ o, h.get? a = some o → h'.get? a = some o) : SetS w h' a L := by
  obtain ⟨o, es, ep, t, ho, r⟩ := R
  exact ⟨o, es, ep, t, k o ho, r⟩
theorem TabS.size {es : Array (Int × Value)} {t : SetTable} (T : TabS w es t L) : es.size = L.length := by
  have e := T.mem.length_eq
  rw [List.length_map, Array.length_toList] at e
  exact e
theorem TabS.elems {es : Array (Int × Value)} {t : SetTable} (T : TabS w es t L) : ElemsOf (strKind P w) es.toList := by
  intro e he
  obtain ⟨x, tk, h1, h2⟩ := T.good e he
  refine ⟨⟨x, ?_, h2⟩, ?_⟩
  · rw [h1]
    exact beq_self_eq_true x
  · rw [h1]
    rfl
theorem entS_is {e : Int × Value} (g : EntS w e) (y : Str) : (strKind P w).is y e.2 = decide (txtE e = y) := by
  obtain ⟨x, tk, h1, _⟩ := g
  unfold txtE
  rw [h1]
  show (x == y) = decide (x = y)
  rw [Bool.eq_iff_iff]
  simp
theorem TabS.has {es : Array (Int × Value)} {t : SetTable} (T : TabS w es t L) (y : Str) : y ∈ L ↔ ∃ e ∈ es.toList, (strKind P w).is y e.2 = true := by
  rw [← T.mem.mem_iff, List.mem_map]
  constructor
  · rintro ⟨e, he, q⟩
    exact ⟨e, he, by rw [entS_is (T.good e he)]; exact decide_eq_true q⟩
  · rintro ⟨e, he, q⟩
    rw [entS_is (T.good e he)] at q
    exact ⟨e, he, of_decide_eq_true q⟩
theorem setS_of {h : Heap} {o : Obj} {es es' : Array (Int × Value)} {ep : Nat} {t t' : SetTable} (ho : h.get? a = some o) (hx : o.ExactSet) (hd : o.data = .set es ep t) (T : TabS w es' t' L) : SetS w (h.update a (Obj.putSet es' t')) a L ∧
    ∃ o', (h.update a (Obj.putSet es' t')).get? a = some o' ∧ o'.ExactSet ∧ o'.data = .set es' (ep + 1) t' := by
  have at_ := Heap.get?_update_self (Obj.putSet es' t') ho (by rw [putSet_of es' t' hd]; rfl)
  rw [putSet_of es' t' hd] at at_
  exact ⟨⟨_, es', ep + 1, t', at_, hx, rfl, T⟩, _, at_, hx, rfl⟩
/-- a member more: the table is stored, and laid anew if it is too full -/
theorem setS_store {es es1 : Array (Int × Value)} {ep : Nat} {t t1 : SetTable} {o : Obj} {b : Bool} {g : Bool → Sem Unit} (hg : ∀ (c : Bool) (s₁ : Shared) (Q' : Unit → Shared → Prop), Q' () s₁ → wpAny (model P w) A (g c) Q' E s₁)
    (ho : s.heap.get? a = some o) (hx : o.ExactSet) (hd : o.data = .set es ep t) (T : TabS w es1 t1 L) {R : Option Bool → Shared → Prop} (hR : ∀ h', Heap.SameBut a s.heap h' → SetS w h' a L → R (some true) { s with heap := h' }) :
    wpAny (model P w) A (do
      storeSet a es1 t1
      if (!b && t1.tooFull) = true then do
        g (relayAll t1 es1 (SetTable.grown es1.size)).2.2
        storeSet a (relayAll t1 es1 (SetTable.grown es1.size)).1 (relayAll t1 es1 (SetTable.grown es1.size)).2.1
        pure (some true)
      else pure (some true)) R E s := by
  have first_ := Heap.SameBut.update s.heap a (Obj.putSet es1 t1)
  obtain ⟨R1, o1, at1, x1, d1⟩ := setS_of ho hx hd T
  apply wpAny_bind
  apply wpAny_storeSet_of ho hd _ (fits_of_scanBound T.few)
  by_cases full : (!b && t1.tooFull) = true
  · rw [if_pos full]
    have perm := relayAll_perm t1 es1 (SetTable.grown es1.size)
    have T2 : TabS w (relayAll t1 es1 (SetTable.grown es1.size)).1 (relayAll t1 es1 (SetTable.grown es1.size)).2.1 L := by
      refine ⟨fun e he => T.good e (perm.mem_iff.mp he), (perm.map txtE).trans T.mem, T.once, ?_, relayAll_fits t1 es1 _, relayAll_ris t1 es1 _, ?_⟩
      · have e := perm.length_eq
        rw [Array.length_toList, Array.length_toList] at e
        rw [e]
        exact T.few
      · rw [relayAll_led]
        exact T.led
    apply wpAny_bind
    apply hg
    apply wpAny_bind
    apply wpAny_storeSet_of at1 d1 _ (fits_of_scanBound T2.few)
    apply wpAny_pure
    exact hR _ (first_.trans (Heap.SameBut.update _ a _)) (setS_of at1 x1 d1 T2).1
  · rw [if_neg full]
    apply wpAny_pure
    exact hR _ first_ R1
def addT (L : List Str) (y : Str) : List Str := if y ∈ L then L else y :: L
theorem gave_ok (c : Bool) (s₁ : Shared) (Q' : Unit → Shared → Prop) (q : Q' () s₁) : wpAny (model P w) A (match c with | true => rule "set.scan.the-table-gave-way" | false => pure ()) Q' E s₁ := by
  cases c with
  | true => exact wpAny_rule q
  | false => exact wpAny_pure q
theorem setS_add {y : Str} {tk : Tok} {Q : Bool → Shared → Prop} (R : SetS w s.heap a L) (room : L.length + 1 < scanBound) (hQ : ∀ h', Heap.SameBut a s.heap h' → SetS w h' a (addT L y) → ∀ b, Q b { s with heap := h' }) :
    wpAny (model P w) A (setAddHashed a (.str y tk) (hashStr w y)) Q E s := by
  obtain ⟨o, es, ep, t, ho, hx, hd, T⟩ := R
  have key : (strKind P w).is y (.str y tk) = true := beq_self_eq_true y
  have elems := T.elems (P := P)
  unfold setAddHashed setAddHashedIn
  apply wpAny_holding
  apply wpAny_bind
  apply wpAny_setState_of ho hd T.fits
  dsimp only
  rw [byScan_of (knd := strKind P w) (x := .str y tk) rfl T.few elems]
  simp only [↓reduceIte]
  unfold setAddByScan
  apply wpAny_bind
  apply wpAny_bind
  apply wpAny_rule
  apply wpAny_bind
  refine wpAny_setScan_of (knd := strKind P w) key ho hd T.fits elems ?_
  by_cases hin : y ∈ L
  · have was : SetS w s.heap a (addT L y) := by
      unfold addT
      rw [if_pos hin]
      exact ⟨o, es, ep, t, ho, hx, hd, T⟩
    cases fi : es.toList.findIdx? (fun e => (strKind P w).is y e.2) with
    | none =>
      obtain ⟨e, he, q⟩ := (T.has (P := P) y).mp hin
      have no := List.findIdx?_eq_none_iff.mp fi e he
      rw [q] at no
      cases no
    | some j =>
      apply wpAny_pure
      apply wpAny_pure
      exact hQ _ (Heap.SameBut.refl a s.heap) was _
  · cases fi : es.toList.findIdx? (fun e => (strKind P w).is y e.2) with
    | some j =>
      obtain ⟨hj, pj, _⟩ := List.findIdx?_eq_some_iff_getElem.mp fi
      exact absurd ((T.has (P := P) y).mpr ⟨es.toList[j], List.getElem_mem hj, pj⟩) hin
    | none =>
      dsimp only
      have perm := layNew_perm t es (hashStr w y) (.str y tk)
      rw [Array.toList_push] at perm
      have perm2 := perm.trans (List.perm_append_singleton _ _)
      have size1 : (layNew t es (hashStr w y) (.str y tk)).1.size = L.length + 1 := by
        have e := perm2.length_eq
        rw [Array.length_toList, List.length_cons, Array.length_toList, T.size] at e
        exact e
      have T1 : TabS w (layNew t es (hashStr w y) (.str y tk)).1 (layNew t es (hashStr w y) (.str y tk)).2.1 (y :: L) := by
        refine ⟨fun e he => ?_, ?_, List.nodup_cons.mpr ⟨hin, T.once⟩, by rw [size1]; exact room, layNew_fits t es _ _, layNew_ris t es _ _ T.rise, ?_⟩
        · rcases List.mem_cons.mp (perm2.mem_iff.mp he) with q | q
          · rw [q]
            exact ⟨y, tk, rfl, rfl⟩
          · exact T.good e q
        · exact (perm2.map txtE).trans (List.Perm.cons y T.mem)
        · rw [layNew_led]
          exact T.led
      have T3 : TabS w (layNew t es (hashStr w y) (.str y tk)).1 { (layNew t es (hashStr w y) (.str y tk)).2.1 with plain := false } (y :: L) := ⟨T1.good, T1.mem, T1.once, T1.few, SetTable.fits_plain_off T1.fits, T1.rise, T1.led⟩
      have into : addT L y = y :: L := if_neg hin
      rw [into] at hQ
      generalize layNew t es (hashStr w y) (.str y tk) = Z at T1 T3 ⊢
      obtain ⟨es1, t1, wasDummy, gave⟩ := Z
      dsimp only at T1 T3 ⊢
      have T4 : ∀ v : Bool, TabS w es1 (if v = true then t1 else { t1 with plain := false }) (y :: L) := fun v => by
        cases v with
        | true => exact T1
        | false => exact T3
      have done_ : ∀ h', Heap.SameBut a s.heap h' → SetS w h' a (y :: L) → wpAny (model P w) A (pure true) Q E { s with heap := h' } := fun h' sb r => wpAny_pure (hQ h' sb r true)
      apply wpAny_bind
      refine gave_ok gave _ _ ?_
      by_cases pl : t1.plain = true
      · rw [if_pos pl]
        apply wpAny_bind
        rw [hashByValue_scannable 8 (x := .str y tk) rfl]
        apply wpAny_pure
        exact setS_store gave_ok ho hx hd (T4 _) done_
      · rw [if_neg pl]
        apply wpAny_bind
        apply wpAny_pure
        exact setS_store gave_ok ho hx hd (T4 _) done_
end
/-! ### new, grown, sorted -/
def setObj0 (w : World) : Obj := { cls := .type "set", dict := none, data := .set #[] 0 (.fresh 0 0 (!w.params.followText "set-order")) }
theorem setS_new {w : World} {h : Heap} {a : Addr} (e : h.get? a = some (setObj0 w)) : SetS w h a [] := by
  refine ⟨_, #[], 0, _, e, ⟨rfl, rfl, rfl⟩, rfl, ⟨fun e he => by simp at he, by simp, List.nodup_nil, by decide, rfl, List.Pairwise.nil, ?_⟩⟩
  show _ ∨ (!w.params.followText "set-order") = true
  cases w.params.followText "set-order" with
  | true => exact .inl rfl
  | false => exact .inr rfl
def SetSO (w : World) (a : Addr) (L : List Str) : HO := .ext fun h => SetS w h a L
theorem setSO_ok {w : World} {P : Program} {H : Hp} {h : Heap} {a : Addr} {L : List Str} (R : SetS w h a L) : ObjOk P w H h a (SetSO w a L) := by
  refine ⟨R, ?_, fun _ _ q k => SetS.keep q k⟩
  obtain ⟨o, _, _, _, e, _⟩ := R
  exact ⟨o, e⟩
section
variable {X : Cx} {pins : List (Addr × Obj)} {σ : L2.St} {H : Hp} {s : Shared} {a : Addr} {L : List Str}
theorem setSO_at (I : Inv X pins σ H s) (ha : H a = some (SetSO X.w a L)) : SetS X.w s.heap a L := (I.hok a _ ha).1
/-- s.add(y), as a comprehension calls it -/
theorem setSO_add {E : Value → Shared → Prop} {y : Str} {u : Value} {Q : Value → Shared → Prop} (I : Inv X pins σ H s) (ha : H a = some (SetSO X.w a L)) (room : L.length + 1 < scanBound) (ry : RelV (.str y) u)
    (h : ∀ s', Inv X pins σ (upd H a (SetSO X.w a (addT L y))) s' → Q .none s') : wpAny (model X.prog X.w) X.A (call (.builtin "set.add") [.ref a, u]) Q E s := by
  obtain ⟨tk, rfl⟩ := ry
  have R := setSO_at I ha
  have isSet : s.TypeIs (.ref a) "set" := by
    obtain ⟨o, _, _, _, e, ex, _⟩ := id R
    exact ⟨o, e, ex.1⟩
  refine wpAny_call_entry F.slot_set_add isSet F.entry_set_add ?_ (F.args_set_add_2 _ _)
  unfold Builtin.«set.add» Builtin.Frozenset.oneOther
  simp only [bind_assoc, List.isEmpty_nil]
  unfold Builtin.Frozenset.addrOf setAdd
  apply wpAny_bind
  apply wpAny_pure
  try dsimp only
  apply wpAny_bind
  apply wpAny_pure
  try dsimp only
  apply wpAny_bind
  apply wpAny_holding
  apply wpAny_bind
  apply wpAny_pyHash_str
  refine setS_add (s := { s with toks := s.toks + 1 }) R room fun h' sb r b => ?_
  refine wpAny_pure ⟨_, rfl, h _ (I.write (e := a) (t' := s.toks + 1) (by rw [ha]; trivial) (.inl rfl) (fun c o ne eo => (sb.2 c ne).trans eo) ?_ (setSO_ok r))⟩
  obtain ⟨o, _, _, _, e, _⟩ := r
  exact ⟨o, e⟩
def txtV : Value → Str
  | .str x _ => x
  | _ => Str.empty
theorem strs_all : ∀ {vs : List Value}, (∀ v ∈ vs, ∃ x tk, v = Value.str x tk) → StrsAre vs (vs.map txtV)
  | [], _ => .nil
  | v :: vs, g => by
    obtain ⟨x, tk, rfl⟩ := g v List.mem_cons_self
    exact .cons x tk (strs_all fun c hc => g c (List.mem_cons_of_mem _ hc))
/-- sorted(s) -/
theorem call_sortedSS {X : Cx} (calm : X.calm = true) : CallR X (.builtin "sorted") (fun xs H Q => ∃ (a : Addr) (L : List Str), xs = [.ref a] ∧ H a = some (SetSO X.w a L) ∧ L.length < 64 ∧
    ∀ ys p, ys.Perm L → sortedS ys = true → H p = none → Q (.ref p) (upd H p (.lst (ys.map V.str)))) := by
  intro pins s σ H xs us Q I r q
  obtain ⟨a, L, rfl, ha, few, q⟩ := q
  obtain ⟨u, rfl, ru⟩ := vals1 r
  obtain rfl : u = Value.ref a := ru
  obtain ⟨o, es, ep, t, ho, hx, hd, T⟩ := setSO_at I ha
  apply Calls.call_function_entry PyProof.Rows.kind_sorted PyProof.Rows.plain_sorted PyProof.Rows.entry_sorted (PyProof.Rows.args_sorted1 _)
  unfold Builtin.«sorted»
  apply wpAny_bind (m := checkCount "sorted" 1 1 _)
  apply wpAny_pure
  apply wpAny_bind
  refine collect_set (A := X.A.in1) (I.ok.hd calm) ⟨o, ho, hx.1, hd⟩ T.fits T.few T.rise T.led fun s1 vs k1 _ g1 o1 pm => ?_
  have ofText : StrsAre vs (vs.map txtV) := strs_all fun v hv => by
    obtain ⟨e, he, q⟩ := List.mem_map.mp (pm.mem_iff.mp hv)
    obtain ⟨x, tk, h1, _⟩ := T.good e he
    exact ⟨x, tk, q.symm.trans h1⟩
  have permL : (vs.map txtV).Perm L := by
    have z := pm.map txtV
    rw [List.map_map] at z
    exact z.trans T.mem
  have lens : vs.length = L.length := by rw [← permL.length_eq, List.length_map]
  have I1 : Inv X pins σ H s1 := I.call' (ch := []) o1 (Un.kept k1) (I.hok.kept k1) (by rw [g1]; exact I.bare) (fun _ z => nomatch z)
  have size_ : vs.length ≤ sizeLine := by
    rw [lens, sizeLine_eq]
    omega
  apply wpAny_bind
  refine wpAny_newList ?_ size_
  have laid_ : (s1.heap.push (seqObj "list" vs.toArray 0)).get? s1.heap.objs.size = some (seqObj "list" vs.toArray 0) := Heap.get?_push_size _ rfl
  apply wpAny_bind
  apply wpAny_holding
  refine wpAny_call_entry PyProof.Rows.slot_list_sort ⟨_, laid_, rfl⟩ PyProof.Rows.entry_list_sort (list_sort_treeK strKind_oneLt laid_ ofText.keysOf (fun _ _ _ e => keyKind_strs (by rw [← e]; exact ofText)) (by rw [lens]; exact few) fun out p1 p2 => ⟨_, rfl, ?_⟩) (PyProof.Rows.args_list_sort _)
  obtain ⟨ys, y1, y2, y3⟩ := sorted_out_str ofText p1 p2
  obtain ⟨c, at_⟩ := PyProof.Rows.sortedHeap_at (vs := vs) (out := (arrOf out).map (·.2)) laid_
  have ysize : (ys.map V.str).length ≤ sizeLine := by
    rw [List.length_map, y2.length_eq, List.length_map]
    exact size_
  refine wpAny_pure ⟨_, rfl, .ref s1.heap.objs.size, upd H s1.heap.objs.size (.lst (ys.map V.str)), I1.laid (t' := s1.toks) (fun b u e => ?_) (Nat.le_refl _)
    (show ObjOk X.prog X.w _ _ _ (.lst (ys.map V.str)) from ⟨ysize, ((arrOf out).map (·.2)).toList, c, vals_of_strs y1, by rw [Array.toArray_toList]; exact at_⟩), rfl, q ys _ (y2.trans permL) y3 (I1.hok.fresh (Nat.le_refl _))⟩
  have below := Heap.lt_size e
  rw [PyProof.Rows.sortedHeap_old (Nat.ne_of_lt below) (Nat.lt_of_lt_of_eq (Nat.lt_succ_of_lt below) (size_push' _ _).symm)]
  exact Heap.get?_push_of_some _ e
end
end Q7
set_option maxRecDepth 100000
set_option maxHeartbeats 4000000
namespace Q7
open PySem PySem.Spec PyProof.Rows L2
/-! ### {x for .. in ..}, texts -/
/-- a turn's reading: D the set -/
def TurnS (w : World) (D : Addr) (g : TG) (tt : TT) (te : TE) (vs : List Nat) (σ : L2.St) (Nx : Hp → Prop) (x : V) (H' : Hp) : Prop :=
  g x (wipe σ vs) H' fun σ2 H2 => wipe σ2 vs = wipe σ vs ∧ tt σ2 H2 fun b H3 =>
    if b = true then te σ2 H3 fun y H4 => ∃ (z : Str) (L : List Str), y = .str z ∧ H4 D = some (SetSO w D L) ∧ L.length + 1 < scanBound ∧ Nx (upd H4 D (SetSO w D (addT L z))) else Nx H3
def tSetC (w : World) (wi : TI) (g : TG) (tt : TT) (te : TE) (vs : List Nat) : TE := fun σ H Q => wi σ H fun J H1 => ∀ D, H1 D = none → ∃ W : Nat → Nat → Hp → Prop, (∃ m, W 0 m (upd H1 D (SetSO w D []))) ∧ ∀ i m H, W i m H →
  (J.stop i H ∧ Q (.ref D) H) ∨ (J.go i H ∧ ∃ Nx : Hp → Prop, (∀ H', Nx H' → ∃ m', m' < m ∧ W (i + 1) m' H') ∧ ∀ x H', J.yld i H x H' → TurnS w D g tt te vs σ Nx x H')
section
variable {X : Cx} {elt tg iter : Expr} {ifs : List Expr} {scope : Scope} {own : List (PySem.Str × Nat)} {pos : Pos} {wi : TI} {g : TG} {tt : TT} {te : TE}
theorem pe_setc (calm : X.calm = true) (nd : X.N.Nodup) (hi : PI X tg iter wi) (blk : BlkOk X.N X.env.scope scope own)
    (rg : ∀ (s : Shared) (H : Hp) (C : Addr) (cl : List (PySem.Str × Addr)) (fp : List Addr), PG (X.blk s H scope (compEnvC scope cl C X.env) fp) tg g)
    (rt : ∀ (s : Shared) (H : Hp) (C : Addr) (cl : List (PySem.Str × Addr)) (fp : List Addr), PTs (X.blk s H scope (compEnvC scope cl C X.env) fp) ifs tt)
    (re : ∀ (s : Shared) (H : Hp) (C : Addr) (cl : List (PySem.Str × Addr)) (fp : List Addr), PE (X.blk s H scope (compEnvC scope cl C X.env) fp) elt te) (hs : ∀ x, foldedSetIterable iter X.env x = pure x := by intro _; rfl) :
    PE X (.SetComp elt [⟨tg, iter, ifs, 0⟩] scope pos) (tSetC X.w wi g tt te (own.map (·.2))) := by
  constructor
  intro pins s σ H Q I h
  rw [PpSet.eval_SetComp]
  have captured : ∀ y ∈ scope.names, y.2 = .free → ∃ c, X.env.cells.lookup y.1 = some c := by
    intro y hy e
    exact (blk.free y hy e).elim (fun k => I.ok.has _ (.inl k)) fun k => I.ok.has _ (.inr k)
  apply wpAny_comprehension_free rfl hs (closure_ok captured) blk.kind
  · intro y hy e
    rw [blk.uniq y hy, e]
  apply thn (hi.run pins s σ H _ I h)
  intro xv s1 reading
  apply thn reading
  rintro itv s2 ⟨it, fp, tn, J, H2, rfl, I2, T, st2, f2, q⟩
  apply PpSet.newSet_ok
  obtain ⟨s3, name3⟩ : ∃ s3 : Shared, s3 = { s2 with heap := s2.heap.push (setObj0 X.w) } := ⟨_, rfl⟩
  change wpAny _ _ _ _ _ { s2 with heap := s2.heap.push (setObj0 X.w) }
  rw [← name3]
  have e3 : s3.heap = s2.heap.push (setObj0 X.w) := by rw [name3]
  apply newEnv_comp
  have free_ : H2 s2.heap.objs.size = none := I2.hok.fresh (Nat.le_refl _)
  obtain ⟨W, ⟨m0, w0⟩, turn⟩ := q _ free_
  have grown : ∀ b o, s2.heap.get? b = some o → s3.heap.get? b = some o := fun b o e => by
    rw [e3]
    exact Heap.get?_push_of_some _ e
  have I3 : Inv X pins σ (upd H2 s2.heap.objs.size (SetSO X.w s2.heap.objs.size [])) s3 := by
    rw [name3]
    exact I2.laid (t' := s2.toks) (fun b o e => Heap.get?_push_of_some _ e) (Nat.le_refl _) (setSO_ok (setS_new (Heap.get?_push_size _ rfl)))
  have f3 : ∀ b ∈ fp, FpOk X pins (upd H2 s2.heap.objs.size (SetSO X.w s2.heap.objs.size [])) b ∧ b < s3.heap.objs.size := by
    intro b hb
    have lt := Heap.lt_size (T.obj _ _ st2 b hb).choose_spec.1
    refine ⟨⟨(upd_ne (Nat.ne_of_lt lt)).trans (f2 b hb).1, (f2 b hb).2⟩, ?_⟩
    rw [e3, Heap.size_push]
    exact Nat.lt_succ_of_lt lt
  have st3 : tn 0 s3.heap := T.keep _ _ _ st2 fun b _ o e => grown b o e
  generalize upd H2 s2.heap.objs.size (SetSO X.w s2.heap.objs.size []) = H3 at w0 I3 f3
  generalize s2.heap.objs.size = D at turn ⊢
  have I4 := block_start I3 blk nd f3
  have tgt := rg s3 H3 s3.heap.objs.size (cellsFrom (s3.heap.objs.size + 1) scope.names (cloFrom X.env.cells scope.names [])) fp
  have tests := rt s3 H3 s3.heap.objs.size (cellsFrom (s3.heap.objs.size + 1) scope.names (cloFrom X.env.cells scope.names [])) fp
  have elem := re s3 H3 s3.heap.objs.size (cellsFrom (s3.heap.objs.size + 1) scope.names (cloFrom X.env.cells scope.names [])) fp
  have st4 : tn 0 (pushCells (s3.heap.push { cls := .type "dict", data := .dict #[] }) scope.names) := T.keep _ _ _ st3 fun b _ o e => pushCells_keeps _ _ _ _ (Heap.get?_push_of_some _ e)
  change codeAny _ _ (.compStart (.SetComp elt [⟨tg, iter, ifs, 0⟩] scope pos) 0 (.ref it) (.ref D) (compEnvC scope (cellsFrom (s3.heap.objs.size + 1) scope.names (cloFrom X.env.cells scope.names [])) s3.heap.objs.size X.env))
    (compPost (model X.prog X.w) X.A X.xe none (EP X pins σ Q) (.ref D) s3.heap.objs.size) { s3 with heap := pushCells (s3.heap.push { cls := .type "dict", data := .dict #[] }) scope.names }
  have place : (compEnvC scope (cellsFrom (s3.heap.objs.size + 1) scope.names (cloFrom X.env.cells scope.names [])) s3.heap.objs.size X.env).locals = s3.heap.objs.size := rfl
  generalize compEnvC scope (cellsFrom (s3.heap.objs.size + 1) scope.names (cloFrom X.env.cells scope.names [])) s3.heap.objs.size X.env = env at place I4 tgt tests elem ⊢
  obtain ⟨s4, name4⟩ : ∃ s4 : Shared, s4 = { s3 with heap := pushCells (s3.heap.push { cls := .type "dict", data := .dict #[] }) scope.names } := ⟨_, rfl⟩
  rw [← name4] at I4 ⊢
  have st4 : tn 0 s4.heap := by
    rw [name4]
    exact st4
  -- between the turns
  let At : Nat → Shared → Prop := fun n s' => ∃ i H', Inv (X.blk s3 H3 scope env fp) [] (wipe σ (own.map (·.2))) H' s' ∧ tn i s'.heap ∧ (∀ b ∈ fp, H' b = none) ∧ W i n H'
  have still : ∀ {σ' : L2.St} {H' : Hp} {s' : Shared}, Inv (X.blk s3 H3 scope env fp) [] σ' H' s' → (∀ b ∈ fp, H' b = none) → ∀ b ∈ fp, FpOk (X.blk s3 H3 scope env fp) [] H' b := by
    intro σ' H' s' I' no b hb
    have outer_ := I'.ok.exf b hb
    exact ⟨no b hb, outer_.1, I'.ok.exfs b hb, .inl hb, fun x c e => outer_.2 x c e, fun p hp => nomatch (show p ∈ ([] : List (Addr × Obj)) from hp)⟩
  have turns : codeAny (model X.prog X.w) X.A (.compLoop (.SetComp elt [⟨tg, iter, ifs, 0⟩] scope pos) 0 (.ref it) (.ref D) env) (compPost (model X.prog X.w) X.A X.xe none (EP X pins σ Q) (.ref D) s3.heap.objs.size) s4 := by
    apply PpSet.compLoopS_any At _ m0 ⟨0, H3, I4, st4, fun b hb => (f3 b hb).1.1, w0⟩
    rintro n s5 ⟨i, H5, I5, st5, n5, w5⟩
    cases turn i n H5 w5 with
    | inl last_ =>
      obtain ⟨stop, qq⟩ := last_
      apply thnF (T.done (X.blk s3 H3 scope env fp) rfl rfl rfl calm i [] s5 _ H5 (fun _ _ => False) I5 (still I5 n5) st5 stop)
      rintro r s6 ⟨rfl, I6⟩
      have I7 : Inv X pins σ H5 s6 := I3.call' (ch := fp) I6.os I6.base I6.hok I6.bare fun b hb => by
        obtain ⟨_, p1, p2, p3, p4, p5⟩ := (f3 b hb).1
        exact ⟨p3, p1, p4, p5⟩
      obtain ⟨m, named, _⟩ := I6.loc
      have named : s6.heap.Ns env.locals m := named
      have noC : H5 env.locals = none := I6.free
      rw [place] at named noC
      obtain ⟨c0, c1, c2, c3, c4, c5⟩ := I3.fpOk (Nat.le_refl _) noC
      refine ⟨m, named, fun h2 sb => ?_⟩
      exact ⟨.ref D, H5, I7.turned (t' := s6.toks) (fun b o ne e => (sb.2 b ne).trans e) c0 c1 c3 c4 c5, rfl, qq⟩
    | inr more_ =>
      obtain ⟨go, Nx, hNx, step⟩ := more_
      apply thnF (T.item (X.blk s3 H3 scope env fp) rfl rfl rfl calm i [] s5 _ H5 (fun _ _ => False) I5 (still I5 n5) st5 go)
      rintro r s6 ⟨u, rfl, h6⟩
      apply thnF h6
      rintro _ s7 ⟨x, H7, I7, r7, y7, st7, n7⟩
      have pinned_ := I7.pinned (still I7 n7) (T.obj _ _ st7)
      apply thnF (tgt.run _ s7 _ H7 x u _ pinned_ r7 (step x H7 y7))
      rintro _ s8 ⟨σ8, H8, I8, wiped, q8⟩
      apply thnF (tests.run _ s8 σ8 H8 _ I8 q8)
      rintro b s9 ⟨H9, I9, q9⟩
      have onward : ∀ {s' : Shared} {H' : Hp}, Inv (X.blk s3 H3 scope env fp) ([] ++ pinsAt fp s7.heap) σ8 H' s' → Nx H' → ∃ m, m < n ∧ At m s' := by
        intro s' H' I' nx
        obtain ⟨m1, less, w1⟩ := hNx H' nx
        have same_ : ∀ b ∈ fp, ∀ o, s7.heap.get? b = some o → s'.heap.get? b = some o ∧ H' b = none := by
          intro b hb o e
          have z := I'.pin (b, o) (List.mem_append_right _ (List.mem_append_right _ (mem_pinsAt hb e)))
          exact ⟨z.1, z.2.1⟩
        refine ⟨m1, less, i + 1, H', (I'.unpinned (pins := [])).weak ?_ (fun j v e => ?_), T.keep _ _ _ st7 (fun b hb o e => (same_ b hb o e).1), fun b hb => ?_, w1⟩
        · rw [← wiped, wipe_length]
        · rw [← wiped] at e
          exact (wipe_some e).1
        · obtain ⟨o, e, _⟩ := T.obj _ _ st7 b hb
          exact (same_ b hb o e).2
      cases b with
      | false => exact onward I9 q9
      | true =>
        apply thnF (elem.run _ s9 σ8 H9 _ I9 q9)
        rintro y s10 ⟨yv, H10, I10, r10, z, L, rfl, hD, room, nx⟩
        exact setSO_add (X := X.blk s3 H3 scope env fp) I10 hD room r10 fun s11 I11 => onward I11 nx
  exact PpSet.codeAny_compStart_set turns (T.self X.A 0 _ _ _ st4 turns)
end
end Q7
set_option maxRecDepth 100000
set_option maxHeartbeats 4000000
namespace Q7
open PySem PySem.Spec PyProof.Rows L2
def addAll (L : List Str) (xs : List Str) : List Str := xs.foldl addT L
theorem addT_len (L : List Str) (y : Str) : (addT L y).length ≤ L.length + 1 := by
  unfold addT
  split
  · omega
  · rw [List.length_cons]
    omega
theorem addAll_len : ∀ (xs L : List Str), (addAll L xs).length ≤ L.length + xs.length
  | [], L => by simp [addAll]
  | x :: xs, L => by
    have h1 := addAll_len xs (addT L x)
    have h2 := addT_len L x
    rw [List.length_cons]
    show (addAll (addT L x) xs).length ≤ _
    omega
theorem addAll_snoc (L xs : List Str) (y : Str) : addAll L (xs ++ [y]) = addT (addAll L xs) y := by
  unfold addAll
  rw [List.foldl_append]
  rfl
section
variable {prog : Program} {w : World} {A : Around} {E : Value → Shared → Prop} {s : Shared}
/-- a type called: __new__, then __init__ -/
theorem type_called {T newId initId : String} {args : List Value} {Q Q1 : Value → Shared → Prop} (facts : TypeCalled T newId initId) (asked : checkTypeCall T ⟨args, []⟩ = pure ())
    (makes : codeAny (model prog w) A.in1 (.call (.builtin newId) ⟨.type T :: args, []⟩) (wants Q1 E) s)
    (inits : ∀ obj s1, Q1 obj s1 → s1.TypeIs obj T ∧ codeAny (model prog w) A.in1 (.call (.builtin initId) ⟨obj :: args, []⟩) (wants (fun r s2 => r = .none ∧ Q obj s2) E) s1) : wpAny (model prog w) A (call (.type T) args) Q E s := by
  obtain ⟨c, tl, order⟩ := facts.mro
  have made := facts.made
  have isType := facts.sub
  have notType := facts.notType
  have canCreate := facts.canCreate
  apply wpAny_call
  apply codeAny_of_tree
  change wpAny _ _ (callAny (.type T) _) _ _ _
  refine wpAny_pure ⟨Code.quiet_builtin _ (by decide +kernel), codeAny_builtin F.entry_type_call ?_⟩
  rw [Around.under_plain (weight_type_call_type T args []) rfl]
  repeat any_goals first
    | assumption
    | wp_step
  apply codeAny_mono makes
  intro r s1 res
  match r, res with
  | .error _, res => exact res
  | .ok .next, res => exact res.elim
  | .ok .brk, res => exact res.elim
  | .ok .cont, res => exact res.elim
  | .ok (.ret obj), res =>
    obtain ⟨typ, ran⟩ := inits obj s1 res
    have look := facts.init.lookup
    have bnd := facts.init.bind obj
    repeat any_goals first
      | assumption
      | wp_step
    apply codeAny_mono ran
    intro r2 s2 res2
    match r2, res2 with
    | .error _, res2 => exact res2
    | .ok .next, res2 => exact res2.elim
    | .ok .brk, res2 => exact res2.elim
    | .ok .cont, res2 => exact res2.elim
    | .ok (.ret _), ⟨rfl, q⟩ =>
      repeat any_goals first
        | exact q
        | assumption
        | wp_step
theorem setS_update {I : Addr} {fp wr : List Addr} {G : Array GenState → Array GenState → Prop} {n : Nat} {Pv : Nat → Value → Prop} {St : Nat → Shared → Prop} {R : Result → Shared → Prop}
    (walk : WalksS prog w A.in1 I fp wr G n Pv St) (D : Addr) (apart : D ∉ fp) (xs : List Str) (many : n = xs.length) (room : xs.length + 1 < scanBound) (val : ∀ i v, Pv i v → ∃ x t, xs[i]? = some x ∧ v = .str x t)
    (end_ : ∀ s', (∀ b o, b ∉ D :: wr → s.heap.get? b = some o → s'.heap.get? b = some o) → G s.gens s'.gens → s'.os = s.os → s'.drawn = s.drawn → SetS w s'.heap D (addAll [] xs) → R (.ok (.ret .none)) s') :
    ∀ (k i : Nat) (s1 : Shared), n - i = k → i ≤ n → St i s1 → (∀ b o, b ∉ D :: wr → s.heap.get? b = some o → s1.heap.get? b = some o) → G s.gens s1.gens → s1.os = s.os → s1.drawn = s.drawn → SetS w s1.heap D (addAll [] (xs.take i)) →
      codeAny (model prog w) A (.builtin "set.update.loop" ⟨[.ref D, .ref I], []⟩) R s1 := by
  have off : D ∉ wr := fun h => apart (walk.sub _ h)
  intro k
  induction k with
  | zero =>
    intro i s1 ek le st kp gg oo dd R1
    have all_ : i = n := by omega
    subst all_
    rw [List.take_of_length_le (by omega)] at R1
    apply codeAny_builtin F.entry_set_update_loop
    rw [Around.under_plainId F.plain_set_update_loop _]
    change wpAny _ A.in1 (pyNext (.ref I) >>= _) _ _ s1
    apply wpAny_bind
    apply walk.done s1 _ _ st
    intro s2 mv
    apply wpAny_pure
    exact end_ s2 (fun b o nb e => mv.heap b o (fun z => nb (List.mem_cons_of_mem _ z)) (kp b o nb e)) (walk.gtrans _ _ _ gg mv.gens) (mv.os.trans oo) (mv.drawn.trans dd) (R1.keep fun o e => mv.heap D o off e)
  | succ k ih =>
    intro i s1 ek le st kp gg oo dd R1
    apply codeAny_builtin F.entry_set_update_loop
    rw [Around.under_plainId F.plain_set_update_loop _]
    change wpAny _ A.in1 (pyNext (.ref I) >>= _) _ _ s1
    apply wpAny_bind
    apply walk.item i s1 _ _ (by omega) st
    intro v s2 pv st2 mv
    obtain ⟨x, t, hx, rfl⟩ := val i v pv
    have R2 := R1.keep (fun o e => mv.heap D o off e)
    change wpAny _ A.in1 (holding [Value.str x t] (setAdd D (.str x t)) >>= _) _ _ s2
    apply wpAny_bind
    apply wpAny_holding
    unfold setAdd
    apply wpAny_holding
    apply wpAny_bind
    apply wpAny_pyHash_str
    have short := addAll_len (xs.take i) []
    rw [List.length_take, List.length_nil] at short
    refine setS_add (s := { s2 with toks := s2.toks + 1 }) R2 (by omega) fun h3 sb R3 b => ?_
    refine wpAny_pure ⟨plainId_quiet F.plain_set_update_loop _, ih (i + 1) _ (by omega) (by omega) (walk.frame _ s2 _ _ st2 (Nat.le_succ _) fun b hb o e => ?_) (fun b o nb e => ?_) (walk.gtrans _ _ _ gg mv.gens) (mv.os.trans oo) (mv.drawn.trans dd) ?_⟩
    · exact (sb.2 b (fun z => apart (z ▸ hb))).trans e
    · exact (sb.2 b (fun z => nb (by rw [z]; exact List.mem_cons_self))).trans (mv.heap b o (fun z => nb (List.mem_cons_of_mem _ z)) (kp b o nb e))
    · have next_ : xs.take (i + 1) = xs.take i ++ [x] := by rw [List.take_add_one, hx]; rfl
      rw [next_, addAll_snoc]
      exact R3
theorem strs_get : ∀ {vs : List Value} {xs : List Str}, StrsAre vs xs → ∀ (i : Nat) (v : Value), vs[i]? = some v → ∃ x t, xs[i]? = some x ∧ v = .str x t
  | _, _, .cons x t r, 0, v, e => ⟨x, t, rfl, (Option.some.inj e).symm⟩
  | _, _, .cons x t r, i + 1, v, e => strs_get r i v e
  | _, _, .nil, i, v, e => by simp at e
/-- set(l), l a list of texts -/
theorem call_setT {l : Addr} {items : Array Value} {xs : List Str} {Q : Value → Shared → Prop} (calm : A.handled = none) (hl : s.heap.IsList l items) (hi : StrsAre items.toList xs) (room : xs.length + 1 < scanBound)
    (h : ∀ h' tk, SetS w h' s.heap.objs.size (addAll [] xs) → (∀ b o, s.heap.get? b = some o → h'.get? b = some o) → Q (.ref s.heap.objs.size) { s with heap := h', toks := tk }) : wpAny (model prog w) A (call (.type "set") [.ref l]) Q E s := by
  apply type_called F.called_set (F.typeCall_set_1 _) (code_set_led1 (.ref l) (Q₁ := fun obj s1 => obj = .ref s.heap.objs.size ∧ s1 = { s with heap := s.heap.push (setObj0 w) }) ⟨rfl, rfl⟩)
  rintro obj s1 ⟨rfl, rfl⟩
  have fresh_ : (s.heap.push (setObj0 w)).get? s.heap.objs.size = some (setObj0 w) := Heap.get?_push_size _ rfl
  have isSet : Shared.TypeIs { s with heap := s.heap.push (setObj0 w) } (.ref s.heap.objs.size) "set" := ⟨_, fresh_, rfl⟩
  refine ⟨isSet, ?_⟩
  apply codeAny_call_builtin F.called_set.init.plain F.entry_set_init
  apply check_set_init_1 isSet
  have sizes : items.size = xs.length := by rw [← hi.len_eq, Array.length_toList]
  have hl1 := hl.push (setObj0 w)
  obtain ⟨lo, at_l, cls_l, n_l, dat_l⟩ := id hl
  have below : l < s.heap.objs.size := Heap.lt_size at_l
  have at1 := Heap.get?_push_of_some (setObj0 w) at_l
  rcases lo with ⟨lc, ld, ldt, lsl⟩
  dsimp only at cls_l dat_l
  subst cls_l
  subst dat_l
  have noSet := F.sub_list_set
  have noFrozen := F.sub_list_frozenset
  have noDict : (Value.type "list" == Value.type "dict") = false := by decide
  unfold Builtin.«set.__init__» noKeywords Builtin.Frozenset.updateFrom
  generalize iter_ : pyIter = PI
  wp_walk
  subst iter_
  apply wpAny_pyIter_list hl1
  apply wpAny_bind
  apply wpAny_runValue
  have sz1 : (s.heap.push (setObj0 w)).objs.size = s.heap.objs.size + 1 := size_push' _ _
  have neI : l ≠ (s.heap.push (setObj0 w)).objs.size := by
    rw [sz1]
    exact Nat.ne_of_lt (Nat.lt_succ_of_lt below)
  have calm3 : A.in1.in1.in1.handled = none := calm
  have apart : s.heap.objs.size ∉ [(s.heap.push (setObj0 w)).objs.size, l] := by
    simp only [List.mem_cons, List.not_mem_nil, or_false, not_or]
    rw [sz1]
    exact ⟨Nat.ne_of_lt (Nat.lt_succ_self _), Nat.ne_of_gt below⟩
  have walk := (Walks.list (prog := prog) (w := w) calm3 (s.heap.push (setObj0 w)).objs.size l neI items).toS
  have val : ∀ (i : Nat) (v : Value), items[i]? = some v → ∃ x t, xs[i]? = some x ∧ v = .str x t := by
    intro i v e
    have e2 : items.toList[i]? = some v := by rw [Array.getElem?_toList]; exact e
    exact strs_get hi i v e2
  refine setS_update walk s.heap.objs.size apart xs sizes room val (fun s2 kp gg oo dd R2 => ?_) (items.size - 0) 0 _ rfl (Nat.zero_le _) ⟨⟨_, Heap.get?_push_size _ rfl, rfl, rfl⟩, hl1.push _⟩ (fun b o _ e => e) rfl rfl rfl ?_
  · obtain ⟨h2, g2, d2, t2, os2⟩ := s2
    cases gg
    cases oo
    cases dd
    refine wpAny_pure (wpAny_pure ⟨rfl, h h2 t2 R2 fun b o e => kp b o ?_ ?_⟩)
    · have lt := Heap.lt_size e
      simp only [List.mem_cons, List.not_mem_nil, or_false, not_or]
      rw [sz1]
      exact ⟨Nat.ne_of_lt lt, Nat.ne_of_lt (Nat.lt_succ_of_lt lt)⟩
    · exact Heap.get?_push_of_some _ (Heap.get?_push_of_some _ e)
  · exact setS_new (Heap.get?_push_of_some _ fresh_)
end
theorem cr_setT {X : Cx} (calm : X.calm = true) : CallR X (.type "set") (fun as H Q => ∃ (l : Addr) (xs : List Str), as = [.ref l] ∧ SqL X.K H l (xs.map V.str) ∧ xs.length + 1 < scanBound ∧ ∀ p, H p = none → Q (.ref p) (upd H p (SetSO X.w p (addAll [] xs)))) := by
  intro pins s σ H as us Q I r h
  obtain ⟨l, xs, rfl, hl, room, q⟩ := h
  obtain ⟨u, rfl, ru⟩ := vals1 r
  obtain rfl : u = Value.ref l := ru
  obtain ⟨its, rel, pl, _⟩ := I.list hl
  refine call_setT (I.ok.hd calm) pl.isList (by rw [List.toList_toArray]; exact Vals.strs rel) room fun h2 tk R kp => ?_
  have none_ : H s.heap.objs.size = none := I.hok.fresh (Nat.le_refl _)
  exact ⟨.ref s.heap.objs.size, upd H s.heap.objs.size (SetSO X.w s.heap.objs.size (addAll [] xs)), I.laid (t' := tk) kp (Nat.le_refl _) (setSO_ok R), rfl, q _ none_⟩
/-! ### what such a set holds -/
theorem addT_mem {L : List Str} {y x : Str} : x ∈ addT L y ↔ x ∈ L ∨ x = y := by
  unfold addT
  split
  · rename_i h
    exact ⟨.inl, fun z => z.elim id fun e => e ▸ h⟩
  · rw [List.mem_cons]
    exact Or.comm
theorem addT_once {L : List Str} {y : Str} (h : L.Nodup) : (addT L y).Nodup := by
  unfold addT
  split
  · exact h
  · rename_i n
    exact List.nodup_cons.mpr ⟨n, h⟩
theorem addAll_mem : ∀ (xs L : List Str) (x : Str), x ∈ addAll L xs ↔ x ∈ L ∨ x ∈ xs
  | [], L, x => by simp [addAll]
  | y :: xs, L, x => by
    show x ∈ addAll (addT L y) xs ↔ _
    rw [addAll_mem xs, addT_mem, List.mem_cons, or_assoc]
theorem addAll_once : ∀ (xs L : List Str), L.Nodup → (addAll L xs).Nodup
  | [], _, h => h
  | y :: xs, L, h => addAll_once xs (addT L y) (addT_once h)
/-- over a list that the block leaves as it is -/
theorem setc_list {w : World} {K : PySem.W.Frag} {a : Addr} {xs : List V} {g : TG} {tt : TT} {te : TE} {vs : List Nat} {σ : L2.St} {H1 : Hp} {D : Addr} {Qd : Hp → Prop} (Pv : Nat → Hp → Prop) (h0 : Pv 0 (upd H1 D (SetSO w D []))) (hl : ∀ i H, i ≤ xs.length → Pv i H → SqL K H a xs)
    (hs : ∀ i x H, xs[i]? = some x → Pv i H → TurnS w D g tt te vs σ (Pv (i + 1)) x H) (hd : ∀ H, Pv xs.length H → Qd H) :
    ∃ W : Nat → Nat → Hp → Prop, (∃ m, W 0 m (upd H1 D (SetSO w D []))) ∧ ∀ i m H, W i m H →
      ((Itl K a).stop i H ∧ Qd H) ∨ ((Itl K a).go i H ∧ ∃ Nx : Hp → Prop, (∀ H', Nx H' → ∃ m', m' < m ∧ W (i + 1) m' H') ∧ ∀ x H', (Itl K a).yld i H x H' → TurnS w D g tt te vs σ Nx x H') := by
  refine ⟨fun i m H => m + i = xs.length ∧ Pv i H, ⟨xs.length, rfl, h0⟩, ?_⟩
  rintro i m H ⟨sum, p⟩
  have here := hl i H (by omega) p
  cases m with
  | zero =>
    have e : i = xs.length := by omega
    subst e
    exact .inl ⟨⟨xs, here, Nat.le_refl _⟩, hd H p⟩
  | succ m =>
    have lt : i < xs.length := by omega
    refine .inr ⟨⟨xs, xs[i], here, List.getElem?_eq_getElem lt⟩, Pv (i + 1), fun H' p' => ⟨m, Nat.lt_succ_self m, by omega, p'⟩, ?_⟩
    rintro x H' ⟨rfl, yl⟩
    exact hs i x _ (yl xs here) p
end Q7
namespace Q7
open PySem PySem.Spec PyProof.Rows L2
/-- (c = .., b = .., a = ..) of three parameters a, b, c -/
def rev3 {α : Type} (_ : List α) (ws : List α) : List α := match ws with
  | [a, b, c] => [c, b, a]
  | ws => ws
theorem rev3_rel {vs zs : List V} {us ws : List Value} (_ : Vals vs us) (h : Vals zs ws) : Vals (rev3 vs zs) (rev3 us ws) := by
  match zs, ws, h with
  | [], [], h => exact h
  | [_], [_], h => exact h
  | [_, _], [_, _], h => exact h
  | [a, b, c], [x, y, z], .cons r1 (.cons r2 (.cons r3 .nil)) => exact .cons r3 (.cons r2 (.cons r1 .nil))
  | _ :: _ :: _ :: _ :: _, _ :: _ :: _ :: _ :: _, h => exact h
end Q7
set_option maxRecDepth 100000
set_option maxHeartbeats 4000000
namespace L10
open PySem PySem.Spec PyProof.Rows L2 Q7
def top (i : Nat) : Stmt := PySem.Challenge.pw_prepaidplans_k10_names_and_task_paths.main.body.getD i (.Pass ⟨0, 0, 0, 0⟩)
abbrev s_is_whole : Stmt := top 2
abbrev s_is_between : Stmt := top 3
abbrev s_is_fraction : Stmt := top 14
abbrev s_sum_of : Stmt := top 15
abbrev s__reduced : Stmt := top 16
abbrev s__sum : Stmt := top 17
abbrev s_is_task : Stmt := top 27
abbrev s_check_tasks : Stmt := top 28
abbrev s_is_name : Stmt := top 29
abbrev s_is_known : Stmt := top 30
abbrev s_last_tick : Stmt := top 31
abbrev s__has_names : Stmt := top 32
abbrev s__is_money : Stmt := top 33
abbrev s__is_end : Stmt := top 34
abbrev s__is_end_word : Stmt := top 35
abbrev s__is_end_share : Stmt := top 36
abbrev s__are_ends : Stmt := top 37
abbrev s_fault_of : Stmt := top 44
abbrev s_names_in : Stmt := top 45
abbrev s_task_paths : Stmt := top 46
abbrev s_name_at : Stmt := top 47
abbrev s_check_plan : Stmt := top 48
abbrev s_check_size : Stmt := top 49
abbrev s_check_form : Stmt := top 50
abbrev s_steps_of : Stmt := top 51
abbrev s_all_steps_of : Stmt := top 52
abbrev s_named_paths : Stmt := top 53
abbrev s_is_path : Stmt := top 54
abbrev s__has_form : Stmt := top 55
abbrev s__has_numbers : Stmt := top 56
abbrev s__size : Stmt := top 57
abbrev s__span : Stmt := top 58
abbrev s__law_source : Stmt := top 60
abbrev s__law_draw : Stmt := top 61
abbrev s__law_tasks : Stmt := top 62
abbrev s__law_unary : Stmt := top 63
abbrev s__law_plan : Stmt := top 64
abbrev s__law_drawn : Stmt := top 65
abbrev s__law_inner : Stmt := top 66
abbrev s__law_size : Stmt := top 67
abbrev s__law_span : Stmt := top 68
abbrev s__law_excess : Stmt := top 69
abbrev s__law_paths : Stmt := top 70
abbrev s__law_told : Stmt := top 71
abbrev s__law_near : Stmt := top 72
abbrev s__law_right : Stmt := top 73
abbrev s__law_holds : Stmt := top 74
abbrev s_law : Stmt := top 75
theorem sc_is_whole : FnScope ["value"] ["value"] (defScope s_is_whole) := ⟨rfl, rfl, rfl, by decide +kernel, rfl, by decide +kernel, by decide +kernel⟩
theorem sc_is_between : FnScope ["value", "low", "high"] ["value", "low", "high"] (defScope s_is_between) := ⟨rfl, rfl, rfl, by decide +kernel, rfl, by decide +kernel, by decide +kernel⟩
theorem sc_is_fraction : FnScope ["value", "top", "bottom"] ["value"] (defScope s_is_fraction) := ⟨rfl, rfl, rfl, by decide +kernel, rfl, by decide +kernel, by decide +kernel⟩
theorem sc_sum_of : FnScope ["fractions", "total", "one"] ["fractions"] (defScope s_sum_of) := ⟨rfl, rfl, rfl, by decide +kernel, rfl, by decide +kernel, by decide +kernel⟩
theorem sc__reduced : FnScope ["top", "bottom", "divisor"] ["top", "bottom"] (defScope s__reduced) := ⟨rfl, rfl, rfl, by decide +kernel, rfl, by decide +kernel, by decide +kernel⟩
theorem sc__sum : FnScope ["one", "other"] ["one", "other"] (defScope s__sum) := ⟨rfl, rfl, rfl, by decide +kernel, rfl, by decide +kernel, by decide +kernel⟩
theorem sc_is_task : FnScope ["value", "cost", "undo", "ends"] ["value"] (defScope s_is_task) := ⟨rfl, rfl, rfl, by decide +kernel, rfl, by decide +kernel, by decide +kernel⟩
theorem sc_check_tasks : FnScope ["tasks", "name"] ["tasks"] (defScope s_check_tasks) := ⟨rfl, rfl, rfl, by decide +kernel, rfl, by decide +kernel, by decide +kernel⟩
theorem sc_is_name : FnScope ["value", "sign"] ["value"] (defScope s_is_name) := ⟨rfl, rfl, rfl, by decide +kernel, rfl, by decide +kernel, by decide +kernel⟩
theorem sc_is_known : FnScope ["tasks", "value"] ["tasks", "value"] (defScope s_is_known) := ⟨rfl, rfl, rfl, by decide +kernel, rfl, by decide +kernel, by decide +kernel⟩
theorem sc_last_tick : FnScope ["task"] ["task"] (defScope s_last_tick) := ⟨rfl, rfl, rfl, by decide +kernel, rfl, by decide +kernel, by decide +kernel⟩
theorem sc__has_names : FnScope ["value", "name"] ["value"] (defScope s__has_names) := ⟨rfl, rfl, rfl, by decide +kernel, rfl, by decide +kernel, by decide +kernel⟩
theorem sc__is_money : FnScope ["value"] ["value"] (defScope s__is_money) := ⟨rfl, rfl, rfl, by decide +kernel, rfl, by decide +kernel, by decide +kernel⟩
theorem sc__is_end : FnScope ["value", "tick", "word", "share"] ["value"] (defScope s__is_end) := ⟨rfl, rfl, rfl, by decide +kernel, rfl, by decide +kernel, by decide +kernel⟩
theorem sc__is_end_word : FnScope ["value"] ["value"] (defScope s__is_end_word) := ⟨rfl, rfl, rfl, by decide +kernel, rfl, by decide +kernel, by decide +kernel⟩
theorem sc__is_end_share : FnScope ["value"] ["value"] (defScope s__is_end_share) := ⟨rfl, rfl, rfl, by decide +kernel, rfl, by decide +kernel, by decide +kernel⟩
theorem sc__are_ends : FnScope ["value", "places", "ascend", "tick", "word", "_", "one", "other", "end", "share"] ["value"] (defScope s__are_ends) := ⟨rfl, rfl, rfl, by decide +kernel, rfl, by decide +kernel, by decide +kernel⟩
theorem sc_fault_of : FnScope ["tasks", "value", "seen", "waiting", "path", "level", "one", "inner", "step", "part"] ["tasks", "value"] (defScope s_fault_of) := ⟨rfl, rfl, rfl, by decide +kernel, rfl, by decide +kernel, by decide +kernel⟩
theorem sc_names_in : FnScope ["tasks", "plan", "_", "name"] ["tasks", "plan"] (defScope s_names_in) := ⟨rfl, rfl, rfl, by decide +kernel, rfl, by decide +kernel, by decide +kernel⟩
theorem sc_task_paths : FnScope ["tasks", "plan", "path", "_"] ["tasks", "plan"] (defScope s_task_paths) := ⟨rfl, rfl, rfl, by decide +kernel, rfl, by decide +kernel, by decide +kernel⟩
theorem sc_name_at : FnScope ["tasks", "plan", "path", "names", "one", "name"] ["tasks", "plan", "path"] (defScope s_name_at) := ⟨rfl, rfl, rfl, by decide +kernel, rfl, by decide +kernel, by decide +kernel⟩
theorem sc_check_plan : FnScope ["tasks", "plan"] ["tasks", "plan"] (defScope s_check_plan) := ⟨rfl, rfl, rfl, by decide +kernel, rfl, by decide +kernel, by decide +kernel⟩
theorem sc_check_size : FnScope ["tasks", "plan", "number"] ["tasks", "plan"] (defScope s_check_size) := ⟨rfl, rfl, rfl, by decide +kernel, rfl, by decide +kernel, by decide +kernel⟩
theorem sc_check_form : FnScope ["tasks", "plan", "path"] ["tasks", "plan"] (defScope s_check_form) := ⟨rfl, rfl, rfl, by decide +kernel, rfl, by decide +kernel, by decide +kernel⟩
theorem sc_steps_of : FnScope ["plan", "word", "index", "part"] ["plan"] (defScope s_steps_of) := ⟨rfl, rfl, rfl, by decide +kernel, rfl, by decide +kernel, by decide +kernel⟩
theorem sc_all_steps_of : FnScope ["plan", "index"] ["plan"] (defScope s_all_steps_of) := ⟨rfl, rfl, rfl, by decide +kernel, rfl, by decide +kernel, by decide +kernel⟩
theorem sc_named_paths : FnScope ["plan", "step", "part", "path", "name"] ["plan"] (defScope s_named_paths) := ⟨rfl, rfl, rfl, by decide +kernel, rfl, by decide +kernel, by decide +kernel⟩
theorem sc_is_path : FnScope ["value", "index"] ["value"] (defScope s_is_path) := ⟨rfl, rfl, rfl, by decide +kernel, rfl, by decide +kernel, by decide +kernel⟩
theorem sc__has_form : FnScope ["tasks", "value", "word"] ["tasks", "value"] (defScope s__has_form) := ⟨rfl, rfl, rfl, by decide +kernel, rfl, by decide +kernel, by decide +kernel⟩
theorem sc__has_numbers : FnScope ["value", "bounds", "plans", "number", "low", "high"] ["value"] (defScope s__has_numbers) := ⟨rfl, rfl, rfl, by decide +kernel, rfl, by decide +kernel, by decide +kernel⟩
theorem sc__size : FnScope ["plan", "_", "part"] ["plan"] (defScope s__size) := ⟨rfl, rfl, rfl, by decide +kernel, rfl, by decide +kernel, by decide +kernel⟩
theorem sc__span : FnScope ["tasks", "plan", "word", "inner", "part"] ["tasks", "plan"] (defScope s__span) := ⟨rfl, rfl, rfl, by decide +kernel, rfl, by decide +kernel, by decide +kernel⟩
theorem sc__law_source : FnScope ["cell", "k"] ["cell", "k"] (defScope s__law_source) := ⟨rfl, rfl, rfl, by decide +kernel, rfl, by decide +kernel, by decide +kernel⟩
theorem sc__law_draw : FnScope ["source", "wide", "digit", "first", "mixed"] ["source", "wide"] (defScope s__law_draw) := ⟨rfl, rfl, rfl, by decide +kernel, rfl, by decide +kernel, by decide +kernel⟩
theorem sc__law_tasks : FnScope ["source", "found", "k", "name", "late", "some"] ["source"] (defScope s__law_tasks) := ⟨rfl, rfl, rfl, by decide +kernel, rfl, by decide +kernel, by decide +kernel⟩
theorem sc__law_unary : FnScope ["source", "tries", "some"] ["source", "tries"] (defScope s__law_unary) := ⟨rfl, rfl, rfl, by decide +kernel, rfl, by decide +kernel, by decide +kernel⟩
theorem sc__law_plan : FnScope ["source", "names", "room", "levels", "tries", "word", "way", "many", "parts", "k", "side", "part"] ["source", "names", "room", "levels", "tries"] (defScope s__law_plan) := ⟨rfl, rfl, rfl, by decide +kernel, rfl, by decide +kernel, by decide +kernel⟩
theorem sc__law_drawn : FnScope ["source", "names", "tries", "room", "levels"] ["source", "names", "tries"] (defScope s__law_drawn) := ⟨rfl, rfl, rfl, by decide +kernel, rfl, by decide +kernel, by decide +kernel⟩
theorem sc__law_inner : FnScope ["tree", "k", "part"] ["tree"] (defScope s__law_inner) := ⟨rfl, rfl, rfl, by decide +kernel, rfl, by decide +kernel, by decide +kernel⟩
theorem sc__law_size : FnScope ["tree", "total", "step", "part"] ["tree"] (defScope s__law_size) := ⟨rfl, rfl, rfl, by decide +kernel, rfl, by decide +kernel, by decide +kernel⟩
theorem sc__law_span : FnScope ["some", "tree", "word", "spans", "step", "part", "end"] ["some", "tree"] (defScope s__law_span) := ⟨rfl, rfl, rfl, by decide +kernel, rfl, by decide +kernel, by decide +kernel⟩
theorem sc__law_excess : FnScope ["some", "tree", "number"] ["some", "tree"] (defScope s__law_excess) := ⟨rfl, rfl, rfl, by decide +kernel, rfl, by decide +kernel, by decide +kernel⟩
theorem sc__law_paths : FnScope ["tree", "found", "step", "part", "inner", "number", "ahead", "road", "name"] ["tree"] (defScope s__law_paths) := ⟨rfl, rfl, rfl, by decide +kernel, rfl, by decide +kernel, by decide +kernel⟩
theorem sc__law_told : FnScope ["some", "tree", "road", "caught", "e"] ["some", "tree", "road"] (defScope s__law_told) := ⟨rfl, rfl, rfl, by decide +kernel, rfl, by decide +kernel, by decide +kernel⟩
theorem sc__law_near : FnScope ["source", "road", "at", "odd", "one", "some", "found", "k", "part"] ["source", "road"] (defScope s__law_near) := ⟨rfl, rfl, rfl, by decide +kernel, rfl, by decide +kernel, by decide +kernel⟩
theorem sc__law_right : FnScope ["source", "some", "tree", "pairs", "held", "road", "name", "due", "names", "turn", "told", "one", "places", "texts_here", "k", "other", "is_one"] ["source", "some", "tree"] (defScope s__law_right) := ⟨rfl, rfl, rfl, by decide +kernel, rfl, by decide +kernel, by decide +kernel⟩
theorem sc__law_holds : FnScope ["source", "lap", "some", "tree", "held"] ["source"] (defScope s__law_holds) := ⟨rfl, rfl, rfl, by decide +kernel, rfl, by decide +kernel, by decide +kernel⟩
theorem sc_law : FnScope ["script", "k", "cell"] ["script"] (defScope s_law) := ⟨rfl, rfl, rfl, by decide +kernel, rfl, by decide +kernel, by decide +kernel⟩
def d_is_whole : He.DefD := ⟨("is_whole", none), "is_whole", "is_whole", defArgs s_is_whole, defBody s_is_whole, defScope s_is_whole, [], []⟩
def d_is_between : He.DefD := ⟨("is_between", none), "is_between", "is_between", defArgs s_is_between, defBody s_is_between, defScope s_is_between, [], []⟩
def d_is_fraction : He.DefD := ⟨("is_fraction", none), "is_fraction", "is_fraction", defArgs s_is_fraction, defBody s_is_fraction, defScope s_is_fraction, [], []⟩
def d_sum_of : He.DefD := ⟨("sum_of", none), "sum_of", "sum_of", defArgs s_sum_of, defBody s_sum_of, defScope s_sum_of, [], []⟩
def d__reduced : He.DefD := ⟨("_reduced", none), "_reduced", "_reduced", defArgs s__reduced, defBody s__reduced, defScope s__reduced, [], []⟩
def d__sum : He.DefD := ⟨("_sum", none), "_sum", "_sum", defArgs s__sum, defBody s__sum, defScope s__sum, [], []⟩
def d_is_task : He.DefD := ⟨("is_task", none), "is_task", "is_task", defArgs s_is_task, defBody s_is_task, defScope s_is_task, [], []⟩
def d_check_tasks : He.DefD := ⟨("check_tasks", none), "check_tasks", "check_tasks", defArgs s_check_tasks, defBody s_check_tasks, defScope s_check_tasks, [], []⟩
def d_is_name : He.DefD := ⟨("is_name", none), "is_name", "is_name", defArgs s_is_name, defBody s_is_name, defScope s_is_name, [], []⟩
def d_is_known : He.DefD := ⟨("is_known", none), "is_known", "is_known", defArgs s_is_known, defBody s_is_known, defScope s_is_known, [], []⟩
def d_last_tick : He.DefD := ⟨("last_tick", none), "last_tick", "last_tick", defArgs s_last_tick, defBody s_last_tick, defScope s_last_tick, [], []⟩
def d__has_names : He.DefD := ⟨("_has_names", none), "_has_names", "_has_names", defArgs s__has_names, defBody s__has_names, defScope s__has_names, [], []⟩
def d__is_money : He.DefD := ⟨("_is_money", none), "_is_money", "_is_money", defArgs s__is_money, defBody s__is_money, defScope s__is_money, [], []⟩
def d__is_end : He.DefD := ⟨("_is_end", none), "_is_end", "_is_end", defArgs s__is_end, defBody s__is_end, defScope s__is_end, [], []⟩
def d__is_end_word : He.DefD := ⟨("_is_end_word", none), "_is_end_word", "_is_end_word", defArgs s__is_end_word, defBody s__is_end_word, defScope s__is_end_word, [], []⟩
def d__is_end_share : He.DefD := ⟨("_is_end_share", none), "_is_end_share", "_is_end_share", defArgs s__is_end_share, defBody s__is_end_share, defScope s__is_end_share, [], []⟩
def d__are_ends : He.DefD := ⟨("_are_ends", none), "_are_ends", "_are_ends", defArgs s__are_ends, defBody s__are_ends, defScope s__are_ends, [], []⟩
def d_fault_of : He.DefD := ⟨("fault_of", none), "fault_of", "fault_of", defArgs s_fault_of, defBody s_fault_of, defScope s_fault_of, [], []⟩
def d_names_in : He.DefD := ⟨("names_in", none), "names_in", "names_in", defArgs s_names_in, defBody s_names_in, defScope s_names_in, [], []⟩
def d_task_paths : He.DefD := ⟨("task_paths", none), "task_paths", "task_paths", defArgs s_task_paths, defBody s_task_paths, defScope s_task_paths, [], []⟩
def d_name_at : He.DefD := ⟨("name_at", none), "name_at", "name_at", defArgs s_name_at, defBody s_name_at, defScope s_name_at, [], []⟩
def d_check_plan : He.DefD := ⟨("check_plan", none), "check_plan", "check_plan", defArgs s_check_plan, defBody s_check_plan, defScope s_check_plan, [], []⟩
def d_check_size : He.DefD := ⟨("check_size", none), "check_size", "check_size", defArgs s_check_size, defBody s_check_size, defScope s_check_size, [], []⟩
def d_check_form : He.DefD := ⟨("check_form", none), "check_form", "check_form", defArgs s_check_form, defBody s_check_form, defScope s_check_form, [], []⟩
def d_steps_of : He.DefD := ⟨("steps_of", none), "steps_of", "steps_of", defArgs s_steps_of, defBody s_steps_of, defScope s_steps_of, [], []⟩
def d_all_steps_of : He.DefD := ⟨("all_steps_of", none), "all_steps_of", "all_steps_of", defArgs s_all_steps_of, defBody s_all_steps_of, defScope s_all_steps_of, [], []⟩
def d_named_paths : He.DefD := ⟨("named_paths", none), "named_paths", "named_paths", defArgs s_named_paths, defBody s_named_paths, defScope s_named_paths, [], []⟩
def d_is_path : He.DefD := ⟨("is_path", none), "is_path", "is_path", defArgs s_is_path, defBody s_is_path, defScope s_is_path, [], []⟩
def d__has_form : He.DefD := ⟨("_has_form", none), "_has_form", "_has_form", defArgs s__has_form, defBody s__has_form, defScope s__has_form, [], []⟩
def d__has_numbers : He.DefD := ⟨("_has_numbers", none), "_has_numbers", "_has_numbers", defArgs s__has_numbers, defBody s__has_numbers, defScope s__has_numbers, [], []⟩
def d__size : He.DefD := ⟨("_size", none), "_size", "_size", defArgs s__size, defBody s__size, defScope s__size, [], []⟩
def d__span : He.DefD := ⟨("_span", none), "_span", "_span", defArgs s__span, defBody s__span, defScope s__span, [], []⟩
def d__law_source : He.DefD := ⟨("_law_source", none), "_law_source", "_law_source", defArgs s__law_source, defBody s__law_source, defScope s__law_source, [], []⟩
def d__law_draw : He.DefD := ⟨("_law_draw", none), "_law_draw", "_law_draw", defArgs s__law_draw, defBody s__law_draw, defScope s__law_draw, [], []⟩
def d__law_tasks : He.DefD := ⟨("_law_tasks", none), "_law_tasks", "_law_tasks", defArgs s__law_tasks, defBody s__law_tasks, defScope s__law_tasks, [], []⟩
def d__law_unary : He.DefD := ⟨("_law_unary", none), "_law_unary", "_law_unary", defArgs s__law_unary, defBody s__law_unary, defScope s__law_unary, [], []⟩
def d__law_plan : He.DefD := ⟨("_law_plan", none), "_law_plan", "_law_plan", defArgs s__law_plan, defBody s__law_plan, defScope s__law_plan, [], []⟩
def d__law_drawn : He.DefD := ⟨("_law_drawn", none), "_law_drawn", "_law_drawn", defArgs s__law_drawn, defBody s__law_drawn, defScope s__law_drawn, [], []⟩
def d__law_inner : He.DefD := ⟨("_law_inner", none), "_law_inner", "_law_inner", defArgs s__law_inner, defBody s__law_inner, defScope s__law_inner, [], []⟩
def d__law_size : He.DefD := ⟨("_law_size", none), "_law_size", "_law_size", defArgs s__law_size, defBody s__law_size, defScope s__law_size, [], []⟩
def d__law_span : He.DefD := ⟨("_law_span", none), "_law_span", "_law_span", defArgs s__law_span, defBody s__law_span, defScope s__law_span, [], []⟩
def d__law_excess : He.DefD := ⟨("_law_excess", none), "_law_excess", "_law_excess", defArgs s__law_excess, defBody s__law_excess, defScope s__law_excess, [], []⟩
def d__law_paths : He.DefD := ⟨("_law_paths", none), "_law_paths", "_law_paths", defArgs s__law_paths, defBody s__law_paths, defScope s__law_paths, [], []⟩
def d__law_told : He.DefD := ⟨("_law_told", none), "_law_told", "_law_told", defArgs s__law_told, defBody s__law_told, defScope s__law_told, [], []⟩
def d__law_near : He.DefD := ⟨("_law_near", none), "_law_near", "_law_near", defArgs s__law_near, defBody s__law_near, defScope s__law_near, [], []⟩
def d__law_right : He.DefD := ⟨("_law_right", none), "_law_right", "_law_right", defArgs s__law_right, defBody s__law_right, defScope s__law_right, [], []⟩
def d__law_holds : He.DefD := ⟨("_law_holds", none), "_law_holds", "_law_holds", defArgs s__law_holds, defBody s__law_holds, defScope s__law_holds, [], []⟩
def d_law : He.DefD := ⟨("law", none), "law", "law", defArgs s_law, defBody s_law, defScope s_law, [], []⟩
def fns : List He.DefD := [d_is_whole, d_is_between, d_is_fraction, d_sum_of, d__reduced, d__sum, d_is_task, d_check_tasks, d_is_name, d_is_known, d_last_tick, d__has_names, d__is_money, d__is_end, d__is_end_word, d__is_end_share, d__are_ends, d_fault_of, d_names_in, d_task_paths, d_name_at, d_check_plan, d_check_size, d_check_form, d_steps_of, d_all_steps_of, d_named_paths, d_is_path, d__has_form, d__has_numbers, d__size, d__span, d__law_source, d__law_draw, d__law_tasks, d__law_unary, d__law_plan, d__law_drawn, d__law_inner, d__law_size, d__law_span, d__law_excess, d__law_paths, d__law_told, d__law_near, d__law_right, d__law_holds, d_law]
def fas : List He.Fa := [.glo "is_whole", .glo "is_between", .glo "is_fraction", .glo "sum_of", .glo "_reduced", .glo "_sum", .glo "is_task", .glo "check_tasks", .glo "is_name", .glo "is_known", .glo "last_tick", .glo "_has_names", .glo "_is_money", .glo "_is_end", .glo "_is_end_word", .glo "_is_end_share", .glo "_are_ends", .glo "fault_of", .glo "names_in", .glo "task_paths", .glo "name_at", .glo "check_plan", .glo "check_size", .glo "check_form", .glo "steps_of", .glo "all_steps_of", .glo "named_paths", .glo "is_path", .glo "_has_form", .glo "_has_numbers", .glo "_size", .glo "_span", .glo "_law_source", .glo "_law_draw", .glo "_law_tasks", .glo "_law_unary", .glo "_law_plan", .glo "_law_drawn", .glo "_law_inner", .glo "_law_size", .glo "_law_span", .glo "_law_excess", .glo "_law_paths", .glo "_law_told", .glo "_law_near", .glo "_law_right", .glo "_law_holds", .glo "law", .glo "PlanError", .glo "InvalidName", .glo "InvalidTask", .glo "InvalidPath", .glo "InvalidTasks", .glo "InvalidPlan", .glo "TooLarge", .free "isinstance", .free "int", .free "bool", .free "tuple", .free "list", .free "dict", .free "str", .free "len", .free "all", .free "sorted", .free "range", .free "enumerate", .free "max", .free "min", .free "repr", .free "zip", .free "sum", .free "set", .free "ValueError"]
def exs : List Tst := [tKit "int" "int" true, tKit "tuple" "int" false, tKit "int" "bool" false, tKit "tuple" "tuple" true, tKit "list" "list" true, tKit "dict" "dict" true, tKit "str" "str" true, fun K => He.tupB K "ZERO" [.int 0, .int 1], fun K => He.tupB K "PLAN_WORDS" [.str "order", .str "other", .str "both", .str "race", .str "again", .str "within", .str "later", .str "keep", .str "easy", .str "back", .str "watch"], fun K => He.eqO (PySem.W.nsIn K mainGlobals "PLAN_WORDS") (some (some (.ref (He.ga K "PLAN_WORDS")))), fun K => He.tupB K "END_WORDS" [.str "done", .str "failed"], fun K => He.eqO (PySem.W.nsIn K mainGlobals "END_WORDS") (some (some (.ref (He.ga K "END_WORDS")))), tInt "MOST_MONEY" 1000000000000, tInt "MOST_TASKS" 12, tInt "MOST_LETTERS" 8, tInt "MOST_ENDS" 8, tInt "LAST_TICK" 30, tInt "MOST_BOTTOM" 1000, fun K => He.tupB K "LIST_WORDS" [.str "order", .str "other", .str "both", .str "race"], fun K => He.eqO (PySem.W.nsIn K mainGlobals "LIST_WORDS") (some (some (.ref (He.ga K "LIST_WORDS")))), tupA (entA "NUMBERS" "again") [.adr (itemA (entA "NUMBERS" "again") 0), .adr (itemA (entA "NUMBERS" "again") 1)], tupA (itemA (entA "NUMBERS" "again") 0) [.int 1, .int 20], tupA (itemA (entA "NUMBERS" "again") 1) [.int 0, .int 100], tupA (entA "NUMBERS" "within") [.adr (itemA (entA "NUMBERS" "within") 0)], tupA (itemA (entA "NUMBERS" "within") 0) [.int 0, .int 200], tupA (entA "NUMBERS" "later") [.adr (itemA (entA "NUMBERS" "later") 0)], tupA (itemA (entA "NUMBERS" "later") 0) [.int 0, .int 100], tupA (entA "NUMBERS" "keep") [], tupA (entA "NUMBERS" "easy") [], tupA (entA "NUMBERS" "back") [.adr (itemA (entA "NUMBERS" "back") 0)], tupA (itemA (entA "NUMBERS" "back") 0) [.int 0, .int 1000000000000], tupA (entA "NUMBERS" "watch") [.adr (itemA (entA "NUMBERS" "watch") 0)], tupA (itemA (entA "NUMBERS" "watch") 0) [.int 0, .int 200], fun K => He.valsB K (He.ga K "NUMBERS") [("again", .adr (entA "NUMBERS" "again")), ("within", .adr (entA "NUMBERS" "within")), ("later", .adr (entA "NUMBERS" "later")), ("keep", .adr (entA "NUMBERS" "keep")), ("easy", .adr (entA "NUMBERS" "easy")), ("back", .adr (entA "NUMBERS" "back")), ("watch", .adr (entA "NUMBERS" "watch"))], fun K => He.eqO (PySem.W.nsIn K mainGlobals "NUMBERS") (some (some (.ref (He.ga K "NUMBERS")))), tInt "MOST_PLANS" 40, tInt "MOST_LEVELS" 8, tInt "MOST_SIZE" 400, fun K => He.eqO (PySem.W.nsIn K mainGlobals "ZERO") (some (some (.ref (He.ga K "ZERO")))), tGlo "gcd" (.builtin "math.gcd"), tSys, fun K => PySem.W.excIn K (He.ga K "InvalidPath") [.type "ValueError", .type "Exception", .type "BaseException", .type "object"] "ValueError.__new__", fun K => PySem.W.keepIn K (.ref (He.ga K "InvalidPath")), fun K => decide (PySem.W.subIn K (.ref (He.ga K "InvalidPath")) (.type "BaseException") = some true), fun K => decide (PySem.W.typeIn K (.ref (He.ga K "InvalidPath")) = some (.type "type")), fun K => decide (PySem.W.exmOne K (.ref (He.ga K "InvalidPath")) (.ref (He.ga K "PlanError")) = some true), fun K => tExcC K (He.ga K "InvalidPath"), tKinds, fun K => decide (PySem.W.kitAny K (.ref (He.ga K "InvalidPath")) [.ref (He.ga K "InvalidName"), .ref (He.ga K "InvalidPlan"), .ref (He.ga K "InvalidTask"), .ref (He.ga K "InvalidTasks"), .ref (He.ga K "TooLarge")] = some false), fun K => decide (PySem.W.kitOne K (.ref (He.ga K "InvalidPath")) (.type "ValueError") = some true), fun K => decide (PySem.W.kitOne K (.ref (He.ga K "InvalidPath")) (.ref (He.ga K "InvalidPath")) = some true)]
def tabs : List He.Tab := [tabG "NUMBERS" ["again", "within", "later", "keep", "easy", "back", "watch"]]
structure Txt (w : World) (K : PySem.W.Frag) (mg : Str → Option Value) : Type where
  fd_is_whole : FuncData
  F_is_whole : FunD K "is_whole" "is_whole" (defArgs s_is_whole) (defBody s_is_whole) (defScope s_is_whole) [] [] (He.ga K "is_whole") fd_is_whole
  b_is_whole : Binds K fd_is_whole ["value"] []
  g_is_whole : mg "is_whole" = some (.ref (He.ga K "is_whole"))
  fd_is_between : FuncData
  F_is_between : FunD K "is_between" "is_between" (defArgs s_is_between) (defBody s_is_between) (defScope s_is_between) [] [] (He.ga K "is_between") fd_is_between
  b_is_between : Binds K fd_is_between ["value", "low", "high"] []
  g_is_between : mg "is_between" = some (.ref (He.ga K "is_between"))
  fd_is_fraction : FuncData
  F_is_fraction : FunD K "is_fraction" "is_fraction" (defArgs s_is_fraction) (defBody s_is_fraction) (defScope s_is_fraction) [] [] (He.ga K "is_fraction") fd_is_fraction
  b_is_fraction : Binds K fd_is_fraction ["value"] []
  g_is_fraction : mg "is_fraction" = some (.ref (He.ga K "is_fraction"))
  fd_sum_of : FuncData
  F_sum_of : FunD K "sum_of" "sum_of" (defArgs s_sum_of) (defBody s_sum_of) (defScope s_sum_of) [] [] (He.ga K "sum_of") fd_sum_of
  b_sum_of : Binds K fd_sum_of ["fractions"] []
  g_sum_of : mg "sum_of" = some (.ref (He.ga K "sum_of"))
  fd__reduced : FuncData
  F__reduced : FunD K "_reduced" "_reduced" (defArgs s__reduced) (defBody s__reduced) (defScope s__reduced) [] [] (He.ga K "_reduced") fd__reduced
  b__reduced : Binds K fd__reduced ["top", "bottom"] []
  g__reduced : mg "_reduced" = some (.ref (He.ga K "_reduced"))
  fd__sum : FuncData
  F__sum : FunD K "_sum" "_sum" (defArgs s__sum) (defBody s__sum) (defScope s__sum) [] [] (He.ga K "_sum") fd__sum
  b__sum : Binds K fd__sum ["one", "other"] []
  g__sum : mg "_sum" = some (.ref (He.ga K "_sum"))
  fd_is_task : FuncData
  F_is_task : FunD K "is_task" "is_task" (defArgs s_is_task) (defBody s_is_task) (defScope s_is_task) [] [] (He.ga K "is_task") fd_is_task
  b_is_task : Binds K fd_is_task ["value"] []
  g_is_task : mg "is_task" = some (.ref (He.ga K "is_task"))
  fd_check_tasks : FuncData
  F_check_tasks : FunD K "check_tasks" "check_tasks" (defArgs s_check_tasks) (defBody s_check_tasks) (defScope s_check_tasks) [] [] (He.ga K "check_tasks") fd_check_tasks
  b_check_tasks : Binds K fd_check_tasks ["tasks"] []
  g_check_tasks : mg "check_tasks" = some (.ref (He.ga K "check_tasks"))
  fd_is_name : FuncData
  F_is_name : FunD K "is_name" "is_name" (defArgs s_is_name) (defBody s_is_name) (defScope s_is_name) [] [] (He.ga K "is_name") fd_is_name
  b_is_name : Binds K fd_is_name ["value"] []
  g_is_name : mg "is_name" = some (.ref (He.ga K "is_name"))
  fd_is_known : FuncData
  F_is_known : FunD K "is_known" "is_known" (defArgs s_is_known) (defBody s_is_known) (defScope s_is_known) [] [] (He.ga K "is_known") fd_is_known
  b_is_known : Binds K fd_is_known ["tasks", "value"] []
  g_is_known : mg "is_known" = some (.ref (He.ga K "is_known"))
  fd_last_tick : FuncData
  F_last_tick : FunD K "last_tick" "last_tick" (defArgs s_last_tick) (defBody s_last_tick) (defScope s_last_tick) [] [] (He.ga K "last_tick") fd_last_tick
  b_last_tick : Binds K fd_last_tick ["task"] []
  g_last_tick : mg "last_tick" = some (.ref (He.ga K "last_tick"))
  fd__has_names : FuncData
  F__has_names : FunD K "_has_names" "_has_names" (defArgs s__has_names) (defBody s__has_names) (defScope s__has_names) [] [] (He.ga K "_has_names") fd__has_names
  b__has_names : Binds K fd__has_names ["value"] []
  g__has_names : mg "_has_names" = some (.ref (He.ga K "_has_names"))
  fd__is_money : FuncData
  F__is_money : FunD K "_is_money" "_is_money" (defArgs s__is_money) (defBody s__is_money) (defScope s__is_money) [] [] (He.ga K "_is_money") fd__is_money
  b__is_money : Binds K fd__is_money ["value"] []
  g__is_money : mg "_is_money" = some (.ref (He.ga K "_is_money"))
  fd__is_end : FuncData
  F__is_end : FunD K "_is_end" "_is_end" (defArgs s__is_end) (defBody s__is_end) (defScope s__is_end) [] [] (He.ga K "_is_end") fd__is_end
  b__is_end : Binds K fd__is_end ["value"] []
  g__is_end : mg "_is_end" = some (.ref (He.ga K "_is_end"))
  fd__is_end_word : FuncData
  F__is_end_word : FunD K "_is_end_word" "_is_end_word" (defArgs s__is_end_word) (defBody s__is_end_word) (defScope s__is_end_word) [] [] (He.ga K "_is_end_word") fd__is_end_word
  b__is_end_word : Binds K fd__is_end_word ["value"] []
  g__is_end_word : mg "_is_end_word" = some (.ref (He.ga K "_is_end_word"))
  fd__is_end_share : FuncData
  F__is_end_share : FunD K "_is_end_share" "_is_end_share" (defArgs s__is_end_share) (defBody s__is_end_share) (defScope s__is_end_share) [] [] (He.ga K "_is_end_share") fd__is_end_share
  b__is_end_share : Binds K fd__is_end_share ["value"] []
  g__is_end_share : mg "_is_end_share" = some (.ref (He.ga K "_is_end_share"))
  fd__are_ends : FuncData
  F__are_ends : FunD K "_are_ends" "_are_ends" (defArgs s__are_ends) (defBody s__are_ends) (defScope s__are_ends) [] [] (He.ga K "_are_ends") fd__are_ends
  b__are_ends : Binds K fd__are_ends ["value"] []
  g__are_ends : mg "_are_ends" = some (.ref (He.ga K "_are_ends"))
  fd_fault_of : FuncData
  F_fault_of : FunD K "fault_of" "fault_of" (defArgs s_fault_of) (defBody s_fault_of) (defScope s_fault_of) [] [] (He.ga K "fault_of") fd_fault_of
  b_fault_of : Binds K fd_fault_of ["tasks", "value"] []
  g_fault_of : mg "fault_of" = some (.ref (He.ga K "fault_of"))
  fd_names_in : FuncData
  F_names_in : FunD K "names_in" "names_in" (defArgs s_names_in) (defBody s_names_in) (defScope s_names_in) [] [] (He.ga K "names_in") fd_names_in
  b_names_in : Binds K fd_names_in ["tasks", "plan"] []
  g_names_in : mg "names_in" = some (.ref (He.ga K "names_in"))
  fd_task_paths : FuncData
  F_task_paths : FunD K "task_paths" "task_paths" (defArgs s_task_paths) (defBody s_task_paths) (defScope s_task_paths) [] [] (He.ga K "task_paths") fd_task_paths
  b_task_paths : Binds K fd_task_paths ["tasks", "plan"] []
  g_task_paths : mg "task_paths" = some (.ref (He.ga K "task_paths"))
  fd_name_at : FuncData
  F_name_at : FunD K "name_at" "name_at" (defArgs s_name_at) (defBody s_name_at) (defScope s_name_at) [] [] (He.ga K "name_at") fd_name_at
  b_name_at : Binds K fd_name_at ["tasks", "plan", "path"] []
  g_name_at : mg "name_at" = some (.ref (He.ga K "name_at"))
  fd_check_plan : FuncData
  F_check_plan : FunD K "check_plan" "check_plan" (defArgs s_check_plan) (defBody s_check_plan) (defScope s_check_plan) [] [] (He.ga K "check_plan") fd_check_plan
  b_check_plan : Binds K fd_check_plan ["tasks", "plan"] []
  g_check_plan : mg "check_plan" = some (.ref (He.ga K "check_plan"))
  fd_check_size : FuncData
  F_check_size : FunD K "check_size" "check_size" (defArgs s_check_size) (defBody s_check_size) (defScope s_check_size) [] [] (He.ga K "check_size") fd_check_size
  b_check_size : Binds K fd_check_size ["tasks", "plan"] []
  g_check_size : mg "check_size" = some (.ref (He.ga K "check_size"))
  fd_check_form : FuncData
  F_check_form : FunD K "check_form" "check_form" (defArgs s_check_form) (defBody s_check_form) (defScope s_check_form) [] [] (He.ga K "check_form") fd_check_form
  b_check_form : Binds K fd_check_form ["tasks", "plan"] []
  g_check_form : mg "check_form" = some (.ref (He.ga K "check_form"))
  fd_steps_of : FuncData
  F_steps_of : FunD K "steps_of" "steps_of" (defArgs s_steps_of) (defBody s_steps_of) (defScope s_steps_of) [] [] (He.ga K "steps_of") fd_steps_of
  b_steps_of : Binds K fd_steps_of ["plan"] []
  g_steps_of : mg "steps_of" = some (.ref (He.ga K "steps_of"))
  fd_all_steps_of : FuncData
  F_all_steps_of : FunD K "all_steps_of" "all_steps_of" (defArgs s_all_steps_of) (defBody s_all_steps_of) (defScope s_all_steps_of) [] [] (He.ga K "all_steps_of") fd_all_steps_of
  b_all_steps_of : Binds K fd_all_steps_of ["plan"] []
  g_all_steps_of : mg "all_steps_of" = some (.ref (He.ga K "all_steps_of"))
  fd_named_paths : FuncData
  F_named_paths : FunD K "named_paths" "named_paths" (defArgs s_named_paths) (defBody s_named_paths) (defScope s_named_paths) [] [] (He.ga K "named_paths") fd_named_paths
  b_named_paths : Binds K fd_named_paths ["plan"] []
  g_named_paths : mg "named_paths" = some (.ref (He.ga K "named_paths"))
  fd_is_path : FuncData
  F_is_path : FunD K "is_path" "is_path" (defArgs s_is_path) (defBody s_is_path) (defScope s_is_path) [] [] (He.ga K "is_path") fd_is_path
  b_is_path : Binds K fd_is_path ["value"] []
  g_is_path : mg "is_path" = some (.ref (He.ga K "is_path"))
  fd__has_form : FuncData
  F__has_form : FunD K "_has_form" "_has_form" (defArgs s__has_form) (defBody s__has_form) (defScope s__has_form) [] [] (He.ga K "_has_form") fd__has_form
  b__has_form : Binds K fd__has_form ["tasks", "value"] []
  g__has_form : mg "_has_form" = some (.ref (He.ga K "_has_form"))
  fd__has_numbers : FuncData
  F__has_numbers : FunD K "_has_numbers" "_has_numbers" (defArgs s__has_numbers) (defBody s__has_numbers) (defScope s__has_numbers) [] [] (He.ga K "_has_numbers") fd__has_numbers
  b__has_numbers : Binds K fd__has_numbers ["value"] []
  g__has_numbers : mg "_has_numbers" = some (.ref (He.ga K "_has_numbers"))
  fd__size : FuncData
  F__size : FunD K "_size" "_size" (defArgs s__size) (defBody s__size) (defScope s__size) [] [] (He.ga K "_size") fd__size
  b__size : Binds K fd__size ["plan"] []
  g__size : mg "_size" = some (.ref (He.ga K "_size"))
  fd__span : FuncData
  F__span : FunD K "_span" "_span" (defArgs s__span) (defBody s__span) (defScope s__span) [] [] (He.ga K "_span") fd__span
  b__span : Binds K fd__span ["tasks", "plan"] []
  g__span : mg "_span" = some (.ref (He.ga K "_span"))
  fd__law_source : FuncData
  F__law_source : FunD K "_law_source" "_law_source" (defArgs s__law_source) (defBody s__law_source) (defScope s__law_source) [] [] (He.ga K "_law_source") fd__law_source
  b__law_source : Binds K fd__law_source ["cell", "k"] []
  g__law_source : mg "_law_source" = some (.ref (He.ga K "_law_source"))
  fd__law_draw : FuncData
  F__law_draw : FunD K "_law_draw" "_law_draw" (defArgs s__law_draw) (defBody s__law_draw) (defScope s__law_draw) [] [] (He.ga K "_law_draw") fd__law_draw
  b__law_draw : Binds K fd__law_draw ["source", "wide"] []
  g__law_draw : mg "_law_draw" = some (.ref (He.ga K "_law_draw"))
  fd__law_tasks : FuncData
  F__law_tasks : FunD K "_law_tasks" "_law_tasks" (defArgs s__law_tasks) (defBody s__law_tasks) (defScope s__law_tasks) [] [] (He.ga K "_law_tasks") fd__law_tasks
  b__law_tasks : Binds K fd__law_tasks ["source"] []
  g__law_tasks : mg "_law_tasks" = some (.ref (He.ga K "_law_tasks"))
  fd__law_unary : FuncData
  F__law_unary : FunD K "_law_unary" "_law_unary" (defArgs s__law_unary) (defBody s__law_unary) (defScope s__law_unary) [] [] (He.ga K "_law_unary") fd__law_unary
  b__law_unary : Binds K fd__law_unary ["source", "tries"] []
  g__law_unary : mg "_law_unary" = some (.ref (He.ga K "_law_unary"))
  fd__law_plan : FuncData
  F__law_plan : FunD K "_law_plan" "_law_plan" (defArgs s__law_plan) (defBody s__law_plan) (defScope s__law_plan) [] [] (He.ga K "_law_plan") fd__law_plan
  b__law_plan : Binds K fd__law_plan ["source", "names", "room", "levels", "tries"] []
  g__law_plan : mg "_law_plan" = some (.ref (He.ga K "_law_plan"))
  fd__law_drawn : FuncData
  F__law_drawn : FunD K "_law_drawn" "_law_drawn" (defArgs s__law_drawn) (defBody s__law_drawn) (defScope s__law_drawn) [] [] (He.ga K "_law_drawn") fd__law_drawn
  b__law_drawn : Binds K fd__law_drawn ["source", "names", "tries"] []
  g__law_drawn : mg "_law_drawn" = some (.ref (He.ga K "_law_drawn"))
  fd__law_inner : FuncData
  F__law_inner : FunD K "_law_inner" "_law_inner" (defArgs s__law_inner) (defBody s__law_inner) (defScope s__law_inner) [] [] (He.ga K "_law_inner") fd__law_inner
  b__law_inner : Binds K fd__law_inner ["tree"] []
  g__law_inner : mg "_law_inner" = some (.ref (He.ga K "_law_inner"))
  fd__law_size : FuncData
  F__law_size : FunD K "_law_size" "_law_size" (defArgs s__law_size) (defBody s__law_size) (defScope s__law_size) [] [] (He.ga K "_law_size") fd__law_size
  b__law_size : Binds K fd__law_size ["tree"] []
  g__law_size : mg "_law_size" = some (.ref (He.ga K "_law_size"))
  fd__law_span : FuncData
  F__law_span : FunD K "_law_span" "_law_span" (defArgs s__law_span) (defBody s__law_span) (defScope s__law_span) [] [] (He.ga K "_law_span") fd__law_span
  b__law_span : Binds K fd__law_span ["some", "tree"] []
  g__law_span : mg "_law_span" = some (.ref (He.ga K "_law_span"))
  fd__law_excess : FuncData
  F__law_excess : FunD K "_law_excess" "_law_excess" (defArgs s__law_excess) (defBody s__law_excess) (defScope s__law_excess) [] [] (He.ga K "_law_excess") fd__law_excess
  b__law_excess : Binds K fd__law_excess ["some", "tree"] []
  g__law_excess : mg "_law_excess" = some (.ref (He.ga K "_law_excess"))
  fd__law_paths : FuncData
  F__law_paths : FunD K "_law_paths" "_law_paths" (defArgs s__law_paths) (defBody s__law_paths) (defScope s__law_paths) [] [] (He.ga K "_law_paths") fd__law_paths
  b__law_paths : Binds K fd__law_paths ["tree"] []
  g__law_paths : mg "_law_paths" = some (.ref (He.ga K "_law_paths"))
  fd__law_told : FuncData
  F__law_told : FunD K "_law_told" "_law_told" (defArgs s__law_told) (defBody s__law_told) (defScope s__law_told) [] [] (He.ga K "_law_told") fd__law_told
  b__law_told : Binds K fd__law_told ["some", "tree", "road"] []
  g__law_told : mg "_law_told" = some (.ref (He.ga K "_law_told"))
  fd__law_near : FuncData
  F__law_near : FunD K "_law_near" "_law_near" (defArgs s__law_near) (defBody s__law_near) (defScope s__law_near) [] [] (He.ga K "_law_near") fd__law_near
  b__law_near : Binds K fd__law_near ["source", "road"] []
  g__law_near : mg "_law_near" = some (.ref (He.ga K "_law_near"))
  fd__law_right : FuncData
  F__law_right : FunD K "_law_right" "_law_right" (defArgs s__law_right) (defBody s__law_right) (defScope s__law_right) [] [] (He.ga K "_law_right") fd__law_right
  b__law_right : Binds K fd__law_right ["source", "some", "tree"] []
  g__law_right : mg "_law_right" = some (.ref (He.ga K "_law_right"))
  fd__law_holds : FuncData
  F__law_holds : FunD K "_law_holds" "_law_holds" (defArgs s__law_holds) (defBody s__law_holds) (defScope s__law_holds) [] [] (He.ga K "_law_holds") fd__law_holds
  b__law_holds : Binds K fd__law_holds ["source"] []
  g__law_holds : mg "_law_holds" = some (.ref (He.ga K "_law_holds"))
  fd_law : FuncData
  F_law : FunD K "law" "law" (defArgs s_law) (defBody s_law) (defScope s_law) [] [] (He.ga K "law") fd_law
  b_law : Binds K fd_law ["script"] []
  g_law : mg "law" = some (.ref (He.ga K "law"))
  g_PlanError : mg "PlanError" = some (.ref (He.ga K "PlanError"))
  g_InvalidName : mg "InvalidName" = some (.ref (He.ga K "InvalidName"))
  g_InvalidTask : mg "InvalidTask" = some (.ref (He.ga K "InvalidTask"))
  g_InvalidPath : mg "InvalidPath" = some (.ref (He.ga K "InvalidPath"))
  g_InvalidTasks : mg "InvalidTasks" = some (.ref (He.ga K "InvalidTasks"))
  g_InvalidPlan : mg "InvalidPlan" = some (.ref (He.ga K "InvalidPlan"))
  g_TooLarge : mg "TooLarge" = some (.ref (He.ga K "TooLarge"))
  m_isinstance : mg "isinstance" = none
  m_int : mg "int" = none
  m_bool : mg "bool" = none
  m_tuple : mg "tuple" = none
  m_list : mg "list" = none
  m_dict : mg "dict" = none
  m_str : mg "str" = none
  m_len : mg "len" = none
  m_all : mg "all" = none
  m_sorted : mg "sorted" = none
  m_range : mg "range" = none
  m_enumerate : mg "enumerate" = none
  m_max : mg "max" = none
  m_min : mg "min" = none
  m_repr : mg "repr" = none
  m_zip : mg "zip" = none
  m_sum : mg "sum" = none
  m_set : mg "set" = none
  m_ValueError : mg "ValueError" = none
  k_int_int : PySem.W.kitOne K (.type "int") (.type "int") = some true
  k_tuple_int : PySem.W.kitOne K (.type "tuple") (.type "int") = some false
  k_int_bool : PySem.W.kitOne K (.type "int") (.type "bool") = some false
  k_tuple : PySem.W.kitOne K (.type "tuple") (.type "tuple") = some true
  k_list : PySem.W.kitOne K (.type "list") (.type "list") = some true
  k_dict : PySem.W.kitOne K (.type "dict") (.type "dict") = some true
  k_str : PySem.W.kitOne K (.type "str") (.type "str") = some true
  zero : ∀ H : Hp, SqT K H (He.ga K "ZERO") [.int 0, .int 1]
  t_PLAN_WORDS : ∀ H : Hp, SqT K H (He.ga K "PLAN_WORDS") [.str "order", .str "other", .str "both", .str "race", .str "again", .str "within", .str "later", .str "keep", .str "easy", .str "back", .str "watch"]
  g_PLAN_WORDS : mg "PLAN_WORDS" = some (.ref (He.ga K "PLAN_WORDS"))
  t_END_WORDS : ∀ H : Hp, SqT K H (He.ga K "END_WORDS") [.str "done", .str "failed"]
  g_END_WORDS : mg "END_WORDS" = some (.ref (He.ga K "END_WORDS"))
  g_MOST_MONEY : ∃ t, mg "MOST_MONEY" = some (.int 1000000000000 t)
  g_MOST_TASKS : ∃ t, mg "MOST_TASKS" = some (.int 12 t)
  g_MOST_LETTERS : ∃ t, mg "MOST_LETTERS" = some (.int 8 t)
  g_MOST_ENDS : ∃ t, mg "MOST_ENDS" = some (.int 8 t)
  g_LAST_TICK : ∃ t, mg "LAST_TICK" = some (.int 30 t)
  g_MOST_BOTTOM : ∃ t, mg "MOST_BOTTOM" = some (.int 1000 t)
  t_LIST_WORDS : ∀ H : Hp, SqT K H (He.ga K "LIST_WORDS") [.str "order", .str "other", .str "both", .str "race"]
  g_LIST_WORDS : mg "LIST_WORDS" = some (.ref (He.ga K "LIST_WORDS"))
  n_again : ∀ H : Hp, SqT K H (entA "NUMBERS" "again" K) [.ref (itemA (entA "NUMBERS" "again") 0 K), .ref (itemA (entA "NUMBERS" "again") 1 K)]
  n_again_0 : ∀ H : Hp, SqT K H (itemA (entA "NUMBERS" "again") 0 K) [.int 1, .int 20]
  n_again_1 : ∀ H : Hp, SqT K H (itemA (entA "NUMBERS" "again") 1 K) [.int 0, .int 100]
  n_within : ∀ H : Hp, SqT K H (entA "NUMBERS" "within" K) [.ref (itemA (entA "NUMBERS" "within") 0 K)]
  n_within_0 : ∀ H : Hp, SqT K H (itemA (entA "NUMBERS" "within") 0 K) [.int 0, .int 200]
  n_later : ∀ H : Hp, SqT K H (entA "NUMBERS" "later" K) [.ref (itemA (entA "NUMBERS" "later") 0 K)]
  n_later_0 : ∀ H : Hp, SqT K H (itemA (entA "NUMBERS" "later") 0 K) [.int 0, .int 100]
  n_keep : ∀ H : Hp, SqT K H (entA "NUMBERS" "keep" K) []
  n_easy : ∀ H : Hp, SqT K H (entA "NUMBERS" "easy" K) []
  n_back : ∀ H : Hp, SqT K H (entA "NUMBERS" "back" K) [.ref (itemA (entA "NUMBERS" "back") 0 K)]
  n_back_0 : ∀ H : Hp, SqT K H (itemA (entA "NUMBERS" "back") 0 K) [.int 0, .int 1000000000000]
  n_watch : ∀ H : Hp, SqT K H (entA "NUMBERS" "watch" K) [.ref (itemA (entA "NUMBERS" "watch") 0 K)]
  n_watch_0 : ∀ H : Hp, SqT K H (itemA (entA "NUMBERS" "watch") 0 K) [.int 0, .int 200]
  v_NUMBERS : He.valsB K (He.ga K "NUMBERS") [("again", .adr (entA "NUMBERS" "again")), ("within", .adr (entA "NUMBERS" "within")), ("later", .adr (entA "NUMBERS" "later")), ("keep", .adr (entA "NUMBERS" "keep")), ("easy", .adr (entA "NUMBERS" "easy")), ("back", .adr (entA "NUMBERS" "back")), ("watch", .adr (entA "NUMBERS" "watch"))] = true
  g_NUMBERS : mg "NUMBERS" = some (.ref (He.ga K "NUMBERS"))
  g_MOST_PLANS : ∃ t, mg "MOST_PLANS" = some (.int 40 t)
  g_MOST_LEVELS : ∃ t, mg "MOST_LEVELS" = some (.int 8 t)
  g_MOST_SIZE : ∃ t, mg "MOST_SIZE" = some (.int 400 t)
  g_ZERO : mg "ZERO" = some (.ref (He.ga K "ZERO"))
  g_gcd : mg "gcd" = some (.builtin "math.gcd")
  sys : SysD K
  x_IP : PySem.W.excIn K (He.ga K "InvalidPath") [.type "ValueError", .type "Exception", .type "BaseException", .type "object"] "ValueError.__new__" = true
  k_IP : PySem.W.keepIn K (.ref (He.ga K "InvalidPath")) = true
  s_IP : PySem.W.subIn K (.ref (He.ga K "InvalidPath")) (.type "BaseException") = some true
  t_IP : PySem.W.typeIn K (.ref (He.ga K "InvalidPath")) = some (.type "type")
  m_IP : PySem.W.exmOne K (.ref (He.ga K "InvalidPath")) (.ref (He.ga K "PlanError")) = some true
  e_IP : ExcC K (He.ga K "InvalidPath")
  kit : ∀ t ∈ kinds, Kit K t
  i_A : PySem.W.kitAny K (.ref (He.ga K "InvalidPath")) [.ref (He.ga K "InvalidName"), .ref (He.ga K "InvalidPlan"), .ref (He.ga K "InvalidTask"), .ref (He.ga K "InvalidTasks"), .ref (He.ga K "TooLarge")] = some false
  i_V : PySem.W.kitOne K (.ref (He.ga K "InvalidPath")) (.type "ValueError") = some true
  i_P : PySem.W.kitOne K (.ref (He.ga K "InvalidPath")) (.ref (He.ga K "InvalidPath")) = some true
  kb_names_in_plan_tasks : KBn K fd_names_in ["tasks", "plan"] 0 ["plan", "tasks"] (fun us ws => swap2 us ws) (fun vs zs => swap2 vs zs)
  kb_task_paths_plan_tasks : KBn K fd_task_paths ["tasks", "plan"] 0 ["plan", "tasks"] (fun us ws => swap2 us ws) (fun vs zs => swap2 vs zs)
  kb_name_at_path_plan_tasks : KBn K fd_name_at ["tasks", "plan", "path"] 0 ["path", "plan", "tasks"] (fun us ws => rev3 us ws) (fun vs zs => rev3 vs zs)
  tb_NUMBERS : TabD w K (He.ga K "NUMBERS") [("again", .ref (entA "NUMBERS" "again" K)), ("within", .ref (entA "NUMBERS" "within" K)), ("later", .ref (entA "NUMBERS" "later" K)), ("keep", .ref (entA "NUMBERS" "keep" K)), ("easy", .ref (entA "NUMBERS" "easy" K)), ("back", .ref (entA "NUMBERS" "back" K)), ("watch", .ref (entA "NUMBERS" "watch" K))]
set_option maxHeartbeats 8000000 in
theorem txt {w : World} {K : PySem.W.Frag} {h : Heap} {mg : Str → Option Value} (X : K.In h) (G : h.Ns mainGlobals mg) (ct : He.SaysT fas fns tabs w K) (x : (exs.all fun f => f K) = true) : Nonempty (Txt w K mg) := by
  have c := ct.d
  obtain ⟨fd_is_whole, F_is_whole⟩ := c.def_ 0 (d := d_is_whole) rfl
  obtain ⟨fd_is_between, F_is_between⟩ := c.def_ 1 (d := d_is_between) rfl
  obtain ⟨fd_is_fraction, F_is_fraction⟩ := c.def_ 2 (d := d_is_fraction) rfl
  obtain ⟨fd_sum_of, F_sum_of⟩ := c.def_ 3 (d := d_sum_of) rfl
  obtain ⟨fd__reduced, F__reduced⟩ := c.def_ 4 (d := d__reduced) rfl
  obtain ⟨fd__sum, F__sum⟩ := c.def_ 5 (d := d__sum) rfl
  obtain ⟨fd_is_task, F_is_task⟩ := c.def_ 6 (d := d_is_task) rfl
  obtain ⟨fd_check_tasks, F_check_tasks⟩ := c.def_ 7 (d := d_check_tasks) rfl
  obtain ⟨fd_is_name, F_is_name⟩ := c.def_ 8 (d := d_is_name) rfl
  obtain ⟨fd_is_known, F_is_known⟩ := c.def_ 9 (d := d_is_known) rfl
  obtain ⟨fd_last_tick, F_last_tick⟩ := c.def_ 10 (d := d_last_tick) rfl
  obtain ⟨fd__has_names, F__has_names⟩ := c.def_ 11 (d := d__has_names) rfl
  obtain ⟨fd__is_money, F__is_money⟩ := c.def_ 12 (d := d__is_money) rfl
  obtain ⟨fd__is_end, F__is_end⟩ := c.def_ 13 (d := d__is_end) rfl
  obtain ⟨fd__is_end_word, F__is_end_word⟩ := c.def_ 14 (d := d__is_end_word) rfl
  obtain ⟨fd__is_end_share, F__is_end_share⟩ := c.def_ 15 (d := d__is_end_share) rfl
  obtain ⟨fd__are_ends, F__are_ends⟩ := c.def_ 16 (d := d__are_ends) rfl
  obtain ⟨fd_fault_of, F_fault_of⟩ := c.def_ 17 (d := d_fault_of) rfl
  obtain ⟨fd_names_in, F_names_in⟩ := c.def_ 18 (d := d_names_in) rfl
  obtain ⟨fd_task_paths, F_task_paths⟩ := c.def_ 19 (d := d_task_paths) rfl
  obtain ⟨fd_name_at, F_name_at⟩ := c.def_ 20 (d := d_name_at) rfl
  obtain ⟨fd_check_plan, F_check_plan⟩ := c.def_ 21 (d := d_check_plan) rfl
  obtain ⟨fd_check_size, F_check_size⟩ := c.def_ 22 (d := d_check_size) rfl
  obtain ⟨fd_check_form, F_check_form⟩ := c.def_ 23 (d := d_check_form) rfl
  obtain ⟨fd_steps_of, F_steps_of⟩ := c.def_ 24 (d := d_steps_of) rfl
  obtain ⟨fd_all_steps_of, F_all_steps_of⟩ := c.def_ 25 (d := d_all_steps_of) rfl
  obtain ⟨fd_named_paths, F_named_paths⟩ := c.def_ 26 (d := d_named_paths) rfl
  obtain ⟨fd_is_path, F_is_path⟩ := c.def_ 27 (d := d_is_path) rfl
  obtain ⟨fd__has_form, F__has_form⟩ := c.def_ 28 (d := d__has_form) rfl
  obtain ⟨fd__has_numbers, F__has_numbers⟩ := c.def_ 29 (d := d__has_numbers) rfl
  obtain ⟨fd__size, F__size⟩ := c.def_ 30 (d := d__size) rfl
  obtain ⟨fd__span, F__span⟩ := c.def_ 31 (d := d__span) rfl
  obtain ⟨fd__law_source, F__law_source⟩ := c.def_ 32 (d := d__law_source) rfl
  obtain ⟨fd__law_draw, F__law_draw⟩ := c.def_ 33 (d := d__law_draw) rfl
  obtain ⟨fd__law_tasks, F__law_tasks⟩ := c.def_ 34 (d := d__law_tasks) rfl
  obtain ⟨fd__law_unary, F__law_unary⟩ := c.def_ 35 (d := d__law_unary) rfl
  obtain ⟨fd__law_plan, F__law_plan⟩ := c.def_ 36 (d := d__law_plan) rfl
  obtain ⟨fd__law_drawn, F__law_drawn⟩ := c.def_ 37 (d := d__law_drawn) rfl
  obtain ⟨fd__law_inner, F__law_inner⟩ := c.def_ 38 (d := d__law_inner) rfl
  obtain ⟨fd__law_size, F__law_size⟩ := c.def_ 39 (d := d__law_size) rfl
  obtain ⟨fd__law_span, F__law_span⟩ := c.def_ 40 (d := d__law_span) rfl
  obtain ⟨fd__law_excess, F__law_excess⟩ := c.def_ 41 (d := d__law_excess) rfl
  obtain ⟨fd__law_paths, F__law_paths⟩ := c.def_ 42 (d := d__law_paths) rfl
  obtain ⟨fd__law_told, F__law_told⟩ := c.def_ 43 (d := d__law_told) rfl
  obtain ⟨fd__law_near, F__law_near⟩ := c.def_ 44 (d := d__law_near) rfl
  obtain ⟨fd__law_right, F__law_right⟩ := c.def_ 45 (d := d__law_right) rfl
  obtain ⟨fd__law_holds, F__law_holds⟩ := c.def_ 46 (d := d__law_holds) rfl
  obtain ⟨fd_law, F_law⟩ := c.def_ 47 (d := d_law) rfl
  exact ⟨{
    fd_is_whole := fd_is_whole,
    F_is_whole := F_is_whole,
    b_is_whole := FunD.bindsN (ps := ["value"]) F_is_whole fun _ _ _ _ _ _ us hl => match us, hl with | [_], _ => rfl,
    g_is_whole := He.glo_ok X G (c.fact 0 (f := .glo "is_whole") rfl),
    fd_is_between := fd_is_between,
    F_is_between := F_is_between,
    b_is_between := FunD.bindsN (ps := ["value", "low", "high"]) F_is_between fun _ _ _ _ _ _ us hl => match us, hl with | [_, _, _], _ => rfl,
    g_is_between := He.glo_ok X G (c.fact 1 (f := .glo "is_between") rfl),
    fd_is_fraction := fd_is_fraction,
    F_is_fraction := F_is_fraction,
    b_is_fraction := FunD.bindsN (ps := ["value"]) F_is_fraction fun _ _ _ _ _ _ us hl => match us, hl with | [_], _ => rfl,
    g_is_fraction := He.glo_ok X G (c.fact 2 (f := .glo "is_fraction") rfl),
    fd_sum_of := fd_sum_of,
    F_sum_of := F_sum_of,
    b_sum_of := FunD.bindsN (ps := ["fractions"]) F_sum_of fun _ _ _ _ _ _ us hl => match us, hl with | [_], _ => rfl,
    g_sum_of := He.glo_ok X G (c.fact 3 (f := .glo "sum_of") rfl),
    fd__reduced := fd__reduced,
    F__reduced := F__reduced,
    b__reduced := FunD.bindsN (ps := ["top", "bottom"]) F__reduced fun _ _ _ _ _ _ us hl => match us, hl with | [_, _], _ => rfl,
    g__reduced := He.glo_ok X G (c.fact 4 (f := .glo "_reduced") rfl),
    fd__sum := fd__sum,
    F__sum := F__sum,
    b__sum := FunD.bindsN (ps := ["one", "other"]) F__sum fun _ _ _ _ _ _ us hl => match us, hl with | [_, _], _ => rfl,
    g__sum := He.glo_ok X G (c.fact 5 (f := .glo "_sum") rfl),
    fd_is_task := fd_is_task,
    F_is_task := F_is_task,
    b_is_task := FunD.bindsN (ps := ["value"]) F_is_task fun _ _ _ _ _ _ us hl => match us, hl with | [_], _ => rfl,
    g_is_task := He.glo_ok X G (c.fact 6 (f := .glo "is_task") rfl),
    fd_check_tasks := fd_check_tasks,
    F_check_tasks := F_check_tasks,
    b_check_tasks := FunD.bindsN (ps := ["tasks"]) F_check_tasks fun _ _ _ _ _ _ us hl => match us, hl with | [_], _ => rfl,
    g_check_tasks := He.glo_ok X G (c.fact 7 (f := .glo "check_tasks") rfl),
    fd_is_name := fd_is_name,
    F_is_name := F_is_name,
    b_is_name := FunD.bindsN (ps := ["value"]) F_is_name fun _ _ _ _ _ _ us hl => match us, hl with | [_], _ => rfl,
    g_is_name := He.glo_ok X G (c.fact 8 (f := .glo "is_name") rfl),
    fd_is_known := fd_is_known,
    F_is_known := F_is_known,
    b_is_known := FunD.bindsN (ps := ["tasks", "value"]) F_is_known fun _ _ _ _ _ _ us hl => match us, hl with | [_, _], _ => rfl,
    g_is_known := He.glo_ok X G (c.fact 9 (f := .glo "is_known") rfl),
    fd_last_tick := fd_last_tick,
    F_last_tick := F_last_tick,
    b_last_tick := FunD.bindsN (ps := ["task"]) F_last_tick fun _ _ _ _ _ _ us hl => match us, hl with | [_], _ => rfl,
    g_last_tick := He.glo_ok X G (c.fact 10 (f := .glo "last_tick") rfl),
    fd__has_names := fd__has_names,
    F__has_names := F__has_names,
    b__has_names := FunD.bindsN (ps := ["value"]) F__has_names fun _ _ _ _ _ _ us hl => match us, hl with | [_], _ => rfl,
    g__has_names := He.glo_ok X G (c.fact 11 (f := .glo "_has_names") rfl),
    fd__is_money := fd__is_money,
    F__is_money := F__is_money,
    b__is_money := FunD.bindsN (ps := ["value"]) F__is_money fun _ _ _ _ _ _ us hl => match us, hl with | [_], _ => rfl,
    g__is_money := He.glo_ok X G (c.fact 12 (f := .glo "_is_money") rfl),
    fd__is_end := fd__is_end,
    F__is_end := F__is_end,
    b__is_end := FunD.bindsN (ps := ["value"]) F__is_end fun _ _ _ _ _ _ us hl => match us, hl with | [_], _ => rfl,
    g__is_end := He.glo_ok X G (c.fact 13 (f := .glo "_is_end") rfl),
    fd__is_end_word := fd__is_end_word,
    F__is_end_word := F__is_end_word,
    b__is_end_word := FunD.bindsN (ps := ["value"]) F__is_end_word fun _ _ _ _ _ _ us hl => match us, hl with | [_], _ => rfl,
    g__is_end_word := He.glo_ok X G (c.fact 14 (f := .glo "_is_end_word") rfl),
    fd__is_end_share := fd__is_end_share,
    F__is_end_share := F__is_end_share,
    b__is_end_share := FunD.bindsN (ps := ["value"]) F__is_end_share fun _ _ _ _ _ _ us hl => match us, hl with | [_], _ => rfl,
    g__is_end_share := He.glo_ok X G (c.fact 15 (f := .glo "_is_end_share") rfl),
    fd__are_ends := fd__are_ends,
    F__are_ends := F__are_ends,
    b__are_ends := FunD.bindsN (ps := ["value"]) F__are_ends fun _ _ _ _ _ _ us hl => match us, hl with | [_], _ => rfl,
    g__are_ends := He.glo_ok X G (c.fact 16 (f := .glo "_are_ends") rfl),
    fd_fault_of := fd_fault_of,
    F_fault_of := F_fault_of,
    b_fault_of := FunD.bindsN (ps := ["tasks", "value"]) F_fault_of fun _ _ _ _ _ _ us hl => match us, hl with | [_, _], _ => rfl,
    g_fault_of := He.glo_ok X G (c.fact 17 (f := .glo "fault_of") rfl),
    fd_names_in := fd_names_in,
    F_names_in := F_names_in,
    b_names_in := FunD.bindsN (ps := ["tasks", "plan"]) F_names_in fun _ _ _ _ _ _ us hl => match us, hl with | [_, _], _ => rfl,
    g_names_in := He.glo_ok X G (c.fact 18 (f := .glo "names_in") rfl),
    fd_task_paths := fd_task_paths,
    F_task_paths := F_task_paths,
    b_task_paths := FunD.bindsN (ps := ["tasks", "plan"]) F_task_paths fun _ _ _ _ _ _ us hl => match us, hl with | [_, _], _ => rfl,
    g_task_paths := He.glo_ok X G (c.fact 19 (f := .glo "task_paths") rfl),
    fd_name_at := fd_name_at,
    F_name_at := F_name_at,
    b_name_at := FunD.bindsN (ps := ["tasks", "plan", "path"]) F_name_at fun _ _ _ _ _ _ us hl => match us, hl with | [_, _, _], _ => rfl,
    g_name_at := He.glo_ok X G (c.fact 20 (f := .glo "name_at") rfl),
    fd_check_plan := fd_check_plan,
    F_check_plan := F_check_plan,
    b_check_plan := FunD.bindsN (ps := ["tasks", "plan"]) F_check_plan fun _ _ _ _ _ _ us hl => match us, hl with | [_, _], _ => rfl,
    g_check_plan := He.glo_ok X G (c.fact 21 (f := .glo "check_plan") rfl),
    fd_check_size := fd_check_size,
    F_check_size := F_check_size,
    b_check_size := FunD.bindsN (ps := ["tasks", "plan"]) F_check_size fun _ _ _ _ _ _ us hl => match us, hl with | [_, _], _ => rfl,
    g_check_size := He.glo_ok X G (c.fact 22 (f := .glo "check_size") rfl),
    fd_check_form := fd_check_form,
    F_check_form := F_check_form,
    b_check_form := FunD.bindsN (ps := ["tasks", "plan"]) F_check_form fun _ _ _ _ _ _ us hl => match us, hl with | [_, _], _ => rfl,
    g_check_form := He.glo_ok X G (c.fact 23 (f := .glo "check_form") rfl),
    fd_steps_of := fd_steps_of,
    F_steps_of := F_steps_of,
    b_steps_of := FunD.bindsN (ps := ["plan"]) F_steps_of fun _ _ _ _ _ _ us hl => match us, hl with | [_], _ => rfl,
    g_steps_of := He.glo_ok X G (c.fact 24 (f := .glo "steps_of") rfl),
    fd_all_steps_of := fd_all_steps_of,
    F_all_steps_of := F_all_steps_of,
    b_all_steps_of := FunD.bindsN (ps := ["plan"]) F_all_steps_of fun _ _ _ _ _ _ us hl => match us, hl with | [_], _ => rfl,
    g_all_steps_of := He.glo_ok X G (c.fact 25 (f := .glo "all_steps_of") rfl),
    fd_named_paths := fd_named_paths,
    F_named_paths := F_named_paths,
    b_named_paths := FunD.bindsN (ps := ["plan"]) F_named_paths fun _ _ _ _ _ _ us hl => match us, hl with | [_], _ => rfl,
    g_named_paths := He.glo_ok X G (c.fact 26 (f := .glo "named_paths") rfl),
    fd_is_path := fd_is_path,
    F_is_path := F_is_path,
    b_is_path := FunD.bindsN (ps := ["value"]) F_is_path fun _ _ _ _ _ _ us hl => match us, hl with | [_], _ => rfl,
    g_is_path := He.glo_ok X G (c.fact 27 (f := .glo "is_path") rfl),
    fd__has_form := fd__has_form,
    F__has_form := F__has_form,
    b__has_form := FunD.bindsN (ps := ["tasks", "value"]) F__has_form fun _ _ _ _ _ _ us hl => match us, hl with | [_, _], _ => rfl,
    g__has_form := He.glo_ok X G (c.fact 28 (f := .glo "_has_form") rfl),
    fd__has_numbers := fd__has_numbers,
    F__has_numbers := F__has_numbers,
    b__has_numbers := FunD.bindsN (ps := ["value"]) F__has_numbers fun _ _ _ _ _ _ us hl => match us, hl with | [_], _ => rfl,
    g__has_numbers := He.glo_ok X G (c.fact 29 (f := .glo "_has_numbers") rfl),
    fd__size := fd__size,
    F__size := F__size,
    b__size := FunD.bindsN (ps := ["plan"]) F__size fun _ _ _ _ _ _ us hl => match us, hl with | [_], _ => rfl,
    g__size := He.glo_ok X G (c.fact 30 (f := .glo "_size") rfl),
    fd__span := fd__span,
    F__span := F__span,
    b__span := FunD.bindsN (ps := ["tasks", "plan"]) F__span fun _ _ _ _ _ _ us hl => match us, hl with | [_, _], _ => rfl,
    g__span := He.glo_ok X G (c.fact 31 (f := .glo "_span") rfl),
    fd__law_source := fd__law_source,
    F__law_source := F__law_source,
    b__law_source := FunD.bindsN (ps := ["cell", "k"]) F__law_source fun _ _ _ _ _ _ us hl => match us, hl with | [_, _], _ => rfl,
    g__law_source := He.glo_ok X G (c.fact 32 (f := .glo "_law_source") rfl),
    fd__law_draw := fd__law_draw,
    F__law_draw := F__law_draw,
    b__law_draw := FunD.bindsN (ps := ["source", "wide"]) F__law_draw fun _ _ _ _ _ _ us hl => match us, hl with | [_, _], _ => rfl,
    g__law_draw := He.glo_ok X G (c.fact 33 (f := .glo "_law_draw") rfl),
    fd__law_tasks := fd__law_tasks,
    F__law_tasks := F__law_tasks,
    b__law_tasks := FunD.bindsN (ps := ["source"]) F__law_tasks fun _ _ _ _ _ _ us hl => match us, hl with | [_], _ => rfl,
    g__law_tasks := He.glo_ok X G (c.fact 34 (f := .glo "_law_tasks") rfl),
    fd__law_unary := fd__law_unary,
    F__law_unary := F__law_unary,
    b__law_unary := FunD.bindsN (ps := ["source", "tries"]) F__law_unary fun _ _ _ _ _ _ us hl => match us, hl with | [_, _], _ => rfl,
    g__law_unary := He.glo_ok X G (c.fact 35 (f := .glo "_law_unary") rfl),
    fd__law_plan := fd__law_plan,
    F__law_plan := F__law_plan,
    b__law_plan := FunD.bindsN (ps := ["source", "names", "room", "levels", "tries"]) F__law_plan fun _ _ _ _ _ _ us hl => match us, hl with | [_, _, _, _, _], _ => rfl,
    g__law_plan := He.glo_ok X G (c.fact 36 (f := .glo "_law_plan") rfl),
    fd__law_drawn := fd__law_drawn,
    F__law_drawn := F__law_drawn,
    b__law_drawn := FunD.bindsN (ps := ["source", "names", "tries"]) F__law_drawn fun _ _ _ _ _ _ us hl => match us, hl with | [_, _, _], _ => rfl,
    g__law_drawn := He.glo_ok X G (c.fact 37 (f := .glo "_law_drawn") rfl),
    fd__law_inner := fd__law_inner,
    F__law_inner := F__law_inner,
    b__law_inner := FunD.bindsN (ps := ["tree"]) F__law_inner fun _ _ _ _ _ _ us hl => match us, hl with | [_], _ => rfl,
    g__law_inner := He.glo_ok X G (c.fact 38 (f := .glo "_law_inner") rfl),
    fd__law_size := fd__law_size,
    F__law_size := F__law_size,
    b__law_size := FunD.bindsN (ps := ["tree"]) F__law_size fun _ _ _ _ _ _ us hl => match us, hl with | [_], _ => rfl,
    g__law_size := He.glo_ok X G (c.fact 39 (f := .glo "_law_size") rfl),
    fd__law_span := fd__law_span,
    F__law_span := F__law_span,
    b__law_span := FunD.bindsN (ps := ["some", "tree"]) F__law_span fun _ _ _ _ _ _ us hl => match us, hl with | [_, _], _ => rfl,
    g__law_span := He.glo_ok X G (c.fact 40 (f := .glo "_law_span") rfl),
    fd__law_excess := fd__law_excess,
    F__law_excess := F__law_excess,
    b__law_excess := FunD.bindsN (ps := ["some", "tree"]) F__law_excess fun _ _ _ _ _ _ us hl => match us, hl with | [_, _], _ => rfl,
    g__law_excess := He.glo_ok X G (c.fact 41 (f := .glo "_law_excess") rfl),
    fd__law_paths := fd__law_paths,
    F__law_paths := F__law_paths,
    b__law_paths := FunD.bindsN (ps := ["tree"]) F__law_paths fun _ _ _ _ _ _ us hl => match us, hl with | [_], _ => rfl,
    g__law_paths := He.glo_ok X G (c.fact 42 (f := .glo "_law_paths") rfl),
    fd__law_told := fd__law_told,
    F__law_told := F__law_told,
    b__law_told := FunD.bindsN (ps := ["some", "tree", "road"]) F__law_told fun _ _ _ _ _ _ us hl => match us, hl with | [_, _, _], _ => rfl,
    g__law_told := He.glo_ok X G (c.fact 43 (f := .glo "_law_told") rfl),
    fd__law_near := fd__law_near,
    F__law_near := F__law_near,
    b__law_near := FunD.bindsN (ps := ["source", "road"]) F__law_near fun _ _ _ _ _ _ us hl => match us, hl with | [_, _], _ => rfl,
    g__law_near := He.glo_ok X G (c.fact 44 (f := .glo "_law_near") rfl),
    fd__law_right := fd__law_right,
    F__law_right := F__law_right,
    b__law_right := FunD.bindsN (ps := ["source", "some", "tree"]) F__law_right fun _ _ _ _ _ _ us hl => match us, hl with | [_, _, _], _ => rfl,
    g__law_right := He.glo_ok X G (c.fact 45 (f := .glo "_law_right") rfl),
    fd__law_holds := fd__law_holds,
    F__law_holds := F__law_holds,
    b__law_holds := FunD.bindsN (ps := ["source"]) F__law_holds fun _ _ _ _ _ _ us hl => match us, hl with | [_], _ => rfl,
    g__law_holds := He.glo_ok X G (c.fact 46 (f := .glo "_law_holds") rfl),
    fd_law := fd_law,
    F_law := F_law,
    b_law := FunD.bindsN (ps := ["script"]) F_law fun _ _ _ _ _ _ us hl => match us, hl with | [_], _ => rfl,
    g_law := He.glo_ok X G (c.fact 47 (f := .glo "law") rfl),
    g_PlanError := He.glo_ok X G (c.fact 48 (f := .glo "PlanError") rfl),
    g_InvalidName := He.glo_ok X G (c.fact 49 (f := .glo "InvalidName") rfl),
    g_InvalidTask := He.glo_ok X G (c.fact 50 (f := .glo "InvalidTask") rfl),
    g_InvalidPath := He.glo_ok X G (c.fact 51 (f := .glo "InvalidPath") rfl),
    g_InvalidTasks := He.glo_ok X G (c.fact 52 (f := .glo "InvalidTasks") rfl),
    g_InvalidPlan := He.glo_ok X G (c.fact 53 (f := .glo "InvalidPlan") rfl),
    g_TooLarge := He.glo_ok X G (c.fact 54 (f := .glo "TooLarge") rfl),
    m_isinstance := He.free_ok X G (c.fact 55 (f := .free "isinstance") rfl),
    m_int := He.free_ok X G (c.fact 56 (f := .free "int") rfl),
    m_bool := He.free_ok X G (c.fact 57 (f := .free "bool") rfl),
    m_tuple := He.free_ok X G (c.fact 58 (f := .free "tuple") rfl),
    m_list := He.free_ok X G (c.fact 59 (f := .free "list") rfl),
    m_dict := He.free_ok X G (c.fact 60 (f := .free "dict") rfl),
    m_str := He.free_ok X G (c.fact 61 (f := .free "str") rfl),
    m_len := He.free_ok X G (c.fact 62 (f := .free "len") rfl),
    m_all := He.free_ok X G (c.fact 63 (f := .free "all") rfl),
    m_sorted := He.free_ok X G (c.fact 64 (f := .free "sorted") rfl),
    m_range := He.free_ok X G (c.fact 65 (f := .free "range") rfl),
    m_enumerate := He.free_ok X G (c.fact 66 (f := .free "enumerate") rfl),
    m_max := He.free_ok X G (c.fact 67 (f := .free "max") rfl),
    m_min := He.free_ok X G (c.fact 68 (f := .free "min") rfl),
    m_repr := He.free_ok X G (c.fact 69 (f := .free "repr") rfl),
    m_zip := He.free_ok X G (c.fact 70 (f := .free "zip") rfl),
    m_sum := He.free_ok X G (c.fact 71 (f := .free "sum") rfl),
    m_set := He.free_ok X G (c.fact 72 (f := .free "set") rfl),
    m_ValueError := He.free_ok X G (c.fact 73 (f := .free "ValueError") rfl),
    k_int_int := tKit_ok (tst_at x 0 rfl),
    k_tuple_int := tKit_ok (tst_at x 1 rfl),
    k_int_bool := tKit_ok (tst_at x 2 rfl),
    k_tuple := tKit_ok (tst_at x 3 rfl),
    k_list := tKit_ok (tst_at x 4 rfl),
    k_dict := tKit_ok (tst_at x 5 rfl),
    k_str := tKit_ok (tst_at x 6 rfl),
    zero := fun H => He.tupB_ok (tst_at x 7 rfl) H,
    t_PLAN_WORDS := fun H => He.tupB_ok (tst_at x 8 rfl) H,
    g_PLAN_WORDS := PySem.W.mg_of X G (He.eqO_ok (tst_at x 9 rfl)),
    t_END_WORDS := fun H => He.tupB_ok (tst_at x 10 rfl) H,
    g_END_WORDS := PySem.W.mg_of X G (He.eqO_ok (tst_at x 11 rfl)),
    g_MOST_MONEY := tInt_ok X G (tst_at x 12 rfl),
    g_MOST_TASKS := tInt_ok X G (tst_at x 13 rfl),
    g_MOST_LETTERS := tInt_ok X G (tst_at x 14 rfl),
    g_MOST_ENDS := tInt_ok X G (tst_at x 15 rfl),
    g_LAST_TICK := tInt_ok X G (tst_at x 16 rfl),
    g_MOST_BOTTOM := tInt_ok X G (tst_at x 17 rfl),
    t_LIST_WORDS := fun H => He.tupB_ok (tst_at x 18 rfl) H,
    g_LIST_WORDS := PySem.W.mg_of X G (He.eqO_ok (tst_at x 19 rfl)),
    n_again := fun H => tupA_ok (tst_at x 20 rfl) H,
    n_again_0 := fun H => tupA_ok (tst_at x 21 rfl) H,
    n_again_1 := fun H => tupA_ok (tst_at x 22 rfl) H,
    n_within := fun H => tupA_ok (tst_at x 23 rfl) H,
    n_within_0 := fun H => tupA_ok (tst_at x 24 rfl) H,
    n_later := fun H => tupA_ok (tst_at x 25 rfl) H,
    n_later_0 := fun H => tupA_ok (tst_at x 26 rfl) H,
    n_keep := fun H => tupA_ok (tst_at x 27 rfl) H,
    n_easy := fun H => tupA_ok (tst_at x 28 rfl) H,
    n_back := fun H => tupA_ok (tst_at x 29 rfl) H,
    n_back_0 := fun H => tupA_ok (tst_at x 30 rfl) H,
    n_watch := fun H => tupA_ok (tst_at x 31 rfl) H,
    n_watch_0 := fun H => tupA_ok (tst_at x 32 rfl) H,
    v_NUMBERS := (tst_at x 33 rfl),
    g_NUMBERS := PySem.W.mg_of X G (He.eqO_ok (tst_at x 34 rfl)),
    g_MOST_PLANS := tInt_ok X G (tst_at x 35 rfl),
    g_MOST_LEVELS := tInt_ok X G (tst_at x 36 rfl),
    g_MOST_SIZE := tInt_ok X G (tst_at x 37 rfl),
    g_ZERO := PySem.W.mg_of X G (He.eqO_ok (tst_at x 38 rfl)),
    g_gcd := tGlo_ok X G (tst_at x 39 rfl),
    sys := tSys_ok (tst_at x 40 rfl),
    x_IP := (tst_at x 41 rfl),
    k_IP := (tst_at x 42 rfl),
    s_IP := of_decide_eq_true (tst_at x 43 rfl),
    t_IP := of_decide_eq_true (tst_at x 44 rfl),
    m_IP := of_decide_eq_true (tst_at x 45 rfl),
    e_IP := tExcC_ok (tst_at x 46 rfl),
    kit := tKinds_ok (tst_at x 47 rfl),
    i_A := of_decide_eq_true (tst_at x 48 rfl),
    i_V := of_decide_eq_true (tst_at x 49 rfl),
    i_P := of_decide_eq_true (tst_at x 50 rfl),
    kb_names_in_plan_tasks := kbP (ps := ["tasks", "plan"]) F_names_in 0 ["plan", "tasks"] (@swap2) swap2_rel (fun _ _ _ _ _ _ us ws l1 l2 => match us, ws, l1, l2 with | [], [_, _], _, _ => rfl),
    kb_task_paths_plan_tasks := kbP (ps := ["tasks", "plan"]) F_task_paths 0 ["plan", "tasks"] (@swap2) swap2_rel (fun _ _ _ _ _ _ us ws l1 l2 => match us, ws, l1, l2 with | [], [_, _], _, _ => rfl),
    kb_name_at_path_plan_tasks := kbP (ps := ["tasks", "plan", "path"]) F_name_at 0 ["path", "plan", "tasks"] (@rev3) rev3_rel (fun _ _ _ _ _ _ us ws l1 l2 => match us, ws, l1, l2 with | [], [_, _, _], _, _ => rfl),
    tb_NUMBERS := tabD_of (ct.tab 0) (tst_at x 33 rfl) }⟩
end L10
set_option maxRecDepth 100000
set_option maxHeartbeats 4000000
namespace L10
open PySem PySem.Spec PyProof.Rows L2 Q7
section
variable {P : Program} {w : World} {K : PySem.W.Frag} {mg : Str → Option Value} {base : Heap}
/-! ### whole numbers, fractions -/
def spWhole : Sp := fun vs H Q _ => ∃ n : Int, vs = [.int n] ∧ Q (.bl true) H
theorem ok_is_whole (T : Txt w K mg) : FnOk P w K mg base CX0 1 (He.ga K "is_whole") T.fd_is_whole ["value"] spWhole := by
  refine T.F_is_whole.ok sc_is_whole (fun vs H Q E h => ?_) (fun cdv A outer s H vs Q E hr h => ⟨_, PSs.nox
    (pss_one (ps_ret (pe_and (pe_callB call_isi (by rfl) T.m_isinstance (by decide +kernel) (pa_cons (pv 0) (pa_cons (pe_bltn rfl T.m_int (v := .ty "int") (u := .type "int") (by decide +kernel) rfl) pa_nil))) (pe_one (pe_not (pe_callB call_isi (by rfl) T.m_isinstance (by decide +kernel) (pa_cons (pv 0) (pa_cons (pe_bltn rfl T.m_bool (v := .ty "bool") (u := .type "bool") (by decide +kernel) rfl) pa_nil)))))))), ?_⟩)
  · obtain ⟨n, rfl, _⟩ := h
    rfl
  · obtain ⟨n, rfl, hQ⟩ := h
    refine ⟨_, rfl, _, _, _, _, _, rfl, .ty _, .base (.int n), T.k_int_int, _, rfl, iteT ⟨_, rfl, _, _, _, _, _, rfl, .ty _, .base (.int n), T.k_int_bool, _, rfl, hQ⟩⟩
def spBetween : Sp := fun vs H Q _ => ∃ n lo hi : Int, vs = [.int n, .int lo, .int hi] ∧ lo ≤ n ∧ n ≤ hi ∧ Q (.bl true) H
theorem iteT' {k : Bool} {X Y : Prop} (e : k = true) (h : X) : if k = true then X else Y := by subst e; exact iteT h
theorem iteE {k : Bool} {X Y : Prop} (e : k = false) (h : Y) : if k = true then X else Y := by subst e; exact iteF h
theorem ok_is_between (T : Txt w K mg) : FnOk P w K mg base CX0 2 (He.ga K "is_between") T.fd_is_between ["value", "low", "high"] spBetween := by
  refine T.F_is_between.ok sc_is_between (fun vs H Q E h => ?_) (fun cdv A outer s H vs Q E hr h => ⟨_, PSs.nox
    (pss_one (ps_ret (pe_and (pe_call (ok_is_whole T) (hr.mono (by decide)) (by rfl) T.g_is_whole T.F_is_whole.kp T.b_is_whole .nil pass0 (pa_cons (pv 0) pa_nil)) (pe_one (pe_chain op_le op_le (pv 1) (pv 0) (pv 2)))))), ?_⟩)
  · obtain ⟨n, lo, hi, rfl, _⟩ := h
    rfl
  · obtain ⟨n, lo, hi, rfl, h1, h2, hQ⟩ := h
    refine ⟨_, rfl, _, rfl, _, rfl, iteT ⟨_, rfl, _, rfl, _, _, rfl, rfl, _, rfl, iteT' (decide_eq_true h1) ⟨_, rfl, _, _, rfl, rfl, ?_⟩⟩⟩
    dsimp only
    rw [decide_eq_true h2]
    exact hQ
theorem tyT {H : Hp} {p : Addr} {xs : List V} (h : SqT K H p xs) : TyX K H (.ref p) (.type "tuple") := by
  rcases h with (h | ⟨o, h⟩) | ⟨o, us, n, h, hc, _⟩
  · exact .base (.tup h)
  · exact .fTuple h
  · exact .kTuple h hc
def spIsFr (K : PySem.W.Frag) : Sp := fun vs H Q _ => ∃ v q, vs = [v] ∧ FrV K H v q ∧ Q (.bl true) H
theorem ge_one (q : Rat) : decide ((1 : Int) ≤ (q.den : Int)) = true := decide_eq_true (by have := q.den_pos; omega)
theorem ok_is_fraction (T : Txt w K mg) : FnOk P w K mg base CX0 2 (He.ga K "is_fraction") T.fd_is_fraction ["value"] (spIsFr K) := by
  refine T.F_is_fraction.ok sc_is_fraction (fun vs H Q E h => ?_) (fun cdv A outer s H vs Q E hr h => ⟨_, PSs.nox
    (pss_cons (ps_if (PW.pt (pw_or (pt_not (pt_val (pe_callB call_isi (by rfl) T.m_isinstance (by decide +kernel) (pa_cons (pv 0) (pa_cons (pe_bltn rfl T.m_tuple (v := .ty "tuple") (u := .type "tuple") (by decide +kernel) rfl) pa_nil))))) (pw_or1 (pt_cmpR op_ne (pe_callB call_len_seq (by rfl) T.m_len (by decide +kernel) (pa_cons (pv 0) pa_nil)) pe_int (nomark _))))) (pss_one (ps_ret pe_bl)) pss_nil)
      (pss_cons (ps_asg (pv 0) (pg_tup rfl (pgs_cons (pg_name (i := 1) sc_is_fraction.nd rfl (.inl rfl)) (pgs_cons (pg_name (i := 2) sc_is_fraction.nd rfl (.inl rfl)) pgs_nil))))
      (pss_one (ps_ret (pe_and (pe_call (ok_is_whole T) (hr.mono (by decide)) (by rfl) T.g_is_whole T.F_is_whole.kp T.b_is_whole .nil pass0 (pa_cons (pv 1) pa_nil)) (pe_and (pe_call (ok_is_whole T) (hr.mono (by decide)) (by rfl) T.g_is_whole T.F_is_whole.kp T.b_is_whole .nil pass0 (pa_cons (pv 2) pa_nil)) (pe_and (pe_cmpR op_ge (pv 2) pe_int (nomark _)) (pe_one (pe_cmpR op_eq (pe_callBfun cr_gcd (by rfl) T.g_gcd (pa_cons (pv 1) (pa_cons (pv 2) pa_nil))) pe_int (nomark _)))))))))), ?_⟩)
  · obtain ⟨v, q, rfl, _⟩ := h
    rfl
  · obtain ⟨v, q, rfl, ⟨p, rfl, S⟩, hQ⟩ := h
    refine ⟨_, rfl, _, _, _, _, _, rfl, .ty _, tyT S, T.k_tuple, _, rfl, iteF ⟨_, rfl, _, _, rfl, .inr S, rfl, _, rfl, iteF ?_⟩⟩
    refine ⟨_, rfl, _, _, rfl, S, rfl, _, _, rfl, _, _, rfl, rfl, ?_⟩
    refine ⟨_, rfl, _, rfl, _, rfl, iteT ⟨_, rfl, _, rfl, _, rfl, iteT ⟨_, rfl, _, _, rfl, rfl, _, rfl, ?_⟩⟩⟩
    rw [show (decide ((1 : Int) ≤ (q.den : Int))) = true from ge_one q]
    refine iteT ⟨_, rfl, _, rfl, _, _, rfl, rfl, ?_⟩
    rw [rat_gcd q]
    exact hQ
def spRed (K : PySem.W.Frag) : Sp := fun vs H Q _ => ∃ a b : Int, vs = [.int a, .int b] ∧ b ≠ 0 ∧ b.natAbs < 2 ^ 8000 ∧ ∀ v H', Same H H' → FrV K H' v (Rat.divInt a b) → Q v H'
theorem gcd_ok {a b : Int} (hb : b ≠ 0) (hl : b.natAbs < 2 ^ 8000) (i : Int) (d : Int) (hd : d = -((Nat.gcd a.natAbs b.natAbs : Nat) : Int) ∨ d = ((Nat.gcd a.natAbs b.natAbs : Nat) : Int)) : CDivA i d := by
  have h0 : 0 < Nat.gcd a.natAbs b.natAbs := Nat.gcd_pos_of_pos_right _ (by omega)
  have h1 : Nat.gcd a.natAbs b.natAbs ≤ b.natAbs := Nat.le_of_dvd (by omega) (Nat.gcd_dvd_right _ _)
  refine cdiv_of (b := 8000) ?_ ?_ (by omega) (by omega)
  · rcases hd with rfl | rfl <;> omega
  · have : d.natAbs = Nat.gcd a.natAbs b.natAbs := by rcases hd with rfl | rfl <;> omega
    rw [this]
    exact Nat.lt_of_le_of_lt h1 hl
theorem two_le : 2 ≤ sizeLine := by decide
theorem ok__reduced (T : Txt w K mg) : FnOk P w K mg base CX0 1 (He.ga K "_reduced") T.fd__reduced ["top", "bottom"] (spRed K) := by
  refine T.F__reduced.ok sc__reduced (fun vs H Q E h => ?_) (fun cdv A outer s H vs Q E hr h => ⟨_, PSs.nox
    (pss_cons (ps_set (i := 2) sc__reduced.nd rfl (.inl rfl) (pe_callBfun cr_gcd (by rfl) T.g_gcd (pa_cons (pv 0) (pa_cons (pv 1) pa_nil))))
      (pss_cons (ps_if (pt_cmpR op_lt (pv 1) pe_int (nomark _)) (pss_one (ps_set (i := 2) sc__reduced.nd rfl (.inl rfl) (pe_un un_neg (pv 2)))) pss_nil)
      (pss_one (ps_ret (pe_tup (pa_cons (pe_op op_fdivA (pv 0) (pv 2)) (pa_cons (pe_op op_fdivA (pv 1) (pv 2)) pa_nil))))))), ?_⟩)
  · obtain ⟨a, b, rfl, _⟩ := h
    rfl
  · obtain ⟨a, b, rfl, h0, hl, hQ⟩ := h
    refine ⟨_, rfl, _, rfl, _, _, rfl, ?_⟩
    obtain ⟨e1, e2, _⟩ := red a b h0 _ rfl
    refine ⟨_, rfl, _, _, rfl, rfl, _, rfl, ite2 (fun c => ?_) fun c => ?_⟩
    · have c1 : b < 0 := of_decide_eq_true c
      rw [if_pos c1] at e1 e2
      refine ⟨_, rfl, _, rfl, ?_⟩
      refine ⟨_, rfl, _, rfl, _, _, rfl, rfl, gcd_ok h0 hl _ _ (.inl rfl), _, rfl, _, rfl, _, _, rfl, rfl, gcd_ok h0 hl _ _ (.inl rfl), two_le, fun t ht => ?_⟩
      refine hQ _ _ (same_new ht) ⟨t, rfl, sqT_of ?_⟩
      rw [upd_same, ← e1, ← e2]
    · have c1 : ¬ b < 0 := fun q => c (decide_eq_true q)
      rw [if_neg c1] at e1 e2
      refine ⟨_, rfl, _, rfl, _, _, rfl, rfl, gcd_ok h0 hl _ _ (.inr rfl), _, rfl, _, rfl, _, _, rfl, rfl, gcd_ok h0 hl _ _ (.inr rfl), two_le, fun t ht => ?_⟩
      refine hQ _ _ (same_new ht) ⟨t, rfl, sqT_of ?_⟩
      rw [upd_same, ← e1, ← e2]
abbrev BN : Nat := 3000
theorem nmB {q : Rat} (h : B BN q) : q.num.natAbs < 2 ^ BN := h.1
theorem dnB {q : Rat} (h : B BN q) : ((q.den : Int)).natAbs < 2 ^ BN := by rw [Int.natAbs_natCast]; exact h.2
theorem mulW {i j : Int} (hi : i.natAbs < 2 ^ BN) (hj : j.natAbs < 2 ^ BN) : CMulW i j := cmul_of hi hj (by decide)
theorem mul8 {i j : Int} (hi : i.natAbs < 2 ^ BN) (hj : j.natAbs < 2 ^ BN) : (i * j).natAbs < 2 ^ 8000 := Nat.lt_of_lt_of_le (abs_mul_lt hi hj) (Nat.pow_le_pow_right (by decide) (by decide))
theorem den_ne (p q : Rat) : (p.den : Int) * q.den ≠ 0 := by have := den_mul_pos p q; omega
/-- two fractions in, one out -/
def spF2 (K : PySem.W.Frag) (f : Rat → Rat → Rat) : Sp := fun vs H Q _ => ∃ u v p q, vs = [u, v] ∧ FrV K H u p ∧ FrV K H v q ∧ B BN p ∧ B BN q ∧ ∀ x H', Same H H' → FrV K H' x (f p q) → Q x H'
theorem shF2 {K : PySem.W.Frag} {f : Rat → Rat → Rat} {vs : List V} {H : Hp} {Q : VK} {E : XK} (h : spF2 K f vs H Q E) : vs.length = 2 := by
  obtain ⟨u, v, p, q, rfl, _⟩ := h
  rfl
theorem ok__sum (T : Txt w K mg) : FnOk P w K mg base CX0 2 (He.ga K "_sum") T.fd__sum ["one", "other"] (spF2 K (fun p q => p + q)) := by
  refine T.F__sum.ok sc__sum (fun vs H Q E h => ?_) (fun cdv A outer s H vs Q E hr h => ⟨_, PSs.nox
    (pss_one (ps_ret (pe_call (ok__reduced T) (hr.mono (by decide)) (by rfl) T.g__reduced T.F__reduced.kp T.b__reduced .nil pass0 (pa_cons (pe_op op_add (pe_op op_mulW (pe_ix ix_tup (pv 0) pe_int (fun _ _ => rfl)) (pe_ix ix_tup (pv 1) pe_int (fun _ _ => rfl))) (pe_op op_mulW (pe_ix ix_tup (pv 1) pe_int (fun _ _ => rfl)) (pe_ix ix_tup (pv 0) pe_int (fun _ _ => rfl)))) (pa_cons (pe_op op_mulW (pe_ix ix_tup (pv 0) pe_int (fun _ _ => rfl)) (pe_ix ix_tup (pv 1) pe_int (fun _ _ => rfl))) pa_nil))))), ?_⟩)
  · exact shF2 h
  · obtain ⟨_, _, p, q, rfl, ⟨a, rfl, S1⟩, ⟨b, rfl, S2⟩, b1, b2, hQ⟩ := h
    refine ⟨_, rfl, _, _, _, _, rfl, rfl, S1, rfl, _, rfl, _, _, _, _, rfl, rfl, S2, rfl, _, _, rfl, rfl, mulW (nmB b1) (dnB b2), ?_⟩
    refine ⟨_, rfl, _, _, _, _, rfl, rfl, S2, rfl, _, rfl, _, _, _, _, rfl, rfl, S1, rfl, _, _, rfl, rfl, mulW (nmB b2) (dnB b1), _, _, rfl, rfl, ?_⟩
    refine ⟨_, rfl, _, _, _, _, rfl, rfl, S1, rfl, _, rfl, _, _, _, _, rfl, rfl, S2, rfl, _, _, rfl, rfl, mulW (dnB b1) (dnB b2), ?_⟩
    refine ⟨_, _, rfl, den_ne p q, mul8 (dnB b1) (dnB b2), fun x H' s r => hQ x H' s ?_⟩
    show FrV K H' x (p + q)
    rw [add_eq]
    exact r
theorem take_sum {qs : List Rat} {i : Nat} {q : Rat} (h : qs[i]? = some q) : (qs.take (i + 1)).sum = (qs.take i).sum + q := by
  rw [List.take_succ, h]
  simp [List.sum_append, Rat.add_zero]
theorem seqL_same {H H' : Hp} {a : Addr} {xs : List V} (h : SqL K H a xs) (s : Same H H') : SqL K H' a xs := Same.seq s h
/-- a list of fractions in, their sum -/
def spSumOf (K : PySem.W.Frag) : Sp := fun vs H Q _ => ∃ a xs qs, vs = [.ref a] ∧ SqL K H a xs ∧ Paired (FrV K H) xs qs ∧ (∀ i, B BN (qs.take i).sum) ∧ (∀ q ∈ qs, B BN q) ∧ ∀ x H', Same H H' → FrV K H' x qs.sum → Q x H'
theorem ok_sum_of (T : Txt w K mg) : FnOk P w K mg base CX0 3 (He.ga K "sum_of") T.fd_sum_of ["fractions"] (spSumOf K) := by
  refine T.F_sum_of.ok sc_sum_of (fun vs H Q E h => ?_) (fun cdv A outer s H vs Q E hr h => ⟨_, PSs.nox
    (pss_cons (ps_set (i := 1) sc_sum_of.nd rfl (.inl rfl) (pe_glob (v := V.ref (He.ga K "ZERO")) rfl T.g_ZERO rfl))
      (pss_cons (ps_for PassesOwn.never rfl (pi_list (pv 0)) (pg_name (i := 2) sc_sum_of.nd rfl (.inl rfl)) (pss_one (ps_set (i := 1) sc_sum_of.nd rfl (.inl rfl) (pe_call (ok__sum T) (hr.mono (by decide)) (by rfl) T.g__sum T.F__sum.kp T.b__sum .nil pass0 (pa_cons (pv 1) (pa_cons (pv 2) pa_nil))))))
      (pss_one (ps_ret (pv 1))))), ?_⟩)
  · obtain ⟨a, xs, qs, rfl, _⟩ := h
    rfl
  · obtain ⟨a, xs, qs, rfl, S, hp, b1, b2, hQ⟩ := h
    refine ⟨_, rfl, a, rfl, ⟨_, S⟩, ?_⟩
    refine for_list (xs := xs) (fun i σ H' => Same H H' ∧ ∃ o t z, σ = [o, some t, z] ∧ FrV K H' t (qs.take i).sum) ⟨Same.refl H, _, _, _, rfl, ⟨_, rfl, T.zero H⟩⟩ (fun i σ H' _ p => seqL_same S p.1) ?_ ?_
    · rintro i x σ H' hx ⟨sm, o, t, z, rfl, ft⟩
      obtain ⟨q, hq, fx⟩ := pGet hp hx
      refine ⟨_, rfl, _, rfl, _, _, _, _, rfl, ft, frV_tk fx (same_tk sm), b1 i, b2 q (List.mem_of_getElem? hq), fun y H2 s2 r => ?_⟩
      exact ⟨sm.trans s2, _, _, _, rfl, by rw [take_sum hq]; exact r⟩
    · rintro σ H' ⟨sm, o, t, z, rfl, ft⟩
      rw [pLen hp, List.take_length] at ft
      exact ⟨_, rfl, hQ _ _ sm ft⟩
end
end L10
set_option maxRecDepth 100000
set_option maxHeartbeats 4000000
namespace L10
open PySem PySem.Spec PyProof.Rows L2 Q7
section
variable {P : Program} {w : World} {K : PySem.W.Frag} {mg : Str → Option Value} {base : Heap}
/-! ### money, ends -/
def spMoney : Sp := fun vs H Q _ => ∃ n : Int, vs = [.int n] ∧ 0 ≤ n ∧ n ≤ 1000000000000 ∧ Q (.bl true) H
theorem ok__is_money (T : Txt w K mg) : FnOk P w K mg base CX0 3 (He.ga K "_is_money") T.fd__is_money ["value"] spMoney := by
  refine T.F__is_money.ok sc__is_money (fun vs H Q E h => ?_) (fun cdv A outer s H vs Q E hr h => ⟨_, PSs.nox
    (pss_one (ps_ret (pe_call (ok_is_between T) (hr.mono (by decide)) (by rfl) T.g_is_between T.F_is_between.kp T.b_is_between .nil pass0 (pa_cons (pv 0) (pa_cons pe_int (pa_cons (pe_gint rfl T.g_MOST_MONEY) pa_nil)))))), ?_⟩)
  · obtain ⟨n, rfl, _⟩ := h
    rfl
  · obtain ⟨n, rfl, h1, h2, hQ⟩ := h
    exact ⟨_, rfl, n, 0, 1000000000000, rfl, h1, h2, hQ⟩
def spEndWord : Sp := fun vs H Q _ => ∃ b : Bool, vs = [.str (wordOf b)] ∧ Q (.bl true) H
theorem ok__is_end_word (T : Txt w K mg) : FnOk P w K mg base CX0 1 (He.ga K "_is_end_word") T.fd__is_end_word ["value"] spEndWord := by
  refine T.F__is_end_word.ok sc__is_end_word (fun vs H Q E h => ?_) (fun cdv A outer s H vs Q E hr h => ⟨_, PSs.nox
    (pss_one (ps_ret (pe_and (pe_callB call_isi (by rfl) T.m_isinstance (by decide +kernel) (pa_cons (pv 0) (pa_cons (pe_bltn rfl T.m_str (v := .ty "str") (u := .type "str") (by decide +kernel) rfl) pa_nil))) (pe_one (pe_cmpR op_in_seq (pv 0) (pe_glob (v := V.ref (He.ga K "END_WORDS")) rfl T.g_END_WORDS rfl) rfl))))), ?_⟩)
  · obtain ⟨b, rfl, _⟩ := h
    rfl
  · obtain ⟨b, rfl, hQ⟩ := h
    refine ⟨_, rfl, _, _, _, _, _, rfl, .ty _, .base (.str _), T.k_str, _, rfl, iteT ⟨_, rfl, _, _, rfl, .inr (T.t_END_WORDS H), rfl, by decide, ?_⟩⟩
    rw [show inV (V.str (wordOf b)) [V.str "done", V.str "failed"] = true by cases b <;> decide +kernel]
    exact hQ
def spEndShare (K : PySem.W.Frag) : Sp := fun vs H Q _ => ∃ v q, vs = [v] ∧ FrV K H v q ∧ 0 < q.num ∧ q.den ≤ 1000 ∧ Q (.bl true) H
theorem ok__is_end_share (T : Txt w K mg) : FnOk P w K mg base CX0 3 (He.ga K "_is_end_share") T.fd__is_end_share ["value"] (spEndShare K) := by
  refine T.F__is_end_share.ok sc__is_end_share (fun vs H Q E h => ?_) (fun cdv A outer s H vs Q E hr h => ⟨_, PSs.nox
    (pss_one (ps_ret (pe_and (pe_call (ok_is_fraction T) (hr.mono (by decide)) (by rfl) T.g_is_fraction T.F_is_fraction.kp T.b_is_fraction .nil pass0 (pa_cons (pv 0) pa_nil)) (pe_and (pe_cmpR op_gt (pe_ix ix_tup (pv 0) pe_int (fun _ _ => rfl)) pe_int (nomark _)) (pe_one (pe_cmpR op_le (pe_ix ix_tup (pv 0) pe_int (fun _ _ => rfl)) (pe_gint rfl T.g_MOST_BOTTOM) (nomark _))))))), ?_⟩)
  · obtain ⟨v, q, rfl, _⟩ := h
    rfl
  · obtain ⟨v, q, rfl, f, h1, h2, hQ⟩ := h
    obtain ⟨p, rfl, S⟩ := id f
    refine ⟨_, rfl, _, q, rfl, f, _, rfl, iteT ⟨_, rfl, _, _, _, _, rfl, rfl, S, rfl, _, _, rfl, rfl, _, rfl, iteT' (decide_eq_true h1) ⟨_, rfl, _, _, _, _, rfl, rfl, S, rfl, _, _, rfl, rfl, ?_⟩⟩⟩
    dsimp only
    rw [decide_eq_true (show (q.den : Int) ≤ 1000 by omega)]
    exact hQ
def spEnd (K : PySem.W.Frag) : Sp := fun vs H Q _ => ∃ v e, vs = [v] ∧ EndV K H v e ∧ GoodE e ∧ Q (.bl true) H
theorem ok__is_end (T : Txt w K mg) : FnOk P w K mg base CX0 4 (He.ga K "_is_end") T.fd__is_end ["value"] (spEnd K) := by
  refine T.F__is_end.ok sc__is_end (fun vs H Q E h => ?_) (fun cdv A outer s H vs Q E hr h => ⟨_, PSs.nox
    (pss_cons (ps_if (PW.pt (pw_or (pt_not (pt_val (pe_callB call_isi (by rfl) T.m_isinstance (by decide +kernel) (pa_cons (pv 0) (pa_cons (pe_bltn rfl T.m_tuple (v := .ty "tuple") (u := .type "tuple") (by decide +kernel) rfl) pa_nil))))) (pw_or1 (pt_cmpR op_ne (pe_callB call_len_seq (by rfl) T.m_len (by decide +kernel) (pa_cons (pv 0) pa_nil)) pe_int (nomark _))))) (pss_one (ps_ret pe_bl)) pss_nil)
      (pss_cons (ps_asg (pv 0) (pg_tup rfl (pgs_cons (pg_name (i := 1) sc__is_end.nd rfl (.inl rfl)) (pgs_cons (pg_name (i := 2) sc__is_end.nd rfl (.inl rfl)) (pgs_cons (pg_name (i := 3) sc__is_end.nd rfl (.inl rfl)) pgs_nil)))))
      (pss_one (ps_ret (pe_and (pe_call (ok_is_between T) (hr.mono (by decide)) (by rfl) T.g_is_between T.F_is_between.kp T.b_is_between .nil pass0 (pa_cons (pv 1) (pa_cons pe_int (pa_cons (pe_gint rfl T.g_LAST_TICK) pa_nil)))) (pe_and (pe_call (ok__is_end_word T) (hr.mono (by decide)) (by rfl) T.g__is_end_word T.F__is_end_word.kp T.b__is_end_word .nil pass0 (pa_cons (pv 2) pa_nil)) (pe_one (pe_call (ok__is_end_share T) (hr.mono (by decide)) (by rfl) T.g__is_end_share T.F__is_end_share.kp T.b__is_end_share .nil pass0 (pa_cons (pv 3) pa_nil))))))))), ?_⟩)
  · obtain ⟨v, e, rfl, _⟩ := h
    rfl
  · obtain ⟨v, e, rfl, ⟨p, f, rfl, S, F⟩, g, hQ⟩ := h
    refine ⟨_, rfl, _, _, _, _, _, rfl, .ty _, tyT S, T.k_tuple, _, rfl, iteF ⟨_, rfl, _, _, rfl, .inr S, rfl, _, rfl, iteF ?_⟩⟩
    refine ⟨_, rfl, _, _, rfl, S, rfl, _, _, rfl, _, _, rfl, _, _, rfl, rfl, ?_⟩
    refine ⟨_, rfl, _, _, _, rfl, g.t0, g.t1, _, rfl, iteT ⟨_, rfl, e.2.1, rfl, _, rfl, iteT ⟨_, rfl, f, _, rfl, F, g.n0, g.d1, hQ⟩⟩⟩
theorem endsV_same {H H' : Hp} {vs : List V} {es : List EndD} (h : Paired (EndV K H) vs es) (s : Same H H') : Paired (EndV K H') vs es := pImp (fun _ _ z => endV_tk z (same_tk s)) h
theorem endV_new {H H' : Hp} {v : V} {e : EndD} (h : EndV K H v e) (s : Same H H') : EndV K H' v e := endV_tk h (same_tk s)
/-- a place: its tick and word -/
def PlV (K : PySem.W.Frag) (H : Hp) (v : V) (e : EndD) : Prop := ∃ p, v = .ref p ∧ SqT K H p [.int e.1, .str (wordOf e.2.1)]
theorem plV_same {H H' : Hp} {v : V} {e : EndD} (h : PlV K H v e) (s : Same H H') : PlV K H' v e := by
  obtain ⟨p, e1, S⟩ := h
  exact ⟨p, e1, Q7.sqT_same s S⟩
theorem plV_tk {H H' : Hp} {v : V} {e : EndD} (h : PlV K H v e) (s : TK H H') : PlV K H' v e := by
  obtain ⟨p, e1, S⟩ := h
  exact ⟨p, e1, sqT_tk S s⟩
theorem line64 : 64 < sizeLine := by decide
theorem rep_all (n : Nat) : (List.replicate n true).all id = true := by
  induction n with
  | zero => rfl
  | succ k ih => rw [List.replicate_succ]; exact ih
theorem rep_snoc {α : Type} (n : Nat) (x : α) : List.replicate n x ++ [x] = List.replicate (n + 1) x := List.replicate_succ'.symm
theorem cut_one {ws : List V} (h : 1 ≤ ws.length) : cutV ws (some 1) none = ws.drop 1 := by
  unfold cutV
  rw [show HT.sIx ws.length 0 (some 1) = 1 from by rw [show (1 : Int) = ((1 : Nat) : Int) from rfl, HT.sIx_nat]; omega, HT.sIx_none]
  rw [List.take_of_length_le (by rw [List.length_drop]; omega)]
theorem asc_at {es : List EndD} (h : (es.map endK).Pairwise (· < ·)) {i : Nat} {d e : EndD} (h1 : es[i]? = some d) (h2 : es[i + 1]? = some e) : endK d < endK e := by
  obtain ⟨l1, e1⟩ := List.getElem?_eq_some_iff.mp h1
  obtain ⟨l2, e2⟩ := List.getElem?_eq_some_iff.mp h2
  have := List.pairwise_iff_getElem.mp h i (i + 1) (by rw [List.length_map]; exact l1) (by rw [List.length_map]; exact l2) (Nat.lt_succ_self i)
  simpa [e1, e2] using this
theorem sums_B : ∀ {qs : List Rat}, (∀ q ∈ qs, B 10 q) → B (11 * qs.length + 1) qs.sum
  | [], _ => B.zero
  | q :: qs, h => by
    have h1 := sums_B (qs := qs) fun x hx => h x (List.mem_cons_of_mem _ hx)
    rw [List.sum_cons, List.length_cons]
    exact ((h q List.mem_cons_self).add h1).mono (by omega)
theorem share_B {e : EndD} (g : GoodE e) : B 10 e.2.2 := by
  have h1 := g.n0
  have h2 := g.n1
  have h3 := g.d1
  constructor
  · show e.2.2.num.natAbs < 1024
    omega
  · show e.2.2.den < 1024
    omega
theorem shares_B {es : List EndD} (g : ∀ e ∈ es, GoodE e) (l : es.length ≤ 8) : (∀ i, B BN ((es.map (·.2.2)).take i).sum) ∧ ∀ q ∈ es.map (·.2.2), B BN q := by
  have h : ∀ q ∈ es.map (·.2.2), B 10 q := fun q hq => by
    obtain ⟨e, he, rfl⟩ := List.mem_map.mp hq
    exact share_B (g e he)
  refine ⟨fun i => ?_, fun q hq => (h q hq).mono (by decide)⟩
  have h2 := sums_B (qs := (es.map (·.2.2)).take i) fun q hq => h q (List.mem_of_mem_take hq)
  refine h2.mono ?_
  rw [List.length_take, List.length_map]
  show _ ≤ 3000
  omega
theorem frV_new {H H' : Hp} {v : V} {q : Rat} (h : FrV K H v q) (s : Same H H') : FrV K H' v q := frV_tk h (same_tk s)
theorem plV_lt {H : Hp} {x y : V} {d e : EndD} (h1 : PlV K H x d) (h2 : PlV K H y e) (lt : endK d < endK e) : ∃ da db, Dp K H x da ∧ Dp K H y db ∧ PySem.W.alike da db = true ∧ da ≠ .none ∧ da.depth ≤ 60 ∧ PySem.W.dataLt da db = true := by
  obtain ⟨p, rfl, S⟩ := h1
  obtain ⟨q, rfl, R⟩ := h2
  refine ⟨_, _, .tup S (.cons (.int _) (.cons (.str _) .nil)), .tup R (.cons (.int _) (.cons (.str _) .nil)), rfl, by simp, by simp [PyData.depth, PyData.depthAll], lt_int_word ?_⟩
  obtain ⟨t1, b1, q1⟩ := d
  obtain ⟨t2, b2, q2⟩ := e
  unfold endK at lt
  simp only at lt ⊢
  cases b1 <;> cases b2 <;> simp only [if_true, if_false, Bool.false_eq_true] at lt
  · exact .inl (by omega)
  · exact .inl (by omega)
  · by_cases e : t1 < t2
    · exact .inl e
    · exact .inr ⟨by omega, by decide +kernel⟩
  · exact .inl (by omega)
def spEnds (K : PySem.W.Frag) : Sp := fun vs H Q _ => ∃ l xs es, vs = [.ref l] ∧ SqL K H l xs ∧ Paired (EndV K H) xs es ∧ (∀ e ∈ es, GoodE e) ∧ es ≠ [] ∧ es.length ≤ 8 ∧ (es.map endK).Pairwise (· < ·) ∧ (es.map (·.2.2)).sum = 1 ∧ ∀ H', Same H H' → Q (.bl true) H'
theorem ok__are_ends (T : Txt w K mg) : FnOk P w K mg base CX0 5 (He.ga K "_are_ends") T.fd__are_ends ["value"] (spEnds K) := by
  refine T.F__are_ends.ok sc__are_ends (fun vs H Q E h => ?_) (fun cdv A outer s H vs Q E hr h => ⟨_, PSs.nox
    (pss_cons (ps_if (PW.pt (pw_or (pt_not (pt_val (pe_callB call_isi (by rfl) T.m_isinstance (by decide +kernel) (pa_cons (pv 0) (pa_cons (pe_bltn rfl T.m_list (v := .ty "list") (u := .type "list") (by decide +kernel) rfl) pa_nil))))) (pw_or1 (pt_not (pt_chain op_le op_le pe_int (pe_callB call_len_seq (by rfl) T.m_len (by decide +kernel) (pa_cons (pv 0) pa_nil)) (pe_gint rfl T.g_MOST_ENDS)))))) (pss_one (ps_ret pe_bl)) pss_nil)
      (pss_cons (ps_if (pt_not (pt_val (pe_callB (cr_all rfl) (by rfl) T.m_all (by decide +kernel) (pa_cons (pe_lc (own := [("end", 8)]) rfl sc__are_ends.nd (pi_list (pv 0)) (blkOk_by (N := ["value", "places", "ascend", "tick", "word", "_", "one", "other", "end", "share"]) (sc := defScope s__are_ends) (by decide +kernel)) (fun _ _ _ _ _ => (pg_name (i := 8) sc__are_ends.nd rfl (.inl rfl) (hf := .inr rfl))) (fun _ _ _ _ _ => pts_nil) (fun _ _ _ _ _ => (pe_call (ok__is_end T) (hr.mono (by decide)) (by rfl) T.g__is_end T.F__is_end.kp T.b__is_end .nil pass0 (pa_cons (pv 8) pa_nil)))) pa_nil)))) (pss_one (ps_ret pe_bl)) pss_nil)
      (pss_cons (ps_setLc (i := 1) (own := [("tick", 3), ("word", 4), ("_", 5)]) rfl sc__are_ends.nd rfl rfl rfl (pi_list (pv 0)) (blkOk_by (N := ["value", "places", "ascend", "tick", "word", "_", "one", "other", "end", "share"]) (sc := defScope s__are_ends) (by decide +kernel)) (fun _ _ _ _ _ => (show PG _ _ (gTup K 3 (gCons (gName 3) (gCons (gName 4) (gCons (gName 5) gNil)))) from pg_tup rfl (pgs_cons (pg_name (i := 3) sc__are_ends.nd rfl (.inl rfl) (hf := .inr rfl)) (pgs_cons (pg_name (i := 4) sc__are_ends.nd rfl (.inl rfl) (hf := .inr rfl)) (pgs_cons (pg_name (i := 5) sc__are_ends.nd rfl (.inl rfl) (hf := .inr rfl)) pgs_nil))))) (fun _ _ _ _ _ => pts_nil) (fun _ _ _ _ _ => (pe_tup (pa_cons (pv 3) (pa_cons (pv 4) pa_nil)))))
      (pss_cons (ps_set (i := 2) sc__are_ends.nd rfl (.inl rfl) (pe_callB (cr_all rfl) (by rfl) T.m_all (by decide +kernel) (pa_cons (pe_lc (own := [("one", 6), ("other", 7)]) rfl sc__are_ends.nd (pi_zip (by rfl) T.m_zip (pa_cons (pv 1) (pa_cons (pe_slice sl_list (pv 1) (po_some pe_int) po_none) pa_nil))) (blkOk_by (N := ["value", "places", "ascend", "tick", "word", "_", "one", "other", "end", "share"]) (sc := defScope s__are_ends) (by decide +kernel)) (fun _ _ _ _ _ => (show PG _ _ (gTup K 2 (gCons (gName 6) (gCons (gName 7) gNil))) from pg_tup rfl (pgs_cons (pg_name (i := 6) sc__are_ends.nd rfl (.inl rfl) (hf := .inr rfl)) (pgs_cons (pg_name (i := 7) sc__are_ends.nd rfl (.inl rfl) (hf := .inr rfl)) pgs_nil)))) (fun _ _ _ _ _ => pts_nil) (fun _ _ _ _ _ => (pe_cmpR (show OpR _ (compareOp .Lt) (rLtD K) from op_ltD hr.units) (pv 6) (pv 7) (nomark _)))) pa_nil)))
      (pss_one (ps_ret (pe_and (pv 2) (pe_one (pe_cmpR (op_eqD hr.units) (pe_call (ok_sum_of T) (hr.mono (by decide)) (by rfl) T.g_sum_of T.F_sum_of.kp T.b_sum_of .nil pass0 (pa_cons (pe_lc (own := [("_", 5), ("share", 9)]) rfl sc__are_ends.nd (pi_list (pv 0)) (blkOk_by (N := ["value", "places", "ascend", "tick", "word", "_", "one", "other", "end", "share"]) (sc := defScope s__are_ends) (by decide +kernel)) (fun _ _ _ _ _ => (show PG _ _ (gTup K 3 (gCons (gName 5) (gCons (gName 5) (gCons (gName 9) gNil)))) from pg_tup rfl (pgs_cons (pg_name (i := 5) sc__are_ends.nd rfl (.inl rfl) (hf := .inr rfl)) (pgs_cons (pg_name (i := 5) sc__are_ends.nd rfl (.inl rfl) (hf := .inr rfl)) (pgs_cons (pg_name (i := 9) sc__are_ends.nd rfl (.inl rfl) (hf := .inr rfl)) pgs_nil))))) (fun _ _ _ _ _ => pts_nil) (fun _ _ _ _ _ => (pv 9))) pa_nil)) (pe_tup (pa_cons pe_int (pa_cons pe_int pa_nil))) (nomark _)))))))))), ?_⟩)
  · obtain ⟨l, xs, es, rfl, _⟩ := h
    rfl
  · obtain ⟨l, xs, es, rfl, S, P, gE, l0, l1, asc, one, hQ⟩ := h
    have xl : xs.length = es.length := pLen P
    have el : 1 ≤ es.length := by cases es with | nil => exact absurd rfl l0 | cons => simp
    have l64 : 64 < sizeLine := line64
    refine ⟨_, rfl, _, _, _, _, _, rfl, .ty _, tyL S, T.k_list, _, rfl, iteF ?_⟩
    refine ⟨_, rfl, l, xs, rfl, .inl S, _, _, rfl, rfl, _, rfl, iteT' (decide_eq_true (by omega)) ⟨_, _, rfl, rfl, _, rfl, iteE (by rw [decide_eq_true (by omega)]; rfl) ?_⟩⟩
    -- all are ends
    refine ⟨_, rfl, l, rfl, ⟨_, S⟩, fun D hD => ?_⟩
    refine lc_list (xs := xs) (fun i H' => Same H H' ∧ H' D = some (.lst (List.replicate i (.bl true)))) ⟨same_new hD, upd_same⟩ (fun i H' _ p => Q7.sqL_same p.1 S) ?_ ?_
    · rintro i v H' hv ⟨sm, hd⟩
      obtain ⟨e, he, fx⟩ := pGet P hv
      have := (List.getElem?_eq_some_iff.mp hv).1
      refine ⟨rfl, _, rfl, _, e, rfl, endV_new fx sm, gE e (List.mem_of_getElem? he), _, hd, by rw [List.length_replicate]; omega, same_mut sm hD, ?_⟩
      rw [upd_same, rep_snoc]
    rintro H2 ⟨s2, hd2⟩
    refine ⟨D, List.replicate xs.length true, rfl, sqL_of (by rw [hd2, List.map_replicate]), _, rfl, ?_⟩
    rw [rep_all]
    refine iteF ?_
    clear hd2
    -- the places
    refine ⟨_, rfl, l, rfl, ⟨_, Q7.sqL_same s2 S⟩, fun D2 hD2 => ?_⟩
    refine lc_list (xs := xs) (fun i H' => Same H2 H' ∧ ∃ ws, H' D2 = some (.lst ws) ∧ Paired (PlV K H') ws (es.take i)) ⟨same_new hD2, [], upd_same, .nil⟩ (fun i H' _ p => Q7.sqL_same (s2.trans p.1) S) ?_ ?_
    · rintro i v H' hv ⟨sm, ws, hw, PW⟩
      obtain ⟨e, he, fx⟩ := pGet P hv
      have hi := (List.getElem?_eq_some_iff.mp hv).1
      obtain ⟨p, f, rfl, Sp, F⟩ := endV_new fx (s2.trans sm)
      refine ⟨p, _, rfl, Sp, rfl, _, _, rfl, _, _, rfl, _, _, rfl, rfl, rfl, ?_⟩
      refine ⟨_, rfl, _, rfl, two_le, fun t ht => ?_⟩
      have k1 := same_new (o := .tup [.int e.1, .str (wordOf e.2.1)]) ht
      have hw2 := k1 _ _ hw
      have wl : ws.length ≤ i := by rw [pLen PW, List.length_take]; omega
      refine ⟨ws, hw2, by omega, same_mut (sm.trans k1) hD2, _, upd_same, ?_⟩
      rw [List.take_succ, he]
      exact pApp (pImp (fun _ _ z => plV_tk z ((same_tk k1).trans (tk_lst hw2))) PW) (.cons ⟨t, rfl, sqT_tk (sqT_of upd_same) (tk_lst hw2)⟩ .nil)
    rintro H3 ⟨s3, ws, hw, PW⟩
    rw [xl, List.take_length] at PW
    have wl : ws.length = es.length := pLen PW
    have wl1 : 1 ≤ ws.length := by omega
    refine ⟨_, rfl, _, rfl, _, rfl, D2, ws, rfl, sqL_of hw, fun p hp => ?_⟩
    have k1 := same_new (o := .lst (cutV ws (some 1) none)) hp
    rw [cut_one wl1] at k1 ⊢
    have hp2 := upd_same (H := H3) (a := p) (o := .lst (ws.drop 1))
    replace hw := k1 _ _ hw
    replace PW := pImp (fun _ _ z => plV_same z k1) PW
    have s4 := (s2.trans s3).trans k1
    generalize upd H3 p (.lst (ws.drop 1)) = H4 at *
    clear s2 s3 k1 hp hD hD2
    refine ⟨D2, p, ws, ws.drop 1, rfl, sqL_of hw, sqL_of hp2, fun D3 hD3 => ?_⟩
    refine lc_it (walk_zip (K := K) (a := D2) (b := p) (xs := ws) (ys := ws.drop 1) rfl) (fun i H' => Same H4 H' ∧ H' D3 = some (.lst (List.replicate i (.bl true)))) ⟨same_new hD3, upd_same⟩ (fun i H' _ r => ⟨sqL_of (r.1 _ _ hw), sqL_of (r.1 _ _ hp2)⟩) ?_ ?_
    · rintro i v H' H'' hi ⟨sm, hd⟩ ⟨TT, x, y, rfl, hT, rfl, hx, hy⟩
      rw [List.length_drop] at hi
      have hy' : ws[i + 1]? = some y := by
        have hy2 : (ws.drop 1)[i]? = some y := hy
        rwa [List.getElem?_drop, Nat.add_comm] at hy2
      obtain ⟨e1, he1, p1⟩ := pGet PW hx
      obtain ⟨e2, he2, p2⟩ := pGet PW hy'
      have k2 := same_new (o := .tup [x, y]) hT
      have lt := asc_at asc he1 he2
      obtain ⟨da, db, q1, q2, q3, q4, q5, q6⟩ := plV_lt (plV_same p1 (sm.trans k2)) (plV_same p2 (sm.trans k2)) lt
      refine ⟨TT, _, rfl, sqT_of upd_same, rfl, _, _, rfl, _, _, rfl, rfl, rfl, ?_⟩
      refine ⟨_, rfl, _, rfl, da, db, q1, q2, q3, q4, q5, ?_⟩
      rw [q6]
      refine ⟨_, k2 _ _ hd, by rw [List.length_replicate]; omega, same_mut (sm.trans k2) hD3, ?_⟩
      rw [upd_same, rep_snoc]
    rintro H5 ⟨s5, hd5⟩
    refine ⟨D3, List.replicate (min ws.length (ws.drop 1).length) true, rfl, sqL_of (by rw [hd5, List.map_replicate]), ?_⟩
    rw [rep_all]
    refine ⟨_, rfl, _, rfl, iteT ?_⟩
    have s6 := s4.trans s5
    clear hd5 s4 s5 hD3 hw hp2 PW
    -- the sum
    refine ⟨_, rfl, l, rfl, ⟨_, Q7.sqL_same s6 S⟩, fun D4 hD4 => ?_⟩
    refine lc_list (xs := xs) (fun i H' => Same H5 H' ∧ ∃ ws, H' D4 = some (.lst ws) ∧ Paired (FrV K H') ws ((es.map (·.2.2)).take i)) ⟨same_new hD4, [], upd_same, .nil⟩ (fun i H' _ p => Q7.sqL_same (s6.trans p.1) S) ?_ ?_
    · rintro i v H' hv ⟨sm, ws, hw, PW⟩
      obtain ⟨e, he, fx⟩ := pGet P hv
      have hi := (List.getElem?_eq_some_iff.mp hv).1
      obtain ⟨p, f, rfl, Sp, F⟩ := endV_new fx (s6.trans sm)
      have wl : ws.length ≤ i := by rw [pLen PW, List.length_take]; omega
      refine ⟨p, _, rfl, Sp, rfl, _, _, rfl, _, _, rfl, _, _, rfl, rfl, rfl, ?_⟩
      refine ⟨_, rfl, ws, hw, by omega, same_mut sm hD4, _, upd_same, ?_⟩
      rw [List.take_succ, List.getElem?_map, he]
      exact pApp (pImp (fun _ _ z => frV_tk z (tk_lst hw)) PW) (.cons (frV_tk F (tk_lst hw)) .nil)
    rintro H6 ⟨s7, ws, hw, PW⟩
    rw [xl, List.take_of_length_le (by rw [List.length_map]; omega)] at PW
    obtain ⟨b1, b2⟩ := shares_B gE l1
    refine ⟨D4, ws, _, rfl, sqL_of hw, PW, b1, b2, fun x H7 s8 fx => ⟨two_le, fun t ht => ?_⟩⟩
    rw [one] at fx
    have k3 := same_new (o := .tup [.int 1, .int 1]) ht
    obtain ⟨px, rfl, Sx⟩ := frV_new fx k3
    refine ⟨_, _, .tup Sx (.cons (.int _) (.cons (.int _) .nil)), .tup (sqT_of upd_same) (.cons (.int _) (.cons (.int _) .nil)), rfl, rfl, ?_⟩
    have hE := hQ _ (((s6.trans s7).trans s8).trans k3)
    rw [show (PyData.tuple [PyData.int (Rat.num 1), PyData.int (Rat.den 1 : Nat)]).eqv (PyData.tuple [PyData.int 1, PyData.int 1]) = true by simp [PyData.eqv, PyData.eqvAll]]
    exact hE
def spTask (K : PySem.W.Frag) : Sp := fun vs H Q _ => ∃ v t, vs = [v] ∧ TaskV K H v t ∧ GoodT t ∧ ∀ H', Same H H' → Q (.bl true) H'
theorem ok_is_task (T : Txt w K mg) : FnOk P w K mg base CX0 6 (He.ga K "is_task") T.fd_is_task ["value"] (spTask K) := by
  refine T.F_is_task.ok sc_is_task (fun vs H Q E h => ?_) (fun cdv A outer s H vs Q E hr h => ⟨_, PSs.nox
    (pss_cons (ps_if (PW.pt (pw_or (pt_not (pt_val (pe_callB call_isi (by rfl) T.m_isinstance (by decide +kernel) (pa_cons (pv 0) (pa_cons (pe_bltn rfl T.m_tuple (v := .ty "tuple") (u := .type "tuple") (by decide +kernel) rfl) pa_nil))))) (pw_or1 (pt_cmpR op_ne (pe_callB call_len_seq (by rfl) T.m_len (by decide +kernel) (pa_cons (pv 0) pa_nil)) pe_int (nomark _))))) (pss_one (ps_ret pe_bl)) pss_nil)
      (pss_cons (ps_asg (pv 0) (pg_tup rfl (pgs_cons (pg_name (i := 1) sc_is_task.nd rfl (.inl rfl)) (pgs_cons (pg_name (i := 2) sc_is_task.nd rfl (.inl rfl)) (pgs_cons (pg_name (i := 3) sc_is_task.nd rfl (.inl rfl)) pgs_nil)))))
      (pss_one (ps_ret (pe_and (pe_call (ok__is_money T) (hr.mono (by decide)) (by rfl) T.g__is_money T.F__is_money.kp T.b__is_money .nil pass0 (pa_cons (pv 1) pa_nil)) (pe_and (pe_or (pe_cmpR op_isN (pv 2) pe_non (nomark _)) (pe_one (pe_call (ok__is_money T) (hr.mono (by decide)) (by rfl) T.g__is_money T.F__is_money.kp T.b__is_money .nil pass0 (pa_cons (pv 2) pa_nil)))) (pe_one (pe_call (ok__are_ends T) (hr.mono (by decide)) (by rfl) T.g__are_ends T.F__are_ends.kp T.b__are_ends .nil pass0 (pa_cons (pv 3) pa_nil))))))))), ?_⟩)
  · obtain ⟨v, t, rfl, _⟩ := h
    rfl
  · obtain ⟨v, t, rfl, ⟨p, l, xs, rfl, S, L, P⟩, g, hQ⟩ := h
    refine ⟨_, rfl, _, _, _, _, _, rfl, .ty _, tyT S, T.k_tuple, _, rfl, iteF ⟨_, rfl, _, _, rfl, .inr S, rfl, _, rfl, iteF ?_⟩⟩
    refine ⟨_, rfl, _, _, rfl, S, rfl, _, _, rfl, _, _, rfl, _, _, rfl, rfl, ?_⟩
    have hE : ∀ H', Same H H' → Q (.bl true) H' := hQ
    obtain ⟨cost, undo, ends⟩ := t
    refine ⟨_, rfl, cost, rfl, g.c0, g.c1, _, rfl, iteT ?_⟩
    cases undo with
    | none => exact ⟨_, rfl, rfl, _, rfl, iteT ⟨_, rfl, iteT ⟨_, rfl, l, xs, ends, rfl, sqL_of L, P, g.e, g.l0, g.l1, g.asc, g.one, hE⟩⟩⟩
    | some u =>
      obtain ⟨u0, u1⟩ := g.u u rfl
      exact ⟨_, rfl, rfl, _, rfl, iteF ⟨_, rfl, u, rfl, u0, u1, _, rfl, iteT ⟨_, rfl, l, xs, ends, rfl, sqL_of L, P, g.e, g.l0, g.l1, g.asc, g.one, hE⟩⟩⟩
/-! ### names -/
theorem same_lock {H H2 : Hp} {d : Addr} {o : Obj} {u : HO} (s : Same (upd H d (.frz o u)) H2) (hd : H d = some u) : Same H (upd H2 d u) := fun a v e => by
  by_cases z : a = d
  · subst z
    rw [hd] at e
    rw [upd_same, e]
  · rw [upd_ne z]
    exact s _ _ (by rw [upd_ne z]; exact e)
theorem not_in {x : Str} : ∀ {ws : List Str}, x ∉ ws → inV (V.str x) (ws.map V.str) = false
  | [], _ => rfl
  | w :: ws, h => by
    have h1 : x ≠ w := fun z => h (by rw [z]; exact List.mem_cons_self)
    have h2 := not_in (x := x) (ws := ws) fun z => h (List.mem_cons_of_mem _ z)
    unfold inV at h2 ⊢
    rw [List.map_cons, List.any_cons, h2, Bool.or_false]
    simp [eqV, Ne.symm h1]
theorem char_ge {c : Nat} (h : 97 ≤ c) : (!decide ((⟨#[c]⟩ : Str).cps.toList < ("a" : Str).cps.toList)) = true := by
  have e : ("a" : Str).cps.toList = [97] := by decide +kernel
  rw [e]
  have : ¬ ([c] : List Nat) < [97] := by
    intro z
    rcases List.cons_lt_cons_iff.mp z with z | ⟨_, z⟩
    · omega
    · exact absurd z (List.lt_irrefl _)
  simpa using this
theorem char_le {c : Nat} (h : c ≤ 122) : (!decide (("z" : Str).cps.toList < (⟨#[c]⟩ : Str).cps.toList)) = true := by
  have e : ("z" : Str).cps.toList = [122] := by decide +kernel
  rw [e]
  have : ¬ ([122] : List Nat) < [c] := by
    intro z
    rcases List.cons_lt_cons_iff.mp z with z | ⟨_, z⟩
    · omega
    · exact absurd z (List.lt_irrefl _)
  simpa using this
def spName : Sp := fun vs H Q _ => ∃ x : Str, vs = [.str x] ∧ GoodN x ∧ ∀ H', Same H H' → Q (.bl true) H'
theorem ok_is_name (T : Txt w K mg) : FnOk P w K mg base CX0 1 (He.ga K "is_name") T.fd_is_name ["value"] spName := by
  refine T.F_is_name.ok sc_is_name (fun vs H Q E h => ?_) (fun cdv A outer s H vs Q E hr h => ⟨_, PSs.nox
    (pss_cons (ps_if (PW.pt (pw_or (pt_not (pt_val (pe_callB call_isi (by rfl) T.m_isinstance (by decide +kernel) (pa_cons (pv 0) (pa_cons (pe_bltn rfl T.m_str (v := .ty "str") (u := .type "str") (by decide +kernel) rfl) pa_nil))))) (pw_or1 (pt_not (pt_chain op_le op_le pe_int (pe_callB call_len_str (by rfl) T.m_len (by decide +kernel) (pa_cons (pv 0) pa_nil)) (pe_gint rfl T.g_MOST_LETTERS)))))) (pss_one (ps_ret pe_bl)) pss_nil)
      (pss_one (ps_ret (pe_and (pe_callB (cr_all rfl) (by rfl) T.m_all (by decide +kernel) (pa_cons (pe_lc (own := [("sign", 1)]) rfl sc_is_name.nd (pi_str (pv 0)) (blkOk_by (N := ["value", "sign"]) (sc := defScope s_is_name) (by decide +kernel)) (fun _ _ _ _ _ => (pg_name (i := 1) sc_is_name.nd rfl (.inl rfl) (hf := .inr rfl))) (fun _ _ _ _ _ => pts_nil) (fun _ _ _ _ _ => (pe_chain op_le_str op_le_str pe_str (pv 1) pe_str))) pa_nil)) (pe_one (pe_cmpR op_notIn_seq (pv 0) (pe_glob (v := V.ref (He.ga K "PLAN_WORDS")) rfl T.g_PLAN_WORDS rfl) rfl)))))), ?_⟩)
  · obtain ⟨x, rfl, _⟩ := h
    rfl
  · obtain ⟨x, rfl, g, hQ⟩ := h
    refine ⟨_, rfl, _, _, _, _, _, rfl, .ty _, .base (.str _), T.k_str, _, rfl, iteF ?_⟩
    have hxl : x.length = x.cps.size := rfl
    refine ⟨_, rfl, x, rfl, Nat.le_trans g.l1 (by decide), _, _, rfl, rfl, _, rfl, iteT' (decide_eq_true (by have := g.l0; omega)) ⟨_, _, rfl, rfl, _, rfl, iteE (by rw [decide_eq_true (by have := g.l1; omega)]; rfl) ?_⟩⟩
    refine ⟨_, rfl, x, rfl, fun D hD => ?_⟩
    refine lc_it (walk_str (z := x)) (fun i H' => Same H H' ∧ H' D = some (.lst (List.replicate i (.bl true)))) ⟨same_new hD, upd_same⟩ (fun i H' _ r => trivial) ?_ ?_
    · rintro i v H' H'' hi ⟨sm, hd⟩ ⟨rfl, c, hc, rfl⟩
      have hm : c ∈ x.cps.toList := List.mem_of_getElem? (by rw [Array.getElem?_toList]; exact hc)
      obtain ⟨a1, a2⟩ := g.az c hm
      refine ⟨rfl, _, rfl, _, _, rfl, rfl, _, rfl, iteT' (char_ge a1) ⟨_, _, rfl, rfl, ?_⟩⟩
      rw [char_le a2]
      refine ⟨_, hd, by rw [List.length_replicate]; have := g.l1; have := line64; omega, same_mut sm hD, ?_⟩
      rw [upd_same, rep_snoc]
    rintro H2 ⟨s2, hd2⟩
    refine ⟨D, List.replicate x.cps.size true, rfl, sqL_of (by rw [hd2, List.map_replicate]), _, rfl, ?_⟩
    rw [rep_all]
    refine iteT ⟨_, rfl, _, _, rfl, .inr (T.t_PLAN_WORDS H2), rfl, by decide, ?_⟩
    have hE := hQ _ s2
    have e : inV (V.str x) (planWords.map V.str) = false := not_in g.pw
    show Q (V.bl (!inV (V.str x) (planWords.map V.str))) H2
    rw [e]
    exact hE
/-! ### tasks -/
structure GoodTs (ts : List (Str × TaskD)) : Prop where
  l0 : 1 ≤ ts.length
  l1 : ts.length ≤ 12
  nm : ∀ t ∈ ts, GoodN t.1
  tk : ∀ t ∈ ts, GoodT t.2
  nd : (ts.map (·.1)).Nodup
def spNames (K : PySem.W.Frag) : Sp := fun vs H Q _ => ∃ d kvs ts, vs = [.ref d] ∧ H d = some (.dK kvs) ∧ Paired (fun (kv : Key × V) (t : Str × TaskD) => kv.1 = Sum.inr t.1) kvs ts ∧ GoodTs ts ∧ ∀ H', Same H H' → Q (.bl true) H'
theorem ok__has_names (T : Txt w K mg) : FnOk P w K mg base CX0 2 (He.ga K "_has_names") T.fd__has_names ["value"] (spNames K) := by
  refine T.F__has_names.ok sc__has_names (fun vs H Q E h => ?_) (fun cdv A outer s H vs Q E hr h => ⟨_, PSs.nox
    (pss_cons (ps_if (PW.pt (pw_or (pt_not (pt_val (pe_callB call_isi (by rfl) T.m_isinstance (by decide +kernel) (pa_cons (pv 0) (pa_cons (pe_bltn rfl T.m_dict (v := .ty "dict") (u := .type "dict") (by decide +kernel) rfl) pa_nil))))) (pw_or1 (pt_not (pt_chain op_le op_le pe_int (pe_callB call_lenD (by rfl) T.m_len (by decide +kernel) (pa_cons (pv 0) pa_nil)) (pe_gint rfl T.g_MOST_TASKS)))))) (pss_one (ps_ret pe_bl)) pss_nil)
      (pss_one (ps_ret (pe_callB (cr_all rfl) (by rfl) T.m_all (by decide +kernel) (pa_cons (pe_lock (pe_lc (own := [("name", 1)]) rfl sc__has_names.nd (pi_keys (pv 0)) (blkOk_by (N := ["value", "name"]) (sc := defScope s__has_names) (by decide +kernel)) (fun _ _ _ _ _ => (pg_name (i := 1) sc__has_names.nd rfl (.inl rfl) (hf := .inr rfl))) (fun _ _ _ _ _ => pts_nil) (fun _ _ _ _ _ => (pe_call (ok_is_name T) (hr.mono (by decide)) (by rfl) T.g_is_name T.F_is_name.kp T.b_is_name .nil pass0 (pa_cons (pv 1) pa_nil))))) pa_nil))))), ?_⟩)
  · obtain ⟨d, kvs, ts, rfl, _⟩ := h
    rfl
  · obtain ⟨d, kvs, ts, rfl, hd, P, g, hQ⟩ := h
    have kl : kvs.length = ts.length := pLen P
    have k0 := g.l0
    have k1 := g.l1
    refine ⟨_, rfl, _, _, _, _, _, rfl, .ty _, .base (.dK hd), T.k_dict, _, rfl, iteF ?_⟩
    refine ⟨_, rfl, d, kvs, rfl, hd, _, _, rfl, rfl, _, rfl, iteT' (decide_eq_true (by omega)) ⟨_, _, rfl, rfl, _, rfl, iteE (by rw [decide_eq_true (by omega)]; rfl) ?_⟩⟩
    refine ⟨d, .dK kvs, hd, trivial, fun od => ?_⟩
    have h0 := upd_same (H := H) (a := d) (o := .frz od (.dK kvs))
    have lk := fun H' (s : Same (upd H d (.frz od (.dK kvs))) H') => same_lock s hd
    generalize upd H d (.frz od (.dK kvs)) = H0 at *
    refine ⟨_, rfl, d, od, rfl, .inl ⟨kvs, h0, fun D hD => ?_⟩⟩
    refine lc_it (walk_keys (d := d) (o := od) (kvs := kvs)) (fun i H' => Same H0 H' ∧ H' D = some (.lst (List.replicate i (.bl true)))) ⟨same_new hD, upd_same⟩ (fun i H' _ r => r.1 _ _ h0) ?_ ?_
    · rintro i v H' H'' hi ⟨sm, hw⟩ ⟨rfl, k, x, hk, rfl⟩
      obtain ⟨t, ht, e⟩ := pGet P hk
      simp only at e
      subst e
      refine ⟨rfl, _, rfl, t.1, rfl, g.nm t (List.mem_of_getElem? ht), fun H2 s2 => ?_⟩
      refine ⟨_, s2 _ _ hw, by rw [List.length_replicate]; have := line64; omega, same_mut (sm.trans s2) hD, ?_⟩
      rw [upd_same, rep_snoc]
    rintro H2 ⟨s2, hd2⟩
    have Dd : D ≠ d := fun z => by subst z; rw [hD] at h0; cases h0
    refine ⟨s2 _ _ h0, D, List.replicate kvs.length true, rfl, sqL_of (by rw [upd_ne Dd, hd2, List.map_replicate]), ?_⟩
    rw [rep_all]
    exact hQ _ (lk _ s2)
end
end L10
set_option maxRecDepth 100000
set_option maxHeartbeats 4000000
namespace L10
open PySem PySem.Spec PyProof.Rows L2 Q7
section
variable {P : Program} {w : World} {K : PySem.W.Frag} {mg : Str → Option Value} {base : Heap}
/-! ### dicts of tasks -/
def TsP (K : PySem.W.Frag) (H : Hp) (kvs : List (Key × V)) (ts : List (Str × TaskD)) : Prop := Paired (fun (kv : Key × V) (t : Str × TaskD) => kv.1 = Sum.inr t.1 ∧ TaskV K H kv.2 t.2) kvs ts
theorem tsP_imp {H H' : Hp} {kvs : List (Key × V)} {ts : List (Str × TaskD)} (f : ∀ v t, TaskV K H v t → TaskV K H' v t) (h : TsP K H kvs ts) : TsP K H' kvs ts := pImp (fun _ _ z => ⟨z.1, f _ _ z.2⟩) h
theorem tsP_same {H H' : Hp} {kvs : List (Key × V)} {ts : List (Str × TaskD)} (h : TsP K H kvs ts) (s : Same H H') : TsP K H' kvs ts := tsP_imp (fun _ _ z => taskV_same z s) h
theorem tsP_names {H : Hp} {kvs : List (Key × V)} {ts : List (Str × TaskD)} (h : TsP K H kvs ts) : Paired (fun (kv : Key × V) (t : Str × TaskD) => kv.1 = Sum.inr t.1) kvs ts := pImp (fun _ _ z => z.1) h
theorem tsP_keys {H : Hp} : ∀ {kvs : List (Key × V)} {ts : List (Str × TaskD)}, TsP K H kvs ts → kvs.map (·.1) = (ts.map (·.1)).map Sum.inr
  | _, _, .nil => rfl
  | _, _, .cons h r => by
    simp only [List.map_cons]
    rw [h.1, tsP_keys r]
theorem tsP_get {H : Hp} {n : Str} {t : TaskD} : ∀ {kvs : List (Key × V)} {ts : List (Str × TaskD)}, TsP K H kvs ts → (ts.map (·.1)).Nodup → (n, t) ∈ ts → ∃ v, valV kvs (Sum.inr n) = some v ∧ TaskV K H v t
  | _, _, .nil, _, h => by simp at h
  | kv :: kvs, u :: ts, .cons h r, nd, hm => by
    rw [List.map_cons, List.nodup_cons] at nd
    rcases List.mem_cons.mp hm with e | hm
    · subst e
      exact ⟨kv.2, valV_pos h.1, h.2⟩
    · obtain ⟨v, e1, e2⟩ := tsP_get r nd.2 hm
      refine ⟨v, ?_, e2⟩
      rw [valV_neg]
      · exact e1
      · rw [h.1]
        intro z
        cases z
        exact nd.1 (List.mem_map.mpr ⟨_, hm, rfl⟩)
theorem tsP_not {H : Hp} {n : Str} : ∀ {kvs : List (Key × V)} {ts : List (Str × TaskD)}, TsP K H kvs ts → n ∉ ts.map (·.1) → valV kvs (Sum.inr n) = none
  | _, _, .nil, _ => rfl
  | kv :: kvs, u :: ts, .cons h r, nd => by
    rw [valV_neg]
    · exact tsP_not r fun z => nd (List.mem_cons_of_mem _ z)
    · rw [h.1]
      intro z
      cases z
      exact nd List.mem_cons_self
theorem tsP_some {H : Hp} {n : Str} {t : TaskD} : ∀ {kvs : List (Key × V)} {ts : List (Str × TaskD)}, TsP K H kvs ts → (n, t) ∈ ts → ∃ v, valV kvs (Sum.inr n) = some v
  | _, _, .nil, h => by simp at h
  | kv :: kvs, u :: ts, .cons h r, hm => by
    by_cases z : kv.1 = Sum.inr n
    · exact ⟨_, valV_pos z⟩
    · rw [valV_neg z]
      rcases List.mem_cons.mp hm with e | hm
      · subst e
        exact absurd h.1 z
      · exact tsP_some r hm
theorem dget_at {H : Hp} {d : Addr} {kvs : List (Key × V)} {n : Str} {v : V} (hd : H d = some (.dK kvs)) (h : valV kvs (Sum.inr n) = some v) : DGet H d (.str n) (some v) := .inl ⟨kvs, Sum.inr n, .inl hd, rfl, h.symm⟩
def TasksV (K : PySem.W.Frag) (H : Hp) (d : Addr) (ts : List (Str × TaskD)) : Prop := ∃ kvs, H d = some (.dK kvs) ∧ TsP K H kvs ts
theorem tasksV_same {H H' : Hp} {d : Addr} {ts : List (Str × TaskD)} (h : TasksV K H d ts) (s : Same H H') : TasksV K H' d ts := by
  obtain ⟨kvs, h1, h2⟩ := h
  exact ⟨kvs, s _ _ h1, tsP_same h2 s⟩
theorem taskV_lock {H : Hp} {v : V} {t : TaskD} {d : Addr} {kvs : List (Key × V)} (h : TaskV K H v t) (hd : H d = some (.dK kvs)) (u : HO) : TaskV K (upd H d u) v t := by
  obtain ⟨p, l, es, e1, S, L, P⟩ := h
  exact ⟨p, l, es, e1, sqT_tk S (tk_dk hd), by rw [upd_ne (fun z => by subst z; rw [hd] at L; cases L)]; exact L, pImp (fun _ _ z => endV_tk z (tk_dk hd)) P⟩
def spChk (K : PySem.W.Frag) : Sp := fun vs H Q _ => ∃ d ts, vs = [.ref d] ∧ TasksV K H d ts ∧ GoodTs ts ∧ ∀ H', Same H H' → Q .non H'
theorem ok_check_tasks (T : Txt w K mg) : FnOk P w K mg base CX0 7 (He.ga K "check_tasks") T.fd_check_tasks ["tasks"] (spChk K) := by
  refine T.F_check_tasks.ok sc_check_tasks (fun vs H Q E h => ?_) (fun cdv A outer s H vs Q E hr h => ⟨_, PSs.nox
    (pss_cons (ps_if (pt_not (pt_val (pe_call (ok__has_names T) (hr.mono (by decide)) (by rfl) T.g__has_names T.F__has_names.kp T.b__has_names .nil pass0 (pa_cons (pv 0) pa_nil)))) (pss_one ps_never) pss_nil)
      (pss_one (ps_for PassesOwn.never rfl (pi_list (pe_callB (call_sortedD rfl) (by rfl) T.m_sorted (by decide +kernel) (pa_cons (pv 0) pa_nil))) (pg_name (i := 1) sc_check_tasks.nd rfl (.inl rfl)) (pss_one (ps_if (pt_not (pt_val (pe_call (ok_is_task T) (hr.mono (by decide)) (by rfl) T.g_is_task T.F_is_task.kp T.b_is_task .nil pass0 (pa_cons (pe_dget (hu_of hr) (pv 0) (pv 1) (fun _ _ => rfl)) pa_nil)))) (pss_one ps_never) pss_nil))))), ?_⟩)
  · obtain ⟨d, ts, rfl, _⟩ := h
    rfl
  · obtain ⟨d, ts, rfl, ⟨kvs, hd, P⟩, g, hQ⟩ := h
    have kl : kvs.length = ts.length := pLen P
    have k1 := g.l1
    refine ⟨_, rfl, d, kvs, ts, rfl, hd, tsP_names P, g, fun H1 s1 => ⟨_, rfl, iteF ?_⟩⟩
    refine ⟨_, rfl, d, kvs, ts.map (·.1), rfl, .inl (s1 _ _ hd), tsP_keys P, by rw [List.length_map]; omega, fun ys p hp hs hn => ?_⟩
    have s2 := s1.trans (same_new (o := .lst (ys.map V.str)) hn)
    have hL := upd_same (H := H1) (a := p) (o := .lst (ys.map V.str))
    generalize upd H1 p (.lst (ys.map V.str)) = H2 at *
    refine ⟨p, rfl, ⟨_, sqL_of hL⟩, ?_⟩
    refine for_list (xs := ys.map V.str) (fun i σ H' => Same H2 H' ∧ ∃ o, σ = [some (.ref d), o]) ⟨Same.refl _, _, rfl⟩ (fun i σ H' _ r => sqL_of (r.1 _ _ hL)) ?_ ?_
    · rintro i v σ H' hv ⟨sm, o, rfl⟩
      rw [List.getElem?_map] at hv
      obtain ⟨n, hn', rfl⟩ := Option.map_eq_some_iff.mp hv
      obtain ⟨⟨n', t⟩, ht, e⟩ := List.mem_map.mp (hp.mem_iff.mp (List.mem_of_getElem? hn'))
      simp only at e
      subst e
      obtain ⟨x, hx, tx⟩ := tsP_get P g.nd ht
      have s3 := s2.trans sm
      refine ⟨_, rfl, _, rfl, d, x, rfl, dget_at (s3 _ _ hd) hx, _, t, rfl, taskV_same tx s3, g.tk _ ht, fun H3 s4 => ⟨_, rfl, iteF ?_⟩⟩
      exact ⟨sm.trans s4, _, rfl⟩
    · rintro σ H' ⟨sm, o, rfl⟩
      exact hQ _ (s2.trans sm)
theorem bool_not_true : (!true) = false := rfl
def spKnown (K : PySem.W.Frag) : Sp := fun vs H Q _ => ∃ d n ts, vs = [.ref d, .str n] ∧ TasksV K H d ts ∧ n ∈ ts.map (·.1) ∧ Q (.bl true) H
theorem ok_is_known (T : Txt w K mg) : FnOk P w K mg base CX0 1 (He.ga K "is_known") T.fd_is_known ["tasks", "value"] (spKnown K) := by
  refine T.F_is_known.ok sc_is_known (fun vs H Q E h => ?_) (fun cdv A outer s H vs Q E hr h => ⟨_, PSs.nox
    (pss_one (ps_ret (pe_and (pe_callB call_isi (by rfl) T.m_isinstance (by decide +kernel) (pa_cons (pv 1) (pa_cons (pe_bltn rfl T.m_str (v := .ty "str") (u := .type "str") (by decide +kernel) rfl) pa_nil))) (pe_one (pe_cmp (pc_din (hu_of hr) (pv 1) (pv 0)) rfl))))), ?_⟩)
  · obtain ⟨d, n, ts, rfl, _⟩ := h
    rfl
  · obtain ⟨d, n, ts, rfl, ⟨kvs, hd, P⟩, hn, hQ⟩ := h
    obtain ⟨⟨n', t⟩, ht, e⟩ := List.mem_map.mp hn
    simp only at e
    subst e
    obtain ⟨x, hx⟩ := tsP_some P ht
    exact ⟨_, rfl, _, _, _, _, _, rfl, .ty _, .base (.str _), T.k_str, _, rfl, iteT ⟨_, rfl, _, rfl, d, some x, rfl, dget_at hd hx, hQ⟩⟩
def spChkK (K : PySem.W.Frag) : Sp := fun vs H Q _ => ∃ d n ts, vs = [.ref d, .str n] ∧ TasksV K H d ts ∧ GoodTs ts ∧ n ∈ ts.map (·.1) ∧ ∀ H', Same H H' → Q .non H'
theorem at_end {α : Type} {xs : List α} (h : 1 ≤ xs.length) : atI xs (-1) = xs[xs.length - 1]? := by
  unfold atI ixN
  rw [if_neg (by decide), if_pos (by omega)]
  show xs[((-1 : Int) + (xs.length : Int)).toNat]? = _
  congr 1
  omega
def spLast (K : PySem.W.Frag) : Sp := fun vs H Q _ => ∃ v t, vs = [v] ∧ TaskV K H v t ∧ t.ends ≠ [] ∧ ∀ e, t.ends.getLast? = some e → Q (.int e.1) H
theorem ok_last_tick (T : Txt w K mg) : FnOk P w K mg base CX0 1 (He.ga K "last_tick") T.fd_last_tick ["task"] (spLast K) := by
  refine T.F_last_tick.ok sc_last_tick (fun vs H Q E h => ?_) (fun cdv A outer s H vs Q E hr h => ⟨_, PSs.nox
    (pss_one (ps_ret (pe_ix ix_tup (pe_ix ix_list (pe_ix ix_tup (pv 0) pe_int (fun _ _ => rfl)) (pe_un un_neg pe_int) (fun _ _ => rfl)) pe_int (fun _ _ => rfl)))), ?_⟩)
  · obtain ⟨v, t, rfl, _⟩ := h
    rfl
  · obtain ⟨v, t, rfl, ⟨p, l, xs, rfl, S, L, P⟩, ne, hQ⟩ := h
    have xl : xs.length = t.ends.length := pLen P
    have el : 1 ≤ t.ends.length := by cases h : t.ends with | nil => exact absurd h ne | cons => simp
    have hx : xs.length - 1 < xs.length := by omega
    have hx1 : xs[xs.length - 1]? = some xs[xs.length - 1] := List.getElem?_eq_getElem hx
    obtain ⟨e, he, ⟨pe, f, e1, Se, F⟩⟩ := pGet P hx1
    refine ⟨_, rfl, p, _, _, _, rfl, rfl, S, rfl, ?_⟩
    refine ⟨_, rfl, l, xs, _, _, rfl, rfl, sqL_of L, (at_end (by omega)).trans hx1, ?_⟩
    rw [e1]
    refine ⟨pe, _, _, _, rfl, rfl, Se, rfl, hQ e ?_⟩
    rw [List.getLast?_eq_getElem?, ← xl]
    exact he
theorem word_done : decide (V.str (wordOf true) = V.str "done") = true := by decide +kernel
theorem word_failed : decide (V.str (wordOf false) = V.str "done") = false := by decide +kernel
def succQ (t : TaskD) : Rat := ((t.ends.filter (·.2.1)).map (·.2.2)).sum
def spSucc (K : PySem.W.Frag) : Sp := fun vs H Q _ => ∃ d n ts t, vs = [.ref d, .str n] ∧ TasksV K H d ts ∧ GoodTs ts ∧ (n, t) ∈ ts ∧ ∀ x H', Same H H' → FrV K H' x (succQ t) → Q x H'
def spSure (K : PySem.W.Frag) : Sp := fun vs H Q _ => ∃ d n ts t, vs = [.ref d, .str n] ∧ TasksV K H d ts ∧ GoodTs ts ∧ (n, t) ∈ ts ∧ ∀ H', Same H H' → Q (.bl (decide (succQ t = 1))) H'
theorem eqv_one {q : Rat} : PyData.eqv (.tuple [.int q.num, .int q.den]) (.tuple [.int 1, .int 1]) = decide (q = 1) := by
  have h := eqv_fr q 1
  exact h
def spLastE (K : PySem.W.Frag) : Sp := fun vs H Q _ => ∃ d n ts t, vs = [.ref d, .str n] ∧ TasksV K H d ts ∧ GoodTs ts ∧ (n, t) ∈ ts ∧ ∀ e H', t.ends.getLast? = some e → Same H H' → Q (.int e.1) H'
def spIsTs (K : PySem.W.Frag) : Sp := fun vs H Q _ => ∃ d ts, vs = [.ref d] ∧ TasksV K H d ts ∧ GoodTs ts ∧ ∀ H', Same H H' → Q (.bl true) H'
end
end L10
set_option maxRecDepth 100000
set_option maxHeartbeats 4000000
namespace L10
open PySem PySem.Spec PyProof.Rows L2 Q7
section
variable {P : Program} {w : World} {K : PySem.W.Frag} {mg : Str → Option Value} {base : Heap}
/-! ### the form of a plan -/
theorem at_nat {α : Type} {xs : List α} {i : Int} (h0 : 0 ≤ i) (h1 : i < (xs.length : Int)) : atI xs i = xs[i.toNat]? := by
  unfold atI ixN
  rw [if_pos h0, if_pos h1]
  rfl
theorem at0 {α : Type} {x : α} {xs : List α} : atI (x :: xs) 0 = some x := (at_nat (by decide) (by rw [List.length_cons]; omega)).trans rfl
theorem at1 {α : Type} {x y : α} {xs : List α} : atI (x :: y :: xs) 1 = some y := (at_nat (by decide) (by rw [List.length_cons, List.length_cons]; omega)).trans rfl
theorem at2 {α : Type} {x y z : α} {xs : List α} : atI (x :: y :: z :: xs) 2 = some z := (at_nat (by decide) (by simp only [List.length_cons]; omega)).trans rfl
theorem at3 {α : Type} {x y z u : α} {xs : List α} : atI (x :: y :: z :: u :: xs) 3 = some u := (at_nat (by decide) (by simp only [List.length_cons]; omega)).trans rfl
/-- the numbers of a word, as the program has them -/
structure NumB (K : PySem.W.Frag) (w : World) (x : Str) (bs : List (Int × Int)) : Prop where
  at_ : ∃ (a : Addr) (rs : List V), KDct K w (He.ga K "NUMBERS") x (.ref a) ∧ (∀ H : Hp, SqT K H a rs) ∧ (∀ H : Hp, Paired (fun (r : V) (b : Int × Int) => ∃ p, r = .ref p ∧ SqT K H p [.int b.1, .int b.2]) rs bs)
theorem numB_u (T : Txt w K mg) (u : UW) : NumB K w u.word u.bounds := by
  cases u with
  | again n d => exact ⟨_, _, T.tb_NUMBERS.ix (x := "again") (v := .ref (entA "NUMBERS" "again" K)) (by simp), T.n_again, fun H => .cons ⟨_, rfl, T.n_again_0 H⟩ (.cons ⟨_, rfl, T.n_again_1 H⟩ .nil)⟩
  | within l => exact ⟨_, _, T.tb_NUMBERS.ix (x := "within") (v := .ref (entA "NUMBERS" "within" K)) (by simp), T.n_within, fun H => .cons ⟨_, rfl, T.n_within_0 H⟩ .nil⟩
  | later d => exact ⟨_, _, T.tb_NUMBERS.ix (x := "later") (v := .ref (entA "NUMBERS" "later" K)) (by simp), T.n_later, fun H => .cons ⟨_, rfl, T.n_later_0 H⟩ .nil⟩
  | keep => exact ⟨_, _, T.tb_NUMBERS.ix (x := "keep") (v := .ref (entA "NUMBERS" "keep" K)) (by simp), T.n_keep, fun H => .nil⟩
  | easy => exact ⟨_, _, T.tb_NUMBERS.ix (x := "easy") (v := .ref (entA "NUMBERS" "easy" K)) (by simp), T.n_easy, fun H => .nil⟩
  | back m => exact ⟨_, _, T.tb_NUMBERS.ix (x := "back") (v := .ref (entA "NUMBERS" "back" K)) (by simp), T.n_back, fun H => .cons ⟨_, rfl, T.n_back_0 H⟩ .nil⟩
theorem numB_w (T : Txt w K mg) : NumB K w "watch" [(0, 200)] := ⟨_, _, T.tb_NUMBERS.ix (x := "watch") (v := .ref (entA "NUMBERS" "watch" K)) (by simp), T.n_watch, fun H => .cons ⟨_, rfl, T.n_watch_0 H⟩ .nil⟩
theorem cutV_tail (x : V) (ys : List V) : cutV (x :: ys) (some 1) none = ys := by
  have hl : (x :: ys).length = 1 + ys.length := by rw [List.length_cons]; omega
  unfold cutV
  rw [show (some 1 : Option Int) = some ((1 : Nat) : Int) from rfl, HT.sIx_nat, HT.sIx_none, hl, show min 1 (1 + ys.length) = 1 by omega]
  show ys.take _ = _
  rw [List.take_of_length_le (by omega)]
theorem not_whole (x : V) (ys : List V) : ¬ (HT.sIx (x :: ys).length 0 (some 1) = 0 ∧ HT.sIx (x :: ys).length (x :: ys).length none = (x :: ys).length) := fun h => by
  have h1 := h.1
  rw [show (some 1 : Option Int) = some ((1 : Nat) : Int) from rfl, HT.sIx_nat, List.length_cons] at h1
  omega
def spHasN (K : PySem.W.Frag) (w : World) : Sp := fun vs H Q _ => ∃ (a : Addr) (x : Str) (ns : List Int) (bs : List (Int × Int)) (ys : List V), vs = [.ref a] ∧ SqT K H a (.str x :: (ns.map V.int ++ ys)) ∧ NumB K w x bs ∧ ns.length = bs.length ∧ ns.length ≤ 2 ∧
  ys.length = (if x = "watch" then 2 else 1) ∧ (∀ q ∈ ns.zip bs, q.2.1 ≤ q.1 ∧ q.1 ≤ q.2.2) ∧ ∀ H', Same H H' → Q (.bl true) H'
theorem ok__has_numbers (T : Txt w K mg) : FnOk P w K mg base CX0 3 (He.ga K "_has_numbers") T.fd__has_numbers ["value"] (spHasN K w) := by
  refine T.F__has_numbers.ok sc__has_numbers (fun vs H Q E h => ?_) (fun cdv A outer s H vs Q E hr h => ⟨_, PSs.nox
    (pss_cons (ps_set (i := 1) sc__has_numbers.nd rfl (.inl rfl) (pe_ix (show IxR _ (rIxD K w) from ix_kdict) (pe_glob (v := V.ref (He.ga K "NUMBERS")) rfl T.g_NUMBERS rfl) (pe_ix ix_tup (pv 0) pe_int (fun _ _ => rfl)) (fun _ _ => rfl)))
      (pss_cons (ps_set (i := 2) sc__has_numbers.nd rfl (.inl rfl) (pe_ifExp (pt_cmpR op_eq (pe_ix ix_tup (pv 0) pe_int (fun _ _ => rfl)) pe_str (nomark _)) pe_int pe_int))
      (pss_cons (ps_if (pt_cmpR op_ne (pe_callB call_len_seq (by rfl) T.m_len (by decide +kernel) (pa_cons (pv 0) pa_nil)) (pe_op op_add (pe_op op_add pe_int (pe_callB call_len_seq (by rfl) T.m_len (by decide +kernel) (pa_cons (pv 1) pa_nil))) (pv 2)) (nomark _)) (pss_one (ps_ret pe_bl)) pss_nil)
      (pss_one (ps_ret (pe_callB (cr_all rfl) (by rfl) T.m_all (by decide +kernel) (pa_cons (pe_lc (own := [("number", 3), ("low", 4), ("high", 5)]) rfl sc__has_numbers.nd (RZ.pi_zipA (by rfl) T.m_zip (pa_cons (pe_slice sl_tup (pv 0) (po_some pe_int) po_none) (pa_cons (pv 1) pa_nil))) (blkOk_by (N := ["value", "bounds", "plans", "number", "low", "high"]) (sc := defScope s__has_numbers) (by decide +kernel)) (fun _ _ _ _ _ => (show PG _ _ (gTup K 2 (gCons (gName 3) (gCons (gTup K 2 (gCons (gName 4) (gCons (gName 5) gNil))) gNil))) from pg_tup rfl (pgs_cons (pg_name (i := 3) sc__has_numbers.nd rfl (.inl rfl) (hf := .inr rfl)) (pgs_cons (show PG _ _ (gTup K 2 (gCons (gName 4) (gCons (gName 5) gNil))) from pg_tup rfl (pgs_cons (pg_name (i := 4) sc__has_numbers.nd rfl (.inl rfl) (hf := .inr rfl)) (pgs_cons (pg_name (i := 5) sc__has_numbers.nd rfl (.inl rfl) (hf := .inr rfl)) pgs_nil))) pgs_nil)))) (fun _ _ _ _ _ => pts_nil) (fun _ _ _ _ _ => (pe_call (ok_is_between T) (hr.mono (by decide)) (by rfl) T.g_is_between T.F_is_between.kp T.b_is_between .nil pass0 (pa_cons (pv 3) (pa_cons (pv 4) (pa_cons (pv 5) pa_nil)))))) pa_nil))))))), ?_⟩)
  · obtain ⟨a, x, ns, bs, ys, rfl, _⟩ := h
    rfl
  · obtain ⟨a, x, ns, bs, ys, rfl, S, ⟨ba, rs, kd, Sb, Pb⟩, nl, n2, yl, rng, hQ⟩ := h
    have l64 := line64
    refine ⟨_, rfl, a, _, 0, _, rfl, rfl, S, at0, _, x, .ref ba, rfl, rfl, kd, ?_⟩
    refine ⟨_, rfl, a, _, 0, _, rfl, rfl, S, at0, rfl, _, rfl, ?_⟩
    have rl : rs.length = bs.length := pLen (Pb H)
    by_cases hx : x = "watch"
    case' pos =>
      rw [if_pos hx] at yl
      refine iteT' (decide_eq_true (by rw [hx])) ?_
      refine ⟨_, rfl, a, _, rfl, .inr S, _, rfl, ba, _, rfl, .inr (Sb H), _, _, rfl, rfl, _, rfl, _, _, rfl, rfl, rfl, _, rfl, iteE (by rw [show ((V.str x :: (ns.map V.int ++ ys)).length : Int) = 1 + (rs.length : Int) + 2 by simp only [List.length_cons, List.length_append, List.length_map]; omega]; simp) ?_⟩
    case' neg =>
      rw [if_neg hx] at yl
      refine iteE (decide_eq_false (fun z => hx (V.str.inj z))) ?_
      refine ⟨_, rfl, a, _, rfl, .inr S, _, rfl, ba, _, rfl, .inr (Sb H), _, _, rfl, rfl, _, rfl, _, _, rfl, rfl, rfl, _, rfl, iteE (by rw [show ((V.str x :: (ns.map V.int ++ ys)).length : Int) = 1 + (rs.length : Int) + 1 by simp only [List.length_cons, List.length_append, List.length_map]; omega]; simp) ?_⟩
    all_goals
      refine ⟨_, rfl, _, rfl, a, _, rfl, S, not_whole _ _, fun c hc => ?_⟩
      rw [cutV_tail]
      have s1 := same_new (o := .tup (ns.map V.int ++ ys)) hc
      have Sc := sqT_of (K := K) (upd_same (H := H) (a := c) (o := .tup (ns.map V.int ++ ys)))
      generalize upd H c (.tup (ns.map V.int ++ ys)) = H1 at *
      refine ⟨_, rfl, c, ba, _, _, rfl, .inr ⟨Sc, Sb H1, fun D hD => ?_⟩⟩
      refine lc_it (walk_zipT (K := K) (a := c) (b := ba) (xs := ns.map V.int ++ ys) (ys := rs) (n := ns.length) (by rw [List.length_append, List.length_map]; omega)) (fun i H' => Same H1 H' ∧ H' D = some (.lst (List.replicate i (.bl true)))) ⟨same_new hD, upd_same⟩ (fun i H' _ r => ⟨Q7.sqT_same r.1 Sc, Sb H'⟩) ?_ ?_
      · rintro i v H' H'' hi ⟨sm, hd⟩ ⟨TT, x1, y1, rfl, hT, rfl, hx1, hy1⟩
        obtain ⟨b, hb, p, rfl, Sp⟩ := pGet (Pb (upd H' TT (.tup [x1, y1]))) hy1
        have hx1' : (ns.map V.int ++ ys)[i]? = some x1 := hx1
        rw [List.getElem?_append_left (by rw [List.length_map]; exact hi), List.getElem?_map, List.getElem?_eq_getElem hi] at hx1'
        cases hx1'
        have r1 := rng (ns[i], b) (List.mem_of_getElem? (i := i) (List.getElem?_zip_eq_some.mpr ⟨List.getElem?_eq_getElem hi, hb⟩))
        refine ⟨TT, _, rfl, sqT_of upd_same, rfl, _, _, rfl, _, _, rfl, p, _, rfl, Sp, rfl, ?_⟩
        refine ⟨_, _, rfl, _, _, rfl, rfl, rfl, rfl, ?_⟩
        have k2 := same_new (o := .tup [.int ns[i], .ref p]) hT
        refine ⟨_, rfl, _, rfl, _, rfl, ns[i], b.1, b.2, rfl, r1.1, r1.2, ?_⟩
        refine ⟨_, k2 _ _ hd, by rw [List.length_replicate]; omega, same_mut (sm.trans k2) hD, ?_⟩
        rw [upd_same, rep_snoc]
      · rintro H5 ⟨s5, hd5⟩
        refine ⟨D, List.replicate ns.length true, rfl, sqL_of (by rw [hd5, List.map_replicate]), ?_⟩
        rw [rep_all]
        exact hQ _ (s1.trans s5)
def spHasF (K : PySem.W.Frag) : Sp := fun vs H Q _ => ∃ td v p ts N, vs = [.ref td, v] ∧ TasksV K H td ts ∧ PlanV K H N v p ∧ p.ok (ts.map (·.1)) ∧ ∀ H', Same H H' → Q (.bl true) H'
theorem lw_task (w : LW) : decide (V.str w.word = V.str "task") = false := by cases w <;> decide +kernel
theorem uw_cases {P : Str → Prop} (u : UW) (h1 : P "again") (h2 : P "within") (h3 : P "later") (h4 : P "keep") (h5 : P "easy") (h6 : P "back") : P u.word := by cases u <;> assumption
theorem uw_task (u : UW) : decide (V.str u.word = V.str "task") = false := uw_cases (P := fun x => decide (V.str x = V.str "task") = false) u (by decide +kernel) (by decide +kernel) (by decide +kernel) (by decide +kernel) (by decide +kernel) (by decide +kernel)
theorem lw_in (w : LW) : inV (V.str w.word) [V.str "order", V.str "other", V.str "both", V.str "race"] = true := by cases w <;> decide +kernel
theorem uw_in (u : UW) : inV (V.str u.word) [V.str "order", V.str "other", V.str "both", V.str "race"] = false := uw_cases (P := fun x => inV (V.str x) [V.str "order", V.str "other", V.str "both", V.str "race"] = false) u (by decide +kernel) (by decide +kernel) (by decide +kernel) (by decide +kernel) (by decide +kernel) (by decide +kernel)
theorem uw_watch (u : UW) : ¬ u.word = "watch" := uw_cases (P := fun x => ¬ x = "watch") u (by decide +kernel) (by decide +kernel) (by decide +kernel) (by decide +kernel) (by decide +kernel) (by decide +kernel)
theorem uw_len (u : UW) : u.nums.length = u.bounds.length ∧ u.nums.length ≤ 2 := by
  cases u
  · exact ⟨rfl, Nat.le_refl 2⟩
  · exact ⟨rfl, (by decide : 1 ≤ 2)⟩
  · exact ⟨rfl, (by decide : 1 ≤ 2)⟩
  · exact ⟨rfl, (by decide : 0 ≤ 2)⟩
  · exact ⟨rfl, (by decide : 0 ≤ 2)⟩
  · exact ⟨rfl, (by decide : 1 ≤ 2)⟩
theorem numB_in {x : Str} {bs : List (Int × Int)} (h : NumB K w x bs) : ∃ u, PySem.W.nsIn K (He.ga K "NUMBERS") x = some (some u) := by
  obtain ⟨a, rs, ⟨es, n, u, _, _, e, _⟩, _⟩ := h.at_
  exact ⟨u, e⟩
theorem ok__has_form (T : Txt w K mg) : FnOk P w K mg base CX0 4 (He.ga K "_has_form") T.fd__has_form ["tasks", "value"] (spHasF K) := by
  refine T.F__has_form.ok sc__has_form (fun vs H Q E h => ?_) (fun cdv A outer s H vs Q E hr h => ⟨_, PSs.nox
    (pss_cons (ps_if (PW.pt (pw_or (pt_not (pt_val (pe_callB call_isi (by rfl) T.m_isinstance (by decide +kernel) (pa_cons (pv 1) (pa_cons (pe_bltn rfl T.m_tuple (v := .ty "tuple") (u := .type "tuple") (by decide +kernel) rfl) pa_nil))))) (pw_or (pt_cmpR op_lt (pe_callB call_len_seq (by rfl) T.m_len (by decide +kernel) (pa_cons (pv 1) pa_nil)) pe_int (nomark _)) (pw_or1 (pt_not (pt_val (pe_callB call_isi (by rfl) T.m_isinstance (by decide +kernel) (pa_cons (pe_ix ix_tup (pv 1) pe_int (fun _ _ => rfl)) (pa_cons (pe_bltn rfl T.m_str (v := .ty "str") (u := .type "str") (by decide +kernel) rfl) pa_nil))))))))) (pss_one (ps_ret pe_bl)) pss_nil)
      (pss_cons (ps_set (i := 2) sc__has_form.nd rfl (.inl rfl) (pe_ix ix_tup (pv 1) pe_int (fun _ _ => rfl)))
      (pss_cons (ps_if (pt_cmpR op_eq (pv 2) pe_str (nomark _)) (pss_one (ps_ret (pe_and (pe_cmpR op_eq (pe_callB call_len_seq (by rfl) T.m_len (by decide +kernel) (pa_cons (pv 1) pa_nil)) pe_int (nomark _)) (pe_one (pe_call (ok_is_known T) (hr.mono (by decide)) (by rfl) T.g_is_known T.F_is_known.kp T.b_is_known .nil pass0 (pa_cons (pv 0) (pa_cons (pe_ix ix_tup (pv 1) pe_int (fun _ _ => rfl)) pa_nil))))))) pss_nil)
      (pss_cons (ps_if (pt_cmpR op_in_seq (pv 2) (pe_glob (v := V.ref (He.ga K "LIST_WORDS")) rfl T.g_LIST_WORDS rfl) rfl) (pss_one (ps_ret (pe_and (pe_cmpR op_eq (pe_callB call_len_seq (by rfl) T.m_len (by decide +kernel) (pa_cons (pv 1) pa_nil)) pe_int (nomark _)) (pe_one (pe_callB call_isi (by rfl) T.m_isinstance (by decide +kernel) (pa_cons (pe_ix ix_tup (pv 1) pe_int (fun _ _ => rfl)) (pa_cons (pe_bltn rfl T.m_list (v := .ty "list") (u := .type "list") (by decide +kernel) rfl) pa_nil))))))) pss_nil)
      (pss_one (ps_ret (pe_and (pe_cmpR (op_in_kd T.tb_NUMBERS.kd.choose_spec.choose_spec) (pv 2) (pe_glob (v := V.ref (He.ga K "NUMBERS")) rfl T.g_NUMBERS rfl) rfl) (pe_one (pe_call (ok__has_numbers T) (hr.mono (by decide)) (by rfl) T.g__has_numbers T.F__has_numbers.kp T.b__has_numbers .nil pass0 (pa_cons (pv 1) pa_nil)))))))))), ?_⟩)
  · obtain ⟨td, v, p, ts, N, rfl, _⟩ := h
    rfl
  · obtain ⟨td, v, p, ts, N, rfl, TV, PV, ok, hQ⟩ := h
    cases PV with
    | @task a n S =>
      refine ⟨_, rfl, _, _, _, _, _, rfl, .ty _, tyT S, T.k_tuple, _, rfl, iteF ⟨_, rfl, a, _, rfl, .inr S, _, _, rfl, rfl, _, rfl, iteE (decide_eq_false (by simp)) ⟨_, rfl, a, _, 0, _, rfl, rfl, S, at0, _, _, _, _, _, rfl, .ty _, .base (.str _), T.k_str, _, rfl, iteF ?_⟩⟩⟩
      refine ⟨_, rfl, a, _, 0, _, rfl, rfl, S, at0, ?_⟩
      refine ⟨_, rfl, rfl, _, rfl, iteT' (by decide +kernel) ?_⟩
      refine ⟨_, rfl, a, _, rfl, .inr S, rfl, _, rfl, iteT' (decide_eq_true rfl) ⟨_, rfl, _, rfl, a, _, 1, _, rfl, rfl, S, at1, td, n, ts, rfl, TV, ok, hQ _ (Same.refl _)⟩⟩
    | @many a l wd xs ps S n L P =>
      refine ⟨_, rfl, _, _, _, _, _, rfl, .ty _, tyT S, T.k_tuple, _, rfl, iteF ⟨_, rfl, a, _, rfl, .inr S, _, _, rfl, rfl, _, rfl, iteE (decide_eq_false (by simp)) ⟨_, rfl, a, _, 0, _, rfl, rfl, S, at0, _, _, _, _, _, rfl, .ty _, .base (.str _), T.k_str, _, rfl, iteF ?_⟩⟩⟩
      refine ⟨_, rfl, a, _, 0, _, rfl, rfl, S, at0, ?_⟩
      refine ⟨_, rfl, rfl, _, rfl, iteE (lw_task wd) ?_⟩
      refine ⟨_, rfl, _, _, rfl, .inr (T.t_LIST_WORDS H), rfl, by decide, _, rfl, iteT' (lw_in wd) ?_⟩
      refine ⟨_, rfl, a, _, rfl, .inr S, rfl, _, rfl, iteT' (decide_eq_true rfl) ⟨_, rfl, a, _, 1, _, rfl, rfl, S, at1, _, _, _, _, _, rfl, .ty _, tyL (sqL_of L), T.k_list, hQ _ (Same.refl _)⟩⟩
    | @one a u x p S P =>
      have nb := numB_u T u
      obtain ⟨nu, hn⟩ := numB_in nb
      obtain ⟨ul, u2⟩ := uw_len u
      refine ⟨_, rfl, _, _, _, _, _, rfl, .ty _, tyT S, T.k_tuple, _, rfl, iteF ⟨_, rfl, a, _, rfl, .inr S, _, _, rfl, rfl, _, rfl, iteE (decide_eq_false (by simp only [List.length_cons, List.length_append, List.length_map, List.length_nil]; omega)) ⟨_, rfl, a, _, 0, _, rfl, rfl, S, at0, _, _, _, _, _, rfl, .ty _, .base (.str _), T.k_str, _, rfl, iteF ?_⟩⟩⟩
      refine ⟨_, rfl, a, _, 0, _, rfl, rfl, S, at0, ?_⟩
      refine ⟨_, rfl, rfl, _, rfl, iteE (uw_task u) ?_⟩
      refine ⟨_, rfl, _, _, rfl, .inr (T.t_LIST_WORDS H), rfl, by decide, _, rfl, iteE (uw_in u) ?_⟩
      refine ⟨_, rfl, u.word, _, rfl, rfl, hn, _, rfl, iteT ?_⟩
      exact ⟨_, rfl, a, u.word, u.nums, u.bounds, [x], rfl, S, nb, ul, u2, by rw [if_neg (uw_watch u)]; rfl, ok.1, fun H' s => hQ H' s⟩
    | @watch a l x y s p S P1 P2 =>
      have nb := numB_w T
      obtain ⟨nu, hn⟩ := numB_in nb
      refine ⟨_, rfl, _, _, _, _, _, rfl, .ty _, tyT S, T.k_tuple, _, rfl, iteF ⟨_, rfl, a, _, rfl, .inr S, _, _, rfl, rfl, _, rfl, iteE (decide_eq_false (by simp)) ⟨_, rfl, a, _, 0, _, rfl, rfl, S, at0, _, _, _, _, _, rfl, .ty _, .base (.str _), T.k_str, _, rfl, iteF ?_⟩⟩⟩
      refine ⟨_, rfl, a, _, 0, _, rfl, rfl, S, at0, ?_⟩
      refine ⟨_, rfl, rfl, _, rfl, iteE (by decide +kernel) ?_⟩
      refine ⟨_, rfl, _, _, rfl, .inr (T.t_LIST_WORDS H), rfl, by decide, _, rfl, iteE (by decide +kernel) ?_⟩
      refine ⟨_, rfl, "watch", _, rfl, rfl, hn, _, rfl, iteT ?_⟩
      exact ⟨_, rfl, a, "watch", [l], [(0, 200)], [x, y], rfl, S, nb, rfl, Nat.le_succ 1, by rw [if_pos rfl]; rfl, fun q hq => by
        have : q = (l, (0, 200)) := List.mem_singleton.mp hq
        subst this
        exact ⟨ok.1, ok.2.1⟩, fun H' s => hQ H' s⟩
end
end L10
set_option maxRecDepth 100000
set_option maxHeartbeats 4000000
namespace L10
open PySem PySem.Spec PyProof.Rows L2 Q7
section
variable {P : Program} {w : World} {K : PySem.W.Frag} {mg : Str → Option Value} {base : Heap}
/-! ### what stands in a plan -/
/-- pairs of a step and a part, the plans as they stand in H0 -/
def StepB (K : PySem.W.Frag) (H0 H : Hp) (N : Addr → Prop) (v : V) (p : PlanD) : Prop := ∃ a st x ks, v = .ref a ∧ SqT K H a [.ref st, x] ∧ SqT K H st ks ∧ ks.length ≤ 1 ∧ PlanV K H0 N x p
theorem stepB_tk {N : Addr → Prop} {H0 H H' : Hp} {v : V} {p : PlanD} (h : StepB K H0 H N v p) (s : TK H H') : StepB K H0 H' N v p := by
  obtain ⟨a, st, x, ks, e, S1, S2, l, P⟩ := h
  exact ⟨a, st, x, ks, e, sqT_tk S1 s, sqT_tk S2 s, l, P⟩
def spSteps (K : PySem.W.Frag) : Sp := fun vs H Q _ => ∃ v p N H0, vs = [v] ∧ Same H0 H ∧ PlanV K H0 N v p ∧ p.count ≤ 60 ∧ ∀ l xs H', Same H H' → H l = none → H' l = some (.lst xs) → Paired (StepB K H0 H' N) xs p.kids → Q (.ref l) H'
theorem one_le : 1 ≤ sizeLine := by decide
theorem none_same {H H' : Hp} {p : Addr} (s : Same H H') (h : H' p = none) : H p = none := by
  cases e : H p with
  | none => rfl
  | some u => rw [s _ _ e] at h; cases h
theorem at_last (z : V) (ns : List V) (x : V) : atI (z :: (ns ++ [x])) (-1) = some x := by
  rw [at_end (by simp)]
  have : (z :: (ns ++ [x])).length - 1 = ns.length + 1 := by simp only [List.length_cons, List.length_append, List.length_nil]; omega
  rw [this, List.getElem?_cons_succ, List.getElem?_append_right (Nat.le_refl _), Nat.sub_self]
  rfl
theorem kids_len (p : PlanD) : p.kids.length < p.count := by
  have h : ∀ ps : List PlanD, ps.length ≤ (ps.map PlanD.count).sum := by
    intro ps
    induction ps with
    | nil => exact Nat.le_refl _
    | cons q r ih =>
      have := q.count_pos
      simp only [List.length_cons, List.map_cons, List.sum_cons]
      omega
  have := h p.kids
  rw [p.count_kids]
  omega
theorem ok_steps_of (T : Txt w K mg) : FnOk P w K mg base CX0 1 (He.ga K "steps_of") T.fd_steps_of ["plan"] (spSteps K) := by
  refine T.F_steps_of.ok sc_steps_of (fun vs H Q E h => ?_) (fun cdv A outer s H vs Q E hr h => ⟨_, PSs.nox
    (pss_cons (ps_set (i := 1) sc_steps_of.nd rfl (.inl rfl) (pe_ix ix_tup (pv 0) pe_int (fun _ _ => rfl)))
      (pss_cons (ps_if (pt_cmpR op_eq (pv 1) pe_str (nomark _)) (pss_one (ps_ret (pe_lst pa_nil))) pss_nil)
      (pss_cons (ps_if (pt_cmpR op_in_seq (pv 1) (pe_glob (v := V.ref (He.ga K "LIST_WORDS")) rfl T.g_LIST_WORDS rfl) rfl) (pss_one (ps_ret (pe_lc (own := [("index", 2), ("part", 3)]) rfl sc_steps_of.nd (pi_enum (by rfl) T.m_enumerate (pa_cons (pe_ix ix_tup (pv 0) pe_int (fun _ _ => rfl)) pa_nil)) (blkOk_by (N := ["plan", "word", "index", "part"]) (sc := defScope s_steps_of) (by decide +kernel)) (fun _ _ _ _ _ => (show PG _ _ (gTup K 2 (gCons (gName 2) (gCons (gName 3) gNil))) from pg_tup rfl (pgs_cons (pg_name (i := 2) sc_steps_of.nd rfl (.inl rfl) (hf := .inr rfl)) (pgs_cons (pg_name (i := 3) sc_steps_of.nd rfl (.inl rfl) (hf := .inr rfl)) pgs_nil)))) (fun _ _ _ _ _ => pts_nil) (fun _ _ _ _ _ => (pe_tup (pa_cons (pe_tup (pa_cons (pv 2) pa_nil)) (pa_cons (pv 3) pa_nil))))))) pss_nil)
      (pss_cons (ps_if (pt_cmpR op_eq (pv 1) pe_str (nomark _)) (pss_one (ps_ret (pe_lst (pa_cons (pe_tup (pa_cons (pe_tup (pa_cons pe_int pa_nil)) (pa_cons (pe_ix ix_tup (pv 0) pe_int (fun _ _ => rfl)) pa_nil))) pa_nil)))) pss_nil)
      (pss_cons (ps_if (pt_cmpR op_eq (pv 1) pe_str (nomark _)) (pss_one (ps_ret (pe_lst (pa_cons (pe_tup (pa_cons (pe_tup (pa_cons pe_int pa_nil)) (pa_cons (pe_ix ix_tup (pv 0) pe_int (fun _ _ => rfl)) pa_nil))) (pa_cons (pe_tup (pa_cons (pe_tup (pa_cons pe_int pa_nil)) (pa_cons (pe_ix ix_tup (pv 0) pe_int (fun _ _ => rfl)) pa_nil))) pa_nil))))) pss_nil)
      (pss_one (ps_ret (pe_lst (pa_cons (pe_tup (pa_cons (pe_tup pa_nil) (pa_cons (pe_ix ix_tup (pv 0) (pe_un un_neg pe_int) (fun _ _ => rfl)) pa_nil))) pa_nil))))))))), ?_⟩)
  · obtain ⟨v, p, N, H0, rfl, _⟩ := h
    rfl
  · obtain ⟨v, p, N, H0, rfl, s0, PV, cnt, hQ⟩ := h
    have l64 := line64
    cases PV with
    | @task a n S0 =>
      have S := Q7.sqT_same s0 S0
      refine ⟨_, rfl, a, _, 0, _, rfl, rfl, S, at0, ?_⟩
      refine ⟨_, rfl, rfl, _, rfl, iteT' (by decide +kernel) ?_⟩
      exact ⟨Nat.zero_le _, fun l hl => hQ l [] _ (same_new hl) hl upd_same .nil⟩
    | @many a l wd xs ps S0 n L0 P =>
      have S := Q7.sqT_same s0 S0
      have L := s0 _ _ L0
      refine ⟨_, rfl, a, _, 0, _, rfl, rfl, S, at0, ?_⟩
      refine ⟨_, rfl, rfl, _, rfl, iteE (lw_task wd) ?_⟩
      refine ⟨_, rfl, _, _, rfl, .inr (T.t_LIST_WORDS H), rfl, by decide, _, rfl, iteT' (lw_in wd) ?_⟩
      refine ⟨_, rfl, a, _, 1, _, rfl, rfl, S, at1, l, xs, rfl, sqL_of L, fun D hD => ?_⟩
      have xl := planVs_len P
      have kl := kids_len (.many wd ps)
      refine lc_it (walk_enum (K := K) (a := l) (xs := xs)) (fun i H' => Same H H' ∧ ∃ zs, H' D = some (.lst zs) ∧ Paired (StepB K H0 H' N) zs (ps.list.take i)) ⟨same_new hD, [], upd_same, .nil⟩ (fun i H' _ r => sqL_of (r.1 _ _ L)) ?_ ?_
      · rintro i v H' H'' hi ⟨sm, zs, hd, PP⟩ ⟨TT, x, y, rfl, hT, rfl, hx, hy⟩
        cases hx
        obtain ⟨p, hp, Py⟩ := planVs_get P hy
        refine ⟨TT, _, rfl, sqT_of upd_same, rfl, _, _, rfl, _, _, rfl, rfl, rfl, ?_⟩
        have k1 := same_new (o := .tup [.int (i : Nat), y]) hT
        generalize upd H' TT (.tup [.int (i : Nat), y]) = H1 at *
        refine ⟨_, rfl, one_le, fun st hst => ⟨_, rfl, two_le, fun q hq => ?_⟩⟩
        have S2 := upd_same (H := H1) (a := st) (o := .tup [.int (i : Nat)])
        have k2 := k1.trans (same_new (o := .tup [.int (i : Nat)]) hst)
        generalize upd H1 st (.tup [.int (i : Nat)]) = H2 at *
        have S3 := upd_same (H := H2) (a := q) (o := .tup [.ref st, y])
        have k2' := same_new (o := .tup [.ref st, y]) hq
        have k3 := k2.trans k2'
        generalize upd H2 q (.tup [.ref st, y]) = H3 at *
        have zl := pLen PP
        have hd3 := k3 _ _ hd
        have tk : TK H3 (upd H3 D (.lst (zs ++ [.ref q]))) := tk_lst hd3
        refine ⟨zs, hd3, by rw [zl, List.length_take]; have : (PlanD.many wd ps).kids = ps.list := rfl; rw [this] at kl; omega, same_mut (sm.trans k3) hD, _, upd_same, ?_⟩
        rw [List.take_succ, hp]
        exact pApp (pImp (fun _ _ z => stepB_tk z ((same_tk k3).trans tk)) PP) (.cons (stepB_tk ⟨q, st, y, _, rfl, sqT_of S3, sqT_of (k2' _ _ S2), Nat.le_refl _, Py⟩ tk) .nil)
      · rintro H' ⟨sm, zs, hd, PP⟩
        rw [xl, List.take_length] at PP
        exact hQ D zs H' sm hD hd PP
    | @one a u x p S0 P =>
      have S := Q7.sqT_same s0 S0
      refine ⟨_, rfl, a, _, 0, _, rfl, rfl, S, at0, ?_⟩
      refine ⟨_, rfl, rfl, _, rfl, iteE (uw_task u) ?_⟩
      refine ⟨_, rfl, _, _, rfl, .inr (T.t_LIST_WORDS H), rfl, by decide, _, rfl, iteE (uw_in u) ?_⟩
      have fin : ∀ (st q l : Addr) (ks : List V) (H1 H2 H3 : Hp), ks.length ≤ 1 → Same H H1 → H1 st = none → H2 = upd H1 st (.tup ks) → H2 q = none → H3 = upd H2 q (.tup [.ref st, x]) → H3 l = none → Q (.ref l) (upd H3 l (.lst [.ref q])) := fun st q l ks H1 H2 H3 kl z0 h1 e2 h2 e3 h3 => by
        subst e2
        subst e3
        have s1 := same_new (o := .tup ks) h1
        have s2 := same_new (o := .tup [.ref st, x]) h2
        have s3 := same_new (o := .lst [.ref q]) h3
        refine hQ l [.ref q] _ (((z0.trans s1).trans s2).trans s3) (none_same ((z0.trans s1).trans s2) h3) upd_same (.cons ⟨q, st, x, ks, rfl, sqT_of (s3 _ _ upd_same), sqT_of (s3 _ _ (s2 _ _ upd_same)), kl, P⟩ .nil)
      cases u with
      | again n d =>
        refine ⟨_, rfl, rfl, _, rfl, iteT' (by decide +kernel : decide (V.str ("again" : Str) = V.str "again") = true) ?_⟩
        refine ⟨one_le, fun st hst => ⟨_, rfl, a, _, 3, _, rfl, rfl, Q7.sqT_same (same_new hst) S, at3, two_le, fun q hq => ⟨one_le, fun l hl => ?_⟩⟩⟩
        exact fin st q l [.int 0] H _ _ (Nat.le_refl _) (Same.refl _) hst rfl hq rfl hl
      | within l =>
        refine ⟨_, rfl, rfl, _, rfl, iteE (by decide +kernel : decide (V.str ("within" : Str) = V.str "again") = false) ?_⟩
        refine ⟨_, rfl, rfl, _, rfl, iteE (by decide +kernel : decide (V.str ("within" : Str) = V.str "watch") = false) ?_⟩
        refine ⟨Nat.zero_le _, fun st hst => ?_⟩
        refine ⟨_, rfl, _, rfl, a, _, _, _, rfl, rfl, Q7.sqT_same (same_new hst) S, at_last _ _ _, two_le, fun q hq => ⟨one_le, fun l hl => ?_⟩⟩
        exact fin st q l [] H _ _ (Nat.zero_le _) (Same.refl _) hst rfl hq rfl hl
      | later l =>
        refine ⟨_, rfl, rfl, _, rfl, iteE (by decide +kernel : decide (V.str ("later" : Str) = V.str "again") = false) ?_⟩
        refine ⟨_, rfl, rfl, _, rfl, iteE (by decide +kernel : decide (V.str ("later" : Str) = V.str "watch") = false) ?_⟩
        refine ⟨Nat.zero_le _, fun st hst => ?_⟩
        refine ⟨_, rfl, _, rfl, a, _, _, _, rfl, rfl, Q7.sqT_same (same_new hst) S, at_last _ _ _, two_le, fun q hq => ⟨one_le, fun l hl => ?_⟩⟩
        exact fin st q l [] H _ _ (Nat.zero_le _) (Same.refl _) hst rfl hq rfl hl
      | keep =>
        refine ⟨_, rfl, rfl, _, rfl, iteE (by decide +kernel : decide (V.str ("keep" : Str) = V.str "again") = false) ?_⟩
        refine ⟨_, rfl, rfl, _, rfl, iteE (by decide +kernel : decide (V.str ("keep" : Str) = V.str "watch") = false) ?_⟩
        refine ⟨Nat.zero_le _, fun st hst => ?_⟩
        refine ⟨_, rfl, _, rfl, a, _, _, _, rfl, rfl, Q7.sqT_same (same_new hst) S, at_last _ _ _, two_le, fun q hq => ⟨one_le, fun l hl => ?_⟩⟩
        exact fin st q l [] H _ _ (Nat.zero_le _) (Same.refl _) hst rfl hq rfl hl
      | easy =>
        refine ⟨_, rfl, rfl, _, rfl, iteE (by decide +kernel : decide (V.str ("easy" : Str) = V.str "again") = false) ?_⟩
        refine ⟨_, rfl, rfl, _, rfl, iteE (by decide +kernel : decide (V.str ("easy" : Str) = V.str "watch") = false) ?_⟩
        refine ⟨Nat.zero_le _, fun st hst => ?_⟩
        refine ⟨_, rfl, _, rfl, a, _, _, _, rfl, rfl, Q7.sqT_same (same_new hst) S, at_last _ _ _, two_le, fun q hq => ⟨one_le, fun l hl => ?_⟩⟩
        exact fin st q l [] H _ _ (Nat.zero_le _) (Same.refl _) hst rfl hq rfl hl
      | back l =>
        refine ⟨_, rfl, rfl, _, rfl, iteE (by decide +kernel : decide (V.str ("back" : Str) = V.str "again") = false) ?_⟩
        refine ⟨_, rfl, rfl, _, rfl, iteE (by decide +kernel : decide (V.str ("back" : Str) = V.str "watch") = false) ?_⟩
        refine ⟨Nat.zero_le _, fun st hst => ?_⟩
        refine ⟨_, rfl, _, rfl, a, _, _, _, rfl, rfl, Q7.sqT_same (same_new hst) S, at_last _ _ _, two_le, fun q hq => ⟨one_le, fun l hl => ?_⟩⟩
        exact fin st q l [] H _ _ (Nat.zero_le _) (Same.refl _) hst rfl hq rfl hl
    | @watch a l x y s p S0 P1 P2 =>
      have S := Q7.sqT_same s0 S0
      refine ⟨_, rfl, a, _, 0, _, rfl, rfl, S, at0, ?_⟩
      refine ⟨_, rfl, rfl, _, rfl, iteE (by decide +kernel) ?_⟩
      refine ⟨_, rfl, _, _, rfl, .inr (T.t_LIST_WORDS H), rfl, by decide, _, rfl, iteE (by decide +kernel) ?_⟩
      refine ⟨_, rfl, rfl, _, rfl, iteE (by decide +kernel) ?_⟩
      refine ⟨_, rfl, rfl, _, rfl, iteT' (by decide +kernel) ?_⟩
      refine ⟨one_le, fun st hst => ⟨_, rfl, a, _, 2, _, rfl, rfl, Q7.sqT_same (same_new hst) S, at2, two_le, fun q hq => ?_⟩⟩
      have s1 := same_new (o := .tup [.int 0]) hst
      have A1 := upd_same (H := H) (a := st) (o := .tup [.int 0])
      generalize upd H st (.tup [.int 0]) = H1 at *
      have s2 := same_new (o := .tup [.ref st, x]) hq
      have A2 := upd_same (H := H1) (a := q) (o := .tup [.ref st, x])
      generalize upd H1 q (.tup [.ref st, x]) = H2 at *
      have s12 := s1.trans s2
      refine ⟨one_le, fun st2 hst2 => ⟨_, rfl, a, _, 3, _, rfl, rfl, Q7.sqT_same (s12.trans (same_new hst2)) S, at3, two_le, fun q2 hq2 => ?_⟩⟩
      have s3 := same_new (o := .tup [.int 1]) hst2
      have A3 := upd_same (H := H2) (a := st2) (o := .tup [.int 1])
      generalize upd H2 st2 (.tup [.int 1]) = H3 at *
      have s4 := same_new (o := .tup [.ref st2, y]) hq2
      have A4 := upd_same (H := H3) (a := q2) (o := .tup [.ref st2, y])
      generalize upd H3 q2 (.tup [.ref st2, y]) = H4 at *
      refine ⟨two_le, fun l' hl => ?_⟩
      have s5 := same_new (o := .lst [.ref q, .ref q2]) hl
      have s34 := s3.trans s4
      have sA := (s12.trans s34).trans s5
      exact hQ l' _ _ sA (none_same (s12.trans s34) hl) upd_same (.cons ⟨q, st, x, _, rfl, sqT_of (s5 _ _ (s34 _ _ A2)), sqT_of (s5 _ _ (s34 _ _ (s2 _ _ A1))), Nat.le_refl _, P1⟩ (.cons ⟨q2, st2, y, _, rfl, sqT_of (s5 _ _ A4), sqT_of (s5 _ _ (s4 _ _ A3)), Nat.le_refl _, P2⟩ .nil))
end
end L10
set_option maxRecDepth 100000
set_option maxHeartbeats 4000000
namespace L10
open PySem PySem.Spec PyProof.Rows L2 Q7
section
variable {P : Program} {w : World} {K : PySem.W.Frag} {mg : Str → Option Value} {base : Heap}
/-! ### no fault -/
def WaitB (K : PySem.W.Frag) (H0 H : Hp) (N : Addr → Prop) (ns : List Str) (v : V) (q : PlanD) : Prop := ∃ t pth ks lv x, v = .ref t ∧ SqT K H t [.ref pth, .int lv, x] ∧ SqT K H pth ks ∧ (ks.length : Int) < lv ∧ lv + q.deep ≤ 9 ∧ PlanV K H0 N x q ∧ q.ok ns
theorem waitB_tk {N : Addr → Prop} {ns : List Str} {H0 H H' : Hp} {v : V} {q : PlanD} (h : WaitB K H0 H N ns v q) (s : TK H H') : WaitB K H0 H' N ns v q := by
  obtain ⟨t, pth, ks, lv, x, e, S1, S2, h⟩ := h
  exact ⟨t, pth, ks, lv, x, e, sqT_tk S1 s, sqT_tk S2 s, h⟩
def spFault (K : PySem.W.Frag) : Sp := fun vs H Q _ => ∃ td v p ts N, vs = [.ref td, v] ∧ TasksV K H td ts ∧ GoodTs ts ∧ PlanV K H N v p ∧ p.ok (ts.map (·.1)) ∧ p.count ≤ 40 ∧ p.deep ≤ 8 ∧ ∀ H', Same H H' → Q .non H'
theorem pLast {α β : Type} {R : α → β → Prop} : ∀ {xs : List α} {x : α} {ys : List β}, Paired R (xs ++ [x]) ys → ∃ zs z, ys = zs ++ [z] ∧ Paired R xs zs ∧ R x z
  | [], x, _, .cons h .nil => ⟨[], _, rfl, .nil, h⟩
  | a :: r, x, _, .cons h t => by
    obtain ⟨zs, z, e, p, q⟩ := pLast t
    subst e
    exact ⟨_ :: zs, z, rfl, .cons h p, q⟩
theorem count_len : ∀ qs : List PlanD, qs.length ≤ (qs.map PlanD.count).sum
  | [] => Nat.le_refl _
  | q :: r => by
    have := q.count_pos
    have := count_len r
    simp only [List.length_cons, List.map_cons, List.sum_cons]
    omega
theorem seq_while {tt : TT} {tb b : TS} {D : Ends} {σ : L2.St} {H : Hp} {i : Nat} {v : V} (h : tWhile tt tb { D with nx := fun σ' H' => b D σ' H' } (σ.set i (some v)) H) : gName i v σ H (tSeq (tWhile tt tb) b D) := h
theorem three_le : 3 ≤ sizeLine := by decide
theorem ok_fault_of (T : Txt w K mg) : FnOk P w K mg base CX0 8 (He.ga K "fault_of") T.fd_fault_of ["tasks", "value"] (spFault K) := by
  refine T.F_fault_of.ok sc_fault_of (fun vs H Q E h => ?_) (fun cdv A outer s H vs Q E hr h => ⟨_, PSs.nox
    (pss_cons (ps_expr (pe_call (ok_check_tasks T) (hr.mono (by decide)) (by rfl) T.g_check_tasks T.F_check_tasks.kp T.b_check_tasks .nil pass0 (pa_cons (pv 0) pa_nil)))
      (pss_cons (ps_set (i := 2) sc_fault_of.nd rfl (.inl rfl) pe_int)
      (pss_cons (ps_set (i := 3) sc_fault_of.nd rfl (.inl rfl) (pe_lst (pa_cons (pe_tup (pa_cons (pe_tup pa_nil) (pa_cons pe_int (pa_cons (pv 1) pa_nil)))) pa_nil)))
      (pss_cons (ps_while PassesOwn.never (pt_truth (pv 3) (by intro _; rfl)) (pss_cons (ps_asg (pe_bm0 PySem.F.plainAttrs_list PySem.F.slot_list_pop PySem.F.type_list_pop mt_pop (pv 3)) (pg_tup rfl (pgs_cons (pg_name (i := 4) sc_fault_of.nd rfl (.inr rfl)) (pgs_cons (pg_name (i := 5) sc_fault_of.nd rfl (.inr rfl)) (pgs_cons (pg_name (i := 6) sc_fault_of.nd rfl (.inl rfl)) pgs_nil)))))
      (pss_cons (ps_aug (i := 2) sc_fault_of.nd rfl (.inl rfl) pe_int ip_add)
      (pss_cons (ps_if (PW.pt (pw_or (pt_cmpR op_gt (pv 2) (pe_gint rfl T.g_MOST_PLANS) (nomark _)) (pw_or (pt_cmpR op_gt (pv 5) (pe_gint rfl T.g_MOST_LEVELS) (nomark _)) (pw_or1 (pt_not (pt_val (pe_call (ok__has_form T) (hr.mono (by decide)) (by rfl) T.g__has_form T.F__has_form.kp T.b__has_form .nil pass0 (pa_cons (pv 0) (pa_cons (pv 6) pa_nil))))))))) (pss_one (ps_ret (pv 4))) pss_nil)
      (pss_cons (ps_setLc (i := 7) (own := [("step", 8), ("part", 9)]) rfl sc_fault_of.nd rfl rfl rfl (pi_list (pe_call (ok_steps_of T) (hr.mono (by decide)) (by rfl) T.g_steps_of T.F_steps_of.kp T.b_steps_of .nil pass0 (pa_cons (pv 6) pa_nil))) (blkOk_by (N := ["tasks", "value", "seen", "waiting", "path", "level", "one", "inner", "step", "part"]) (sc := defScope s_fault_of) (by decide +kernel)) (fun _ _ _ _ _ => (show PG _ _ (gTup K 2 (gCons (gName 8) (gCons (gName 9) gNil))) from pg_tup rfl (pgs_cons (pg_name (i := 8) sc_fault_of.nd rfl (.inl rfl) (hf := .inr rfl)) (pgs_cons (pg_name (i := 9) sc_fault_of.nd rfl (.inl rfl) (hf := .inr rfl)) pgs_nil)))) (fun _ _ _ _ _ => pts_nil) (fun _ _ _ _ _ => (pe_tup (pa_cons (pe_op (show OpR _ _ (rCatA K) from op_catA) (pv 4) (pv 8)) (pa_cons (pe_op op_add (pv 5) pe_int) (pa_cons (pv 9) pa_nil))))))
      (pss_one (ps_expr (pe_bm PySem.F.plainAttrs_list PySem.F.slot_list_extend PySem.F.type_list_extend mt_extend (pv 3) (pa_cons (pe_revL (pv 7)) pa_nil)))))))))
      (pss_one (ps_ret pe_non)))))), ?_⟩)
  · obtain ⟨td, v, p, ts, N, rfl, _⟩ := h
    rfl
  · obtain ⟨td, v, p, ts, N, rfl, TV, g, PV, ok, cnt, dp, hQ⟩ := h
    have l64 := line64
    refine ⟨_, rfl, td, ts, rfl, TV, g, fun H1 s1 => ?_⟩
    refine ⟨Nat.zero_le _, fun e he => ⟨_, rfl, three_le, fun t ht => ⟨one_le, fun W hW => ?_⟩⟩⟩
    have q1 := same_new (o := .tup []) he
    have A1 := upd_same (H := H1) (a := e) (o := .tup [])
    generalize upd H1 e (.tup []) = H2 at *
    have q2 := same_new (o := .tup [.ref e, .int 1, v]) ht
    have A2 := upd_same (H := H2) (a := t) (o := .tup [.ref e, .int 1, v])
    generalize upd H2 t (.tup [.ref e, .int 1, v]) = H3 at *
    have q3 := same_new (o := .lst [.ref t]) hW
    have A3 := upd_same (H := H3) (a := W) (o := .lst [.ref t])
    generalize upd H3 W (.lst [.ref t]) = H4 at *
    have s14 := (q1.trans q2).trans q3
    have hW0 : H W = none := none_same (s1.trans (q1.trans q2)) hW
    dsimp only
    refine seq_while ?_
    refine while_by (fun σ H' => ∃ (seen : Int) (ws : List V) (qs : List PlanD) (o4 o5 o6 o7 o8 o9 : Option V), σ = [some (.ref td), some v, some (.int seen), some (.ref W), o4, o5, o6, o7, o8, o9] ∧ Same H H' ∧ H' W = some (.lst ws) ∧ Paired (WaitB K H H' N (ts.map (·.1))) ws qs ∧ 0 ≤ seen ∧ seen + ((qs.map PlanD.count).sum : Nat) ≤ 40)
      (fun (σ : L2.St) (_ : Hp) => match (σ : List (Option V))[2]? with | some (some (V.int i)) => 40 - i.toNat | _ => 0) ?_ ?_ ?_
    · refine ⟨0, [.ref t], [p], _, _, _, _, _, _, rfl, s1.trans s14, A3, .cons ⟨t, e, [], 1, v, rfl, sqT_of (q3 _ _ A2), sqT_of (q3 _ _ (q2 _ _ A1)), by decide, by omega, PV, ok⟩ .nil, Int.le_refl _, ?_⟩
      show 0 + ((p.count + 0 : Nat) : Int) ≤ 40
      omega
    · rintro σ H' ⟨seen, ws, qs, o4, o5, o6, o7, o8, o9, rfl, sm, hW', PW, s0, sb⟩
      refine ⟨_, rfl, !ws.isEmpty, .inl ⟨ws, sqL_of hW', rfl⟩, ?_⟩
      rcases List.eq_nil_or_concat ws with rfl | ⟨wi, wl, rfl⟩
      · exact iteE rfl (hQ _ sm)
      rw [List.concat_eq_append] at *
      refine iteT' (by simp) ?_
      obtain ⟨qi, q, rfl, PI, t, pth, ks, lv, x, rfl, S1, S2, kl, dl, PX, okq⟩ := pLast PW
      refine ⟨_, rfl, .inl ⟨rfl, _, sqL_of hW'⟩, W, wi ++ [.ref t], .ref t, rfl, rfl, hW', by simp, ?_⟩
      rw [List.dropLast_concat]
      have tk1 : TK H' (upd H' W (.lst wi)) := tk_lst hW'
      have sm1 : Same H (upd H' W (.lst wi)) := same_mut sm hW0
      have W1 := upd_same (H := H') (a := W) (o := .lst wi)
      have S11 := sqT_tk S1 tk1
      have S21 := sqT_tk S2 tk1
      have PI1 := pImp (fun _ _ z => waitB_tk z tk1) PI
      generalize upd H' W (.lst wi) = H5 at *
      clear PI PW S1 S2 hW' sm tk1
      refine ⟨t, _, rfl, S11, rfl, _, _, rfl, _, _, rfl, _, _, rfl, rfl, ?_⟩
      have cq := q.count_pos
      have dq := q.deep_pos
      rw [List.map_append, List.sum_append] at sb
      have sb' : seen + (((qi.map PlanD.count).sum + (q.count + 0) : Nat) : Int) ≤ 40 := sb
      refine ⟨_, rfl, _, _, rfl, rfl, ?_⟩
      refine ⟨_, rfl, _, _, rfl, rfl, _, rfl, iteE (decide_eq_false (show ¬ (40 < seen + 1) by omega)) ⟨_, rfl, _, _, rfl, rfl, _, rfl, iteE (decide_eq_false (by omega)) ⟨_, rfl, _, rfl, td, x, q, ts, N, rfl, tasksV_same TV sm1, planV_same PX sm1, okq, fun H6 s6 => ⟨_, rfl, iteF ?_⟩⟩⟩⟩
      have sm6 := sm1.trans s6
      have W6 := s6 _ _ W1
      refine ⟨_, rfl, x, q, N, H, rfl, sm6, PX, by omega, fun l xs H7 s7 hl hx P7 => ?_⟩
      have S27 := Q7.sqT_same (s6.trans s7) S21
      have PI7 := pImp (fun _ _ z => waitB_tk z (same_tk (s6.trans s7))) PI1
      have sm7 := sm6.trans s7
      have W7 := s7 _ _ W6
      clear S11 S21 PI1 W1 W6 s6 s7 sm1 sm6
      refine ⟨l, rfl, ⟨_, sqL_of hx⟩, fun D hD => ?_⟩
      have kn := kids_len q
      have xl : xs.length = q.kids.length := pLen P7
      refine lc_list (xs := xs) (fun i H' => Same H7 H' ∧ ∃ zs, H' D = some (.lst zs) ∧ Paired (WaitB K H H' N (ts.map (·.1))) zs (q.kids.take i)) ⟨same_new hD, [], upd_same, .nil⟩ (fun i H' _ r => sqL_of (r.1 _ _ hx)) ?_ ?_
      · rintro i v' H' hv ⟨sm, zs, hd, PP⟩
        obtain ⟨c, hc, a, st, y, js, rfl, A1, A2, jl, PY⟩ := pGet P7 hv
        have hi := (List.getElem?_eq_some_iff.mp hv).1
        have hcm := List.mem_of_getElem? hc
        have dc := PlanD.deep_kid hcm
        have A1' := Q7.sqT_same sm A1
        have A2' := Q7.sqT_same sm A2
        have S28 := Q7.sqT_same sm S27
        have zl := pLen PP
        have nk := kl
        refine ⟨a, _, rfl, A1', rfl, _, _, rfl, _, _, rfl, rfl, rfl, ?_⟩
        refine ⟨_, rfl, _, rfl, pth, st, ks, js, rfl, rfl, S28, A2', by omega, fun e => ?_, fun _ e => ?_, fun _ _ z hz => ?_⟩
        · have rf := Same.refl H'
          refine ⟨_, rfl, _, _, rfl, rfl, _, rfl, three_le, fun t2 ht2 => ?_⟩
          have k9 := same_new (o := .tup [.ref st, .int (lv + 1), y]) ht2
          have B9 := upd_same (H := H') (a := t2) (o := .tup [.ref st, .int (lv + 1), y])
          have hd9 := k9 _ _ (rf _ _ hd)
          have tk9 : TK _ (upd (upd H' t2 (.tup [.ref st, .int (lv + 1), y])) D (.lst (zs ++ [.ref t2]))) := tk_lst hd9
          refine ⟨zs, hd9, by rw [zl, List.length_take]; omega, same_mut (sm.trans (rf.trans k9)) hD, zs ++ [.ref t2], upd_same, ?_⟩
          rw [List.take_succ, hc]
          exact pApp (pImp (fun _ _ z => waitB_tk z ((same_tk (rf.trans k9)).trans tk9)) PP) (.cons ⟨t2, st, js, lv + 1, y, rfl, sqT_tk (sqT_of B9) tk9, sqT_tk (Q7.sqT_same k9 A2') tk9, by omega, by omega, PY, PlanD.ok_kid okq hcm⟩ .nil)
        · have rf := Same.refl H'
          refine ⟨_, rfl, _, _, rfl, rfl, _, rfl, three_le, fun t2 ht2 => ?_⟩
          have k9 := same_new (o := .tup [.ref pth, .int (lv + 1), y]) ht2
          have B9 := upd_same (H := H') (a := t2) (o := .tup [.ref pth, .int (lv + 1), y])
          have hd9 := k9 _ _ (rf _ _ hd)
          have tk9 : TK _ (upd (upd H' t2 (.tup [.ref pth, .int (lv + 1), y])) D (.lst (zs ++ [.ref t2]))) := tk_lst hd9
          refine ⟨zs, hd9, by rw [zl, List.length_take]; omega, same_mut (sm.trans (rf.trans k9)) hD, zs ++ [.ref t2], upd_same, ?_⟩
          rw [List.take_succ, hc]
          exact pApp (pImp (fun _ _ z => waitB_tk z ((same_tk (rf.trans k9)).trans tk9)) PP) (.cons ⟨t2, pth, ks, lv + 1, y, rfl, sqT_tk (sqT_of B9) tk9, sqT_tk (Q7.sqT_same k9 S28) tk9, by omega, by omega, PY, PlanD.ok_kid okq hcm⟩ .nil)
        · have rf := same_new (o := .tup (ks ++ js)) hz
          have Bz := sqT_of (K := K) (upd_same (H := H') (a := z) (o := .tup (ks ++ js)))
          generalize upd H' z (.tup (ks ++ js)) = Hz at *
          refine ⟨_, rfl, _, _, rfl, rfl, _, rfl, three_le, fun t2 ht2 => ?_⟩
          have k9 := same_new (o := .tup [.ref z, .int (lv + 1), y]) ht2
          have B9 := upd_same (H := Hz) (a := t2) (o := .tup [.ref z, .int (lv + 1), y])
          have hd9 := k9 _ _ (rf _ _ hd)
          have tk9 : TK _ (upd (upd Hz t2 (.tup [.ref z, .int (lv + 1), y])) D (.lst (zs ++ [.ref t2]))) := tk_lst hd9
          refine ⟨zs, hd9, by rw [zl, List.length_take]; omega, same_mut (sm.trans (rf.trans k9)) hD, zs ++ [.ref t2], upd_same, ?_⟩
          rw [List.take_succ, hc]
          exact pApp (pImp (fun _ _ z => waitB_tk z ((same_tk (rf.trans k9)).trans tk9)) PP) (.cons ⟨t2, z, (ks ++ js), lv + 1, y, rfl, sqT_tk (sqT_of B9) tk9, sqT_tk (Q7.sqT_same k9 Bz) tk9, by simp only [List.length_append]; omega, by omega, PY, PlanD.ok_kid okq hcm⟩ .nil)
      · rintro H8 ⟨sm8, zs, hd8, PP⟩
        rw [xl, List.take_length] at PP
        have W8 := sm8 _ _ W7
        have zl := pLen PP
        refine ⟨_, rfl, .inl ⟨rfl, _, sqL_of W8⟩, _, rfl, D, zs, rfl, sqL_of hd8, fun R hR => ?_⟩
        have k9 := same_new (o := .lst zs.reverse) hR
        have W9 := k9 _ _ W8
        have R9 := upd_same (H := H8) (a := R) (o := .lst zs.reverse)
        have PP9 := pImp (fun _ _ z => waitB_tk z (same_tk k9)) PP
        have PI9 := pImp (fun _ _ z => waitB_tk z (same_tk (sm8.trans k9))) PI7
        have sm9 := sm7.trans (sm8.trans k9)
        generalize upd H8 R (.lst zs.reverse) = H9 at *
        have wl := pLen PI9
        have ql := count_len qi
        have tk : TK H9 (upd H9 W (.lst (wi ++ zs.reverse))) := tk_lst W9
        have ck := q.count_kids
        refine ⟨W, R, wi, zs.reverse, rfl, rfl, W9, R9, by rw [List.length_reverse]; omega, ⟨seen + 1, wi ++ zs.reverse, qi ++ q.kids.reverse, _, _, _, _, _, _, rfl, same_mut sm9 hW0, upd_same, pApp (pImp (fun _ _ z => waitB_tk z tk) PI9) (pRev (pImp (fun _ _ z => waitB_tk z tk) PP9)), by omega, ?_⟩, ?_⟩
        · have rs : ((q.kids.reverse).map PlanD.count).sum = (q.kids.map PlanD.count).sum := ((List.reverse_perm q.kids).map PlanD.count).sum_nat
          rw [List.map_append, List.sum_append, rs]
          omega
        · show 40 - (seen + 1).toNat < 40 - seen.toNat
          omega
    · rintro σ H' Q Q' hh ⟨v, e, k, t, q⟩
      exact ⟨v, e, k, t, hh _ _ q⟩
end
end L10
set_option maxRecDepth 100000
set_option maxHeartbeats 4000000
namespace L10
open PySem PySem.Spec PyProof.Rows L2 Q7
section
variable {P : Program} {w : World} {K : PySem.W.Frag} {mg : Str → Option Value} {base : Heap}
/-! ### sizes -/
def spForm (K : PySem.W.Frag) : Sp := spFault K
theorem ok_check_form (T : Txt w K mg) : FnOk P w K mg base CX0 9 (He.ga K "check_form") T.fd_check_form ["tasks", "plan"] (spForm K) := by
  refine T.F_check_form.ok sc_check_form (fun vs H Q E h => ?_) (fun cdv A outer s H vs Q E hr h => ⟨_, PSs.nox
    (pss_cons (ps_set (i := 2) sc_check_form.nd rfl (.inl rfl) (pe_call (ok_fault_of T) (hr.mono (by decide)) (by rfl) T.g_fault_of T.F_fault_of.kp T.b_fault_of .nil pass0 (pa_cons (pv 0) (pa_cons (pv 1) pa_nil))))
      (pss_one (ps_if (pt_cmpR op_notN (pv 2) pe_non (nomark _)) (pss_one ps_never) pss_nil))), ?_⟩)
  · obtain ⟨td, v, p, ts, N, rfl, _⟩ := h
    rfl
  · obtain ⟨td, v, p, ts, N, rfl, TV, g, PV, ok, cnt, dp, hQ⟩ := h
    refine ⟨_, rfl, _, rfl, td, v, p, ts, N, rfl, TV, g, PV, ok, cnt, dp, fun H1 s1 => ?_⟩
    refine ⟨_, rfl, rfl, _, rfl, iteE (by simp) (hQ _ s1)⟩
theorem size_kids (p : PlanD) (h : ∀ n d q, p ≠ .one (.again n d) q) : p.size = 1 + (p.kids.map PlanD.size).sum := by
  cases p with
  | task n => rfl
  | many w ps =>
    show 1 + ps.size = _
    rw [PlanL.size_eq]
    rfl
  | one u q =>
    cases u with
    | again n d => exact absurd rfl (h n d q)
    | _ =>
      show 1 + q.size = 1 + (q.size + 0)
      omega
  | watch l s q =>
    show 1 + (s.size + q.size) = 1 + (s.size + (q.size + 0))
    omega
mutual
theorem size_le {ns : List Str} : ∀ {p : PlanD}, p.ok ns → 0 ≤ p.size ∧ p.size ≤ p.count * 20 ^ p.deep
  | .task n, _ => by
    show (0 : Int) ≤ 1 ∧ (1 : Int) ≤ ((1 : Nat) : Int) * 20 ^ 1
    omega
  | .many w ps, g => by
    obtain ⟨h0, h1⟩ := size_leL (ps := ps) g
    have h2 : (1 : Int) ≤ 20 ^ ps.deep := Int.pow_pos (by decide)
    refine ⟨by show 0 ≤ 1 + ps.size; omega, ?_⟩
    show 1 + ps.size ≤ ((1 + ps.count : Nat) : Int) * 20 ^ (1 + ps.deep)
    rw [Int.pow_add]
    generalize (20 : Int) ^ ps.deep = z at *
    have h3 : (((1 + ps.count : Nat) : Int)) * ((20 : Int) ^ 1 * z) = 20 * z + 20 * ((ps.count : Int) * z) := by
      push_cast
      rw [Int.add_mul]
      generalize (ps.count : Int) = c
      rw [Int.one_mul, ← Int.mul_assoc, Int.mul_comm c 20, Int.mul_assoc]
    rw [h3]
    omega
  | .one u q, g => by
    obtain ⟨h0, h1⟩ := size_le (p := q) g.2
    have h2 : (1 : Int) ≤ 20 ^ q.deep := Int.pow_pos (by decide)
    have key : ∀ n : Int, 0 ≤ n → n ≤ 20 → 0 ≤ 1 + n * q.size ∧ 1 + n * q.size ≤ ((1 + q.count : Nat) : Int) * 20 ^ (1 + q.deep) := fun n n0 n1 => by
      have m0 : 0 ≤ n * q.size := Int.mul_nonneg n0 h0
      have m1 : n * q.size ≤ 20 * q.size := Int.mul_le_mul_of_nonneg_right n1 h0
      refine ⟨by omega, ?_⟩
      rw [Int.pow_add]
      generalize (20 : Int) ^ q.deep = z at *
      have h3 : (((1 + q.count : Nat) : Int)) * ((20 : Int) ^ 1 * z) = 20 * z + 20 * ((q.count : Int) * z) := by
        push_cast
        rw [Int.add_mul]
        generalize (q.count : Int) = c
        rw [Int.one_mul, ← Int.mul_assoc, Int.mul_comm c 20, Int.mul_assoc]
      rw [h3]
      omega
    have k1 := key 1 (by decide) (by decide)
    rw [Int.one_mul] at k1
    cases u with
    | again n d =>
      have := g.1 (n, (1, 20)) (by simp [UW.nums, UW.bounds])
      exact key n (by have := this.1; simp only at this; omega) this.2
    | within l => exact k1
    | later l => exact k1
    | keep => exact k1
    | easy => exact k1
    | back l => exact k1
  | .watch l s q, g => by
    obtain ⟨a0, a1⟩ := size_le (p := s) g.2.2.1
    obtain ⟨b0, b1⟩ := size_le (p := q) g.2.2.2
    refine ⟨by show 0 ≤ 1 + (s.size + q.size); omega, ?_⟩
    show 1 + (s.size + q.size) ≤ ((1 + (s.count + q.count) : Nat) : Int) * 20 ^ (1 + max s.deep q.deep)
    have ps : (20 : Int) ^ s.deep ≤ 20 ^ max s.deep q.deep := by exact_mod_cast Nat.pow_le_pow_right (by decide : 0 < 20) (Nat.le_max_left _ _)
    have pq : (20 : Int) ^ q.deep ≤ 20 ^ max s.deep q.deep := by exact_mod_cast Nat.pow_le_pow_right (by decide : 0 < 20) (Nat.le_max_right _ _)
    have p1 : (1 : Int) ≤ 20 ^ max s.deep q.deep := Int.pow_pos (by decide)
    have c1 : (s.count : Int) * 20 ^ s.deep ≤ s.count * 20 ^ max s.deep q.deep := Int.mul_le_mul_of_nonneg_left ps (by omega)
    have c2 : (q.count : Int) * 20 ^ q.deep ≤ q.count * 20 ^ max s.deep q.deep := Int.mul_le_mul_of_nonneg_left pq (by omega)
    rw [Int.pow_add]
    generalize (20 : Int) ^ max s.deep q.deep = z at *
    have h3 : (((1 + (s.count + q.count) : Nat) : Int)) * ((20 : Int) ^ 1 * z) = 20 * z + 20 * ((s.count : Int) * z) + 20 * ((q.count : Int) * z) := by
      push_cast
      rw [Int.add_mul, Int.add_mul]
      generalize (s.count : Int) = c
      generalize (q.count : Int) = e
      rw [Int.one_mul, ← Int.mul_assoc, Int.mul_comm c 20, Int.mul_assoc, ← Int.mul_assoc e, Int.mul_comm e 20, Int.mul_assoc]
      omega
    rw [h3]
    have z1 := Int.mul_nonneg (show (0 : Int) ≤ s.count by omega) (show 0 ≤ z by omega)
    have z2 := Int.mul_nonneg (show (0 : Int) ≤ q.count by omega) (show 0 ≤ z by omega)
    omega
theorem size_leL {ns : List Str} : ∀ {ps : PlanL}, ps.ok ns → 0 ≤ ps.size ∧ ps.size ≤ ps.count * 20 ^ ps.deep
  | .nil, _ => by
    show (0 : Int) ≤ 0 ∧ (0 : Int) ≤ ((0 : Nat) : Int) * _
    simp
  | .cons p ps, g => by
    obtain ⟨a0, a1⟩ := size_le (p := p) g.1
    obtain ⟨b0, b1⟩ := size_leL (ps := ps) g.2
    refine ⟨by show 0 ≤ p.size + ps.size; omega, ?_⟩
    show p.size + ps.size ≤ ((p.count + ps.count : Nat) : Int) * 20 ^ max p.deep ps.deep
    have pp : (20 : Int) ^ p.deep ≤ 20 ^ max p.deep ps.deep := by exact_mod_cast Nat.pow_le_pow_right (by decide : 0 < 20) (Nat.le_max_left _ _)
    have pq : (20 : Int) ^ ps.deep ≤ 20 ^ max p.deep ps.deep := by exact_mod_cast Nat.pow_le_pow_right (by decide : 0 < 20) (Nat.le_max_right _ _)
    have c1 : (p.count : Int) * 20 ^ p.deep ≤ p.count * 20 ^ max p.deep ps.deep := Int.mul_le_mul_of_nonneg_left pp (by omega)
    have c2 : (ps.count : Int) * 20 ^ ps.deep ≤ ps.count * 20 ^ max p.deep ps.deep := Int.mul_le_mul_of_nonneg_left pq (by omega)
    push_cast
    rw [Int.add_mul]
    omega
end
end
end L10
set_option maxRecDepth 100000
set_option maxHeartbeats 4000000
namespace L10
open PySem PySem.Spec PyProof.Rows L2 Q7
section
variable {P : Program} {w : World} {K : PySem.W.Frag} {mg : Str → Option Value} {base : Heap}
/-! ### the program's size -/
theorem planV_head {H : Hp} {N : Addr → Prop} {v : V} {p : PlanD} (h : PlanV K H N v p) : ∃ a x rest, v = .ref a ∧ SqT K H a (.str x :: rest) ∧
    ((x = "again" ∧ ∃ n d q z, p = .one (.again n d) q ∧ rest = [.int n, .int d, z] ∧ PlanV K H N z q) ∨ (decide (V.str x = V.str "again") = false ∧ ∀ n d q, p ≠ .one (.again n d) q)) := by
  cases h with
  | @task a n S => exact ⟨a, "task", _, rfl, S, .inr ⟨by decide +kernel, fun n d q e => by cases e⟩⟩
  | @many a l wd xs ps S n L P => exact ⟨a, wd.word, _, rfl, S, .inr ⟨by cases wd <;> decide +kernel, fun n d q e => by cases e⟩⟩
  | @one a u x p S P =>
    refine ⟨a, u.word, _, rfl, S, ?_⟩
    cases u with
    | again n d => exact .inl ⟨rfl, n, d, p, x, rfl, rfl, P⟩
    | within l => exact .inr ⟨(by decide +kernel : decide (V.str ("within" : Str) = V.str "again") = false), fun n d q e => by cases e⟩
    | later l => exact .inr ⟨(by decide +kernel : decide (V.str ("later" : Str) = V.str "again") = false), fun n d q e => by cases e⟩
    | keep => exact .inr ⟨(by decide +kernel : decide (V.str ("keep" : Str) = V.str "again") = false), fun n d q e => by cases e⟩
    | easy => exact .inr ⟨(by decide +kernel : decide (V.str ("easy" : Str) = V.str "again") = false), fun n d q e => by cases e⟩
    | back l => exact .inr ⟨(by decide +kernel : decide (V.str ("back" : Str) = V.str "again") = false), fun n d q e => by cases e⟩
  | @watch a l x y s p S P1 P2 => exact ⟨a, "watch", _, rfl, S, .inr ⟨by decide +kernel, fun n d q e => by cases e⟩⟩
theorem count_kid {p q : PlanD} (h : q ∈ p.kids) : q.count < p.count := by
  have h1 : ∀ ps : List PlanD, q ∈ ps → q.count ≤ (ps.map PlanD.count).sum := by
    intro ps
    induction ps with
    | nil => intro h; cases h
    | cons r ps ih =>
      intro h
      simp only [List.map_cons, List.sum_cons]
      rcases List.mem_cons.mp h with rfl | h
      · omega
      · have := ih h
        omega
  have := h1 _ h
  rw [p.count_kids]
  omega
theorem pow_big {p : PlanD} (c : p.count ≤ 60) (d : p.deep ≤ 9) : (p.count : Int) * 20 ^ p.deep < 2 ^ 50 := by
  have h1 : (20 : Int) ^ p.deep ≤ 20 ^ 9 := by exact_mod_cast Nat.pow_le_pow_right (by decide : 0 < 20) d
  have h2 : (p.count : Int) * 20 ^ p.deep ≤ 60 * 20 ^ 9 := Int.mul_le_mul (by omega) h1 (by have : (1 : Int) ≤ 20 ^ p.deep := Int.pow_pos (by decide); omega) (by decide)
  exact Int.lt_of_le_of_lt h2 (by decide)
theorem small_BN {x : Int} (h0 : 0 ≤ x) (h1 : x < 2 ^ 50) : x.natAbs < 2 ^ BN := Nat.lt_of_lt_of_le (show x.natAbs < 2 ^ 50 by omega) (Nat.pow_le_pow_right (by decide) (by decide))
def spSize (K : PySem.W.Frag) (d : Nat) : Sp := fun vs H Q _ => ∃ v p N H0 ns, vs = [v] ∧ Same H0 H ∧ PlanV K H0 N v p ∧ p.ok ns ∧ p.count ≤ 60 ∧ p.deep ≤ d ∧ p.deep ≤ 9 ∧ ∀ H', Same H H' → Q (.int p.size) H'
theorem ok__size (T : Txt w K mg) : ∀ d, FnOk P w K mg base CX0 (d + 2) (He.ga K "_size") T.fd__size ["plan"] (spSize K d)
  | 0 => ⟨fun vs H Q E h => by
      obtain ⟨v, p, N, H0, ns, rfl, _⟩ := h
      rfl, fun A outer s H args us vs Q E hr e0 hb hv h => by
      obtain ⟨v, p, N, H0, ns, rfl, _, _, _, _, dp, _⟩ := h
      have := p.deep_pos
      omega⟩
  | d + 1 => by
    have ih := ok__size T d
    refine T.F__size.ok sc__size (fun vs H Q E h => ?_) (fun cdv A outer s H vs Q E hr h => ⟨_, PSs.nox
      (pss_cons (ps_if (pt_cmpR op_eq (pe_ix ix_tup (pv 0) pe_int (fun _ _ => rfl)) pe_str (nomark _)) (pss_one (ps_ret (pe_op op_add pe_int (pe_op op_mulW (pe_ix ix_tup (pv 0) pe_int (fun _ _ => rfl)) (pe_call ih (hr.mono (by omega)) (by rfl) T.g__size T.F__size.kp T.b__size .nil pass0 (pa_cons (pe_ix ix_tup (pv 0) pe_int (fun _ _ => rfl)) pa_nil)))))) pss_nil)
      (pss_one (ps_ret (pe_op op_add pe_int (pe_callB (cr_sum rfl) (by rfl) T.m_sum (by decide +kernel) (pa_cons (pe_lc (own := [("_", 1), ("part", 2)]) rfl sc__size.nd (pi_list (pe_call (ok_steps_of T) (hr.mono (by omega)) (by rfl) T.g_steps_of T.F_steps_of.kp T.b_steps_of .nil pass0 (pa_cons (pv 0) pa_nil))) (blkOk_by (N := ["plan", "_", "part"]) (sc := defScope s__size) (by decide +kernel)) (fun _ _ _ _ _ => (show PG _ _ (gTup K 2 (gCons (gName 1) (gCons (gName 2) gNil))) from pg_tup rfl (pgs_cons (pg_name (i := 1) sc__size.nd rfl (.inl rfl) (hf := .inr rfl)) (pgs_cons (pg_name (i := 2) sc__size.nd rfl (.inl rfl) (hf := .inr rfl)) pgs_nil)))) (fun _ _ _ _ _ => pts_nil) (fun _ _ _ _ _ => (pe_call ih (hr.mono (by omega)) (by rfl) T.g__size T.F__size.kp T.b__size .nil pass0 (pa_cons (pv 2) pa_nil)))) pa_nil)))))), ?_⟩)
    · obtain ⟨v, p, N, H0, ns, rfl, _⟩ := h
      rfl
    · obtain ⟨v, p, N, H0, ns, rfl, s0, PV, ok, cnt, dp, d9, hQ⟩ := h
      have l64 := line64
      obtain ⟨z0, z1⟩ := size_le ok
      have zb := pow_big cnt d9
      obtain ⟨a, x, rest, rfl, S0, hc⟩ := planV_head PV
      have S := Q7.sqT_same s0 S0
      refine ⟨_, rfl, a, _, 0, _, rfl, rfl, S, at0, rfl, _, rfl, ?_⟩
      rcases hc with ⟨rfl, n, d', q, z, rfl, rfl, Pz⟩ | ⟨hx, hp⟩
      · refine iteT' (decide_eq_true rfl) ?_
        have hd : q.deep < PlanD.deep (.one (.again n d') q) := PlanD.deep_kid (List.mem_singleton.mpr rfl)
        have hcq : q.count < PlanD.count (.one (.again n d') q) := count_kid (List.mem_singleton.mpr rfl)
        have hr1 := ok.1 (n, (1, 20)) (by simp [UW.nums, UW.bounds])
        have n0 : 1 ≤ n := hr1.1
        have n1 : n ≤ 20 := hr1.2
        obtain ⟨y0, y1⟩ := size_le ok.2
        have yb := pow_big (p := q) (by omega) (by omega)
        refine ⟨_, rfl, a, _, 1, _, rfl, rfl, S, at1, _, rfl, a, _, 3, _, rfl, rfl, S, at3, z, q, N, H0, ns, rfl, s0, Pz, ok.2, by omega, by omega, by omega, fun H1 s1 => ⟨_, _, rfl, rfl, mulW (small_BN (by omega) (by omega)) (small_BN y0 (by omega)), _, _, rfl, rfl, hQ _ s1⟩⟩
      · refine iteE hx ?_
        refine ⟨_, rfl, _, p, N, H0, rfl, s0, PV, cnt, fun l xs H1 s1 hl hxs P1 => ⟨l, rfl, ⟨_, sqL_of hxs⟩, fun D hD => ?_⟩⟩
        have xl : xs.length = p.kids.length := pLen P1
        have kn := kids_len p
        refine lc_list (xs := xs) (fun i H' => Same H1 H' ∧ H' D = some (.lst (((p.kids.take i).map PlanD.size).map V.int))) ⟨same_new hD, upd_same⟩ (fun i H' _ r => sqL_of (r.1 _ _ hxs)) ?_ ?_
        · rintro i v' H' hv ⟨sm, hd⟩
          obtain ⟨c, hc, a', st, y, js, rfl, A1, A2, jl, PY⟩ := pGet P1 hv
          have hi := (List.getElem?_eq_some_iff.mp hv).1
          have hcm := List.mem_of_getElem? hc
          have dc := PlanD.deep_kid hcm
          have cc := count_kid hcm
          have A1' := Q7.sqT_same sm A1
          refine ⟨a', _, rfl, A1', rfl, _, _, rfl, _, _, rfl, rfl, rfl, ?_⟩
          refine ⟨_, rfl, y, c, N, H0, ns, rfl, (s0.trans s1).trans sm, PY, PlanD.ok_kid ok hcm, by omega, by omega, by omega, fun H4 s4 => ?_⟩
          refine ⟨_, s4 _ _ hd, by rw [List.length_map, List.length_map, List.length_take]; omega, same_mut (sm.trans s4) hD, ?_⟩
          rw [upd_same, List.take_succ, hc, List.map_append, List.map_append]
          rfl
        · rintro H4 ⟨sm, hd⟩
          rw [xl, List.take_length] at hd
          refine ⟨D, _, rfl, sqL_of hd, _, _, rfl, rfl, ?_⟩
          have e := size_kids p hp
          dsimp only
          rw [← e]
          exact hQ _ (s1.trans sm)
end
end L10
set_option maxRecDepth 100000
set_option maxHeartbeats 4000000
namespace L10
open PySem PySem.Spec PyProof.Rows L2 Q7
section
variable {P : Program} {w : World} {K : PySem.W.Frag} {mg : Str → Option Value} {base : Heap}
/-! ### spans -/
mutual
theorem span_le {ns : List Str} {t : Str → Int} (ht : ∀ n, 0 ≤ t n ∧ t n ≤ 30) : ∀ {p : PlanD}, p.ok ns → 0 ≤ p.span t ∧ p.span t ≤ 100 * (p.count * 20 ^ p.deep)
  | .task n, _ => by
    have := ht n
    show (0 : Int) ≤ t n ∧ t n ≤ 100 * (((1 : Nat) : Int) * 20 ^ 1)
    omega
  | .many w ps, g => by
    obtain ⟨⟨h0, h1⟩, h2, h3⟩ := span_leL ht (ps := ps) g
    have h4 : (1 : Int) ≤ 20 ^ ps.deep := Int.pow_pos (by decide)
    have key : ∀ x : Int, 0 ≤ x → x ≤ 100 * (ps.count * 20 ^ ps.deep) → 0 ≤ x ∧ x ≤ 100 * (((1 + ps.count : Nat) : Int) * 20 ^ (1 + ps.deep)) := fun x x0 x1 => by
      refine ⟨x0, ?_⟩
      rw [Int.pow_add]
      generalize (20 : Int) ^ ps.deep = z at *
      have e : (((1 + ps.count : Nat) : Int)) * ((20 : Int) ^ 1 * z) = 20 * z + 20 * ((ps.count : Int) * z) := by
        push_cast
        rw [Int.add_mul]
        generalize (ps.count : Int) = c
        rw [Int.one_mul, ← Int.mul_assoc, Int.mul_comm c 20, Int.mul_assoc]
      rw [e]
      have := Int.mul_nonneg (show (0 : Int) ≤ ps.count by omega) (show 0 ≤ z by omega)
      omega
    cases w with
    | order => exact key _ h0 h1
    | other => exact key _ h0 h1
    | both => exact key _ h2 h3
    | race => exact key _ h2 h3
  | .one u q, g => by
    obtain ⟨h0, h1⟩ := span_le ht (p := q) g.2
    have h4 : (1 : Int) ≤ 20 ^ q.deep := Int.pow_pos (by decide)
    have key : ∀ x : Int, 0 ≤ x → x ≤ 20 * q.span t + 2000 → 0 ≤ x ∧ x ≤ 100 * (((1 + q.count : Nat) : Int) * 20 ^ (1 + q.deep)) := fun x x0 x1 => by
      refine ⟨x0, ?_⟩
      rw [Int.pow_add]
      generalize (20 : Int) ^ q.deep = z at *
      have e : (((1 + q.count : Nat) : Int)) * ((20 : Int) ^ 1 * z) = 20 * z + 20 * ((q.count : Int) * z) := by
        push_cast
        rw [Int.add_mul]
        generalize (q.count : Int) = c
        rw [Int.one_mul, ← Int.mul_assoc, Int.mul_comm c 20, Int.mul_assoc]
      rw [e]
      omega
    cases u with
    | again n d =>
      have r1 := g.1 (n, (1, 20)) (by simp [UW.nums, UW.bounds])
      have r2 := g.1 (d, (0, 100)) (by simp [UW.nums, UW.bounds])
      have n0 : 1 ≤ n := r1.1
      have n1 : n ≤ 20 := r1.2
      have d0 : 0 ≤ d := r2.1
      have d1 : d ≤ 100 := r2.2
      have m1 : n * q.span t ≤ 20 * q.span t := Int.mul_le_mul_of_nonneg_right n1 h0
      have m0 : 0 ≤ n * q.span t := Int.mul_nonneg (by omega) h0
      have m2 : (n - 1) * d ≤ 19 * 100 := Int.mul_le_mul (by omega) d1 d0 (by decide)
      have m3 : 0 ≤ (n - 1) * d := Int.mul_nonneg (by omega) d0
      exact key (n * q.span t + (n - 1) * d) (by omega) (by omega)
    | within l =>
      have r1 := g.1 (l, (0, 200)) (by simp [UW.nums, UW.bounds])
      have l0 : 0 ≤ l := r1.1
      exact key (min l (q.span t)) (by omega) (by omega)
    | later d =>
      have r1 := g.1 (d, (0, 100)) (by simp [UW.nums, UW.bounds])
      have d0 : 0 ≤ d := r1.1
      have d1 : d ≤ 100 := r1.2
      exact key (d + q.span t) (by omega) (by omega)
    | keep => exact key (q.span t) h0 (by omega)
    | easy => exact key (q.span t) h0 (by omega)
    | back l => exact key (q.span t) h0 (by omega)
  | .watch l s q, g => by
    obtain ⟨a0, a1⟩ := span_le ht (p := s) g.2.2.1
    obtain ⟨b0, b1⟩ := span_le ht (p := q) g.2.2.2
    have l0 := g.1
    have l1 := g.2.1
    refine ⟨by show 0 ≤ max (q.span t) (l + s.span t); omega, ?_⟩
    show max (q.span t) (l + s.span t) ≤ 100 * (((1 + (s.count + q.count) : Nat) : Int) * 20 ^ (1 + max s.deep q.deep))
    have ps : (20 : Int) ^ s.deep ≤ 20 ^ max s.deep q.deep := by exact_mod_cast Nat.pow_le_pow_right (by decide : 0 < 20) (Nat.le_max_left _ _)
    have pq : (20 : Int) ^ q.deep ≤ 20 ^ max s.deep q.deep := by exact_mod_cast Nat.pow_le_pow_right (by decide : 0 < 20) (Nat.le_max_right _ _)
    have p1 : (1 : Int) ≤ 20 ^ max s.deep q.deep := Int.pow_pos (by decide)
    have c1 : (s.count : Int) * 20 ^ s.deep ≤ s.count * 20 ^ max s.deep q.deep := Int.mul_le_mul_of_nonneg_left ps (by omega)
    have c2 : (q.count : Int) * 20 ^ q.deep ≤ q.count * 20 ^ max s.deep q.deep := Int.mul_le_mul_of_nonneg_left pq (by omega)
    rw [Int.pow_add]
    generalize (20 : Int) ^ max s.deep q.deep = z at *
    have h3 : (((1 + (s.count + q.count) : Nat) : Int)) * ((20 : Int) ^ 1 * z) = 20 * z + 20 * ((s.count : Int) * z) + 20 * ((q.count : Int) * z) := by
      push_cast
      rw [Int.add_mul, Int.add_mul]
      generalize (s.count : Int) = c
      generalize (q.count : Int) = e
      rw [Int.one_mul, ← Int.mul_assoc, Int.mul_comm c 20, Int.mul_assoc, ← Int.mul_assoc e, Int.mul_comm e 20, Int.mul_assoc]
      omega
    rw [h3]
    have z1 := Int.mul_nonneg (show (0 : Int) ≤ s.count by omega) (show 0 ≤ z by omega)
    have z2 := Int.mul_nonneg (show (0 : Int) ≤ q.count by omega) (show 0 ≤ z by omega)
    omega
theorem span_leL {ns : List Str} {t : Str → Int} (ht : ∀ n, 0 ≤ t n ∧ t n ≤ 30) : ∀ {ps : PlanL}, ps.ok ns → (0 ≤ ps.spanS t ∧ ps.spanS t ≤ 100 * (ps.count * 20 ^ ps.deep)) ∧ 0 ≤ ps.spanM t ∧ ps.spanM t ≤ 100 * (ps.count * 20 ^ ps.deep)
  | .nil, _ => by
    show ((0 : Int) ≤ 0 ∧ (0 : Int) ≤ 100 * (((0 : Nat) : Int) * _)) ∧ (0 : Int) ≤ 0 ∧ (0 : Int) ≤ 100 * (((0 : Nat) : Int) * _)
    simp
  | .cons p ps, g => by
    obtain ⟨a0, a1⟩ := span_le ht (p := p) g.1
    obtain ⟨⟨b0, b1⟩, b2, b3⟩ := span_leL ht (ps := ps) g.2
    have pp : (20 : Int) ^ p.deep ≤ 20 ^ max p.deep ps.deep := by exact_mod_cast Nat.pow_le_pow_right (by decide : 0 < 20) (Nat.le_max_left _ _)
    have pq : (20 : Int) ^ ps.deep ≤ 20 ^ max p.deep ps.deep := by exact_mod_cast Nat.pow_le_pow_right (by decide : 0 < 20) (Nat.le_max_right _ _)
    have c1 : (p.count : Int) * 20 ^ p.deep ≤ p.count * 20 ^ max p.deep ps.deep := Int.mul_le_mul_of_nonneg_left pp (by omega)
    have c2 : (ps.count : Int) * 20 ^ ps.deep ≤ ps.count * 20 ^ max p.deep ps.deep := Int.mul_le_mul_of_nonneg_left pq (by omega)
    have c3 : (0 : Int) ≤ p.count * 20 ^ p.deep := Int.mul_nonneg (by omega) (by have : (1 : Int) ≤ 20 ^ p.deep := Int.pow_pos (by decide); omega)
    have c4 : (0 : Int) ≤ ps.count * 20 ^ ps.deep := Int.mul_nonneg (by omega) (by have : (1 : Int) ≤ 20 ^ ps.deep := Int.pow_pos (by decide); omega)
    have e : (((p.count + ps.count : Nat) : Int)) * 20 ^ max p.deep ps.deep = p.count * 20 ^ max p.deep ps.deep + ps.count * 20 ^ max p.deep ps.deep := by
      push_cast
      rw [Int.add_mul]
    refine ⟨⟨by show 0 ≤ p.span t + ps.spanS t; omega, ?_⟩, by show 0 ≤ max (p.span t) (ps.spanM t); omega, ?_⟩
    · show p.span t + ps.spanS t ≤ 100 * (((p.count + ps.count : Nat) : Int) * 20 ^ max p.deep ps.deep)
      rw [e]
      omega
    · show max (p.span t) (ps.spanM t) ≤ 100 * (((p.count + ps.count : Nat) : Int) * 20 ^ max p.deep ps.deep)
      rw [e]
      omega
end
/-- the last tick of a task -/
def lastT (ts : List (Str × TaskD)) (n : Str) : Int := match ts.find? fun q => decide (q.1 = n) with
  | some q => (q.2.ends.getLast?.map (·.1)).getD 0
  | none => 0
theorem lastT_at {ts : List (Str × TaskD)} {n : Str} {t : TaskD} {e : EndD} (nd : (ts.map (·.1)).Nodup) (h : (n, t) ∈ ts) (he : t.ends.getLast? = some e) : lastT ts n = e.1 := by
  have hf : ts.find? (fun q => decide (q.1 = n)) = some (n, t) := by
    induction ts with
    | nil => cases h
    | cons q r ih =>
      rw [List.map_cons, List.nodup_cons] at nd
      rcases List.mem_cons.mp h with rfl | h
      · exact List.find?_cons_of_pos (by simp)
      · have : ¬ q.1 = n := fun z => nd.1 (List.mem_map.mpr ⟨(n, t), h, z.symm⟩)
        rw [List.find?_cons_of_neg (by simpa using this)]
        exact ih nd.2 h
  unfold lastT
  rw [hf]
  show (t.ends.getLast?.map (·.1)).getD 0 = _
  rw [he]
  rfl
theorem lastT_le {ts : List (Str × TaskD)} (g : GoodTs ts) (n : Str) : 0 ≤ lastT ts n ∧ lastT ts n ≤ 30 := by
  unfold lastT
  cases h : ts.find? fun q => decide (q.1 = n) with
  | none => exact ⟨by decide, by decide⟩
  | some q =>
    have hm := List.mem_of_find?_eq_some h
    have gt := g.tk q hm
    show 0 ≤ (q.2.ends.getLast?.map (·.1)).getD 0 ∧ (q.2.ends.getLast?.map (·.1)).getD 0 ≤ 30
    cases he : q.2.ends.getLast? with
    | none => exact ⟨by decide, by decide⟩
    | some e =>
      have ge := gt.e e (List.mem_of_getLast? he)
      have := ge.t0
      have := ge.t1
      show 0 ≤ e.1 ∧ e.1 ≤ 30
      omega
theorem spanM_max {t : Str → Int} : ∀ {ps : PlanL}, (∀ q ∈ ps.list, 0 ≤ q.span t) → (ps.list = [] → ps.spanM t = 0) ∧ ∀ m, m ∈ ps.list.map (PlanD.span t) → (∀ y ∈ ps.list.map (PlanD.span t), y ≤ m) → ps.spanM t = m
  | .nil, _ => ⟨fun _ => rfl, fun m h => by cases h⟩
  | .cons p ps, h0 => by
    refine ⟨(fun e => by cases e), fun m hm hy => ?_⟩
    obtain ⟨i1, i2⟩ := spanM_max (t := t) (ps := ps) fun q hq => h0 q (List.mem_cons_of_mem _ hq)
    have hp := h0 p List.mem_cons_self
    have hpm := hy (p.span t) List.mem_cons_self
    show max (p.span t) (ps.spanM t) = m
    cases hl : ps.list with
    | nil =>
      have hm' : m ∈ [p.span t] := by
        have : (PlanL.cons p ps).list = [p] := by show p :: ps.list = _; rw [hl]
        rw [this] at hm
        exact hm
      rw [i1 hl]
      have := List.mem_singleton.mp hm'
      omega
    | cons q r =>
      -- the greatest of the rest
      have hne : ps.list.map (PlanD.span t) ≠ [] := by rw [hl]; simp
      obtain ⟨m2, hm2, hy2⟩ : ∃ m2, m2 ∈ ps.list.map (PlanD.span t) ∧ ∀ y ∈ ps.list.map (PlanD.span t), y ≤ m2 := by
        generalize ps.list.map (PlanD.span t) = L at hne
        cases L with
        | nil => exact absurd rfl hne
        | cons z L => exact ⟨_, maxOf_mem L z, maxOf_ge L z⟩
      rw [i2 m2 hm2 hy2]
      have h1 : m2 ≤ m := hy m2 (List.mem_cons_of_mem _ hm2)
      have hm' : m ∈ p.span t :: ps.list.map (PlanD.span t) := hm
      rcases List.mem_cons.mp hm' with e | e
      · omega
      · have := hy2 m e
        omega
end
end L10
set_option maxRecDepth 100000
set_option maxHeartbeats 4000000
namespace L10
open PySem PySem.Spec PyProof.Rows L2 Q7
section
variable {P : Program} {w : World} {K : PySem.W.Frag} {mg : Str → Option Value} {base : Heap}
/-! ### the program's span -/
theorem small_60 {x : Int} (h0 : 0 ≤ x) (h1 : x < 2 ^ 60) : x.natAbs < 2 ^ BN := Nat.lt_of_lt_of_le (show x.natAbs < 2 ^ 60 by omega) (Nat.pow_le_pow_right (by decide) (by decide))
theorem uw_in1 (u : UW) : inV (V.str u.word) [V.str "order", V.str "other"] = false := uw_cases (P := fun x => inV (V.str x) [V.str "order", V.str "other"] = false) u (by decide +kernel) (by decide +kernel) (by decide +kernel) (by decide +kernel) (by decide +kernel) (by decide +kernel)
theorem uw_in2 (u : UW) : inV (V.str u.word) [V.str "both", V.str "race"] = false := uw_cases (P := fun x => inV (V.str x) [V.str "both", V.str "race"] = false) u (by decide +kernel) (by decide +kernel) (by decide +kernel) (by decide +kernel) (by decide +kernel) (by decide +kernel)
def spSpan (K : PySem.W.Frag) (d : Nat) : Sp := fun vs H Q _ => ∃ td v p N H0 ts, vs = [.ref td, v] ∧ Same H0 H ∧ TasksV K H0 td ts ∧ GoodTs ts ∧ PlanV K H0 N v p ∧ p.ok (ts.map (·.1)) ∧ p.count ≤ 60 ∧ p.deep ≤ d ∧ p.deep ≤ 9 ∧ ∀ H', Same H H' → Q (.int (p.span (lastT ts))) H'
theorem ok__span (T : Txt w K mg) : ∀ d, FnOk P w K mg base CX0 (d + 2) (He.ga K "_span") T.fd__span ["tasks", "plan"] (spSpan K d)
  | 0 => ⟨fun vs H Q E h => by
      obtain ⟨td, v, p, N, H0, ts, rfl, _⟩ := h
      rfl, fun A outer s H args us vs Q E hr e0 hb hv h => by
      obtain ⟨td, v, p, N, H0, ts, rfl, _, _, _, _, _, _, dp, _⟩ := h
      have := p.deep_pos
      omega⟩
  | d + 1 => by
    have ih := ok__span T d
    refine T.F__span.ok sc__span (fun vs H Q E h => ?_) (fun cdv A outer s H vs Q E hr h => ⟨_, PSs.nox
      (pss_cons (ps_set (i := 2) sc__span.nd rfl (.inl rfl) (pe_ix ix_tup (pv 1) pe_int (fun _ _ => rfl)))
      (pss_cons (ps_if (pt_cmpR op_eq (pv 2) pe_str (nomark _)) (pss_one (ps_ret (pe_call (ok_last_tick T) (hr.mono (by omega)) (by rfl) T.g_last_tick T.F_last_tick.kp T.b_last_tick .nil pass0 (pa_cons (pe_dget (hu_of hr) (pv 0) (pe_ix ix_tup (pv 1) pe_int (fun _ _ => rfl)) (fun _ _ => rfl)) pa_nil)))) pss_nil)
      (pss_cons (ps_if (pt_cmpR op_in_seq (pv 2) (pe_tup (pa_cons pe_str (pa_cons pe_str pa_nil))) rfl) (pss_one (ps_ret (pe_callB (cr_sum rfl) (by rfl) T.m_sum (by decide +kernel) (pa_cons (pe_lc (own := [("part", 4)]) rfl sc__span.nd (pi_list (pe_ix ix_tup (pv 1) pe_int (fun _ _ => rfl))) (blkOk_by (N := ["tasks", "plan", "word", "inner", "part"]) (sc := defScope s__span) (by decide +kernel)) (fun _ _ _ _ _ => (pg_name (i := 4) sc__span.nd rfl (.inl rfl) (hf := .inr rfl))) (fun _ _ _ _ _ => pts_nil) (fun _ _ _ _ _ => (pe_call ih (hr.mono (by omega)) (by rfl) T.g__span T.F__span.kp T.b__span .nil pass0 (pa_cons (pv 0) (pa_cons (pv 4) pa_nil))))) pa_nil)))) pss_nil)
      (pss_cons (ps_if (pt_cmpR op_in_seq (pv 2) (pe_tup (pa_cons pe_str (pa_cons pe_str pa_nil))) rfl) (pss_one (ps_ret (pe_callBK (call_maxDf rfl hr.units) (by rfl) T.m_max (by decide +kernel) (pa_cons (pe_lc (own := [("part", 4)]) rfl sc__span.nd (pi_list (pe_ix ix_tup (pv 1) pe_int (fun _ _ => rfl))) (blkOk_by (N := ["tasks", "plan", "word", "inner", "part"]) (sc := defScope s__span) (by decide +kernel)) (fun _ _ _ _ _ => (pg_name (i := 4) sc__span.nd rfl (.inl rfl) (hf := .inr rfl))) (fun _ _ _ _ _ => pts_nil) (fun _ _ _ _ _ => (pe_call ih (hr.mono (by omega)) (by rfl) T.g__span T.F__span.kp T.b__span .nil pass0 (pa_cons (pv 0) (pa_cons (pv 4) pa_nil))))) pa_nil) (pk_cons pe_int pk_nil)))) pss_nil)
      (pss_cons (ps_set (i := 3) sc__span.nd rfl (.inl rfl) (pe_call ih (hr.mono (by omega)) (by rfl) T.g__span T.F__span.kp T.b__span .nil pass0 (pa_cons (pv 0) (pa_cons (pe_ix ix_tup (pv 1) (pe_un un_neg pe_int) (fun _ _ => rfl)) pa_nil))))
      (pss_cons (ps_if (pt_cmpR op_eq (pv 2) pe_str (nomark _)) (pss_one (ps_ret (pe_op op_add (pe_op op_mulW (pe_ix ix_tup (pv 1) pe_int (fun _ _ => rfl)) (pv 3)) (pe_op op_mulW (pe_op op_sub (pe_ix ix_tup (pv 1) pe_int (fun _ _ => rfl)) pe_int) (pe_ix ix_tup (pv 1) pe_int (fun _ _ => rfl)))))) pss_nil)
      (pss_cons (ps_if (pt_cmpR op_eq (pv 2) pe_str (nomark _)) (pss_one (ps_ret (pe_callB (call_min2 rfl) (by rfl) T.m_min (by decide +kernel) (pa_cons (pe_ix ix_tup (pv 1) pe_int (fun _ _ => rfl)) (pa_cons (pv 3) pa_nil))))) pss_nil)
      (pss_cons (ps_if (pt_cmpR op_eq (pv 2) pe_str (nomark _)) (pss_one (ps_ret (pe_op op_add (pe_ix ix_tup (pv 1) pe_int (fun _ _ => rfl)) (pv 3)))) pss_nil)
      (pss_cons (ps_if (pt_cmpR op_eq (pv 2) pe_str (nomark _)) (pss_one (ps_ret (pe_callB (call_max2 rfl) (by rfl) T.m_max (by decide +kernel) (pa_cons (pv 3) (pa_cons (pe_op op_add (pe_ix ix_tup (pv 1) pe_int (fun _ _ => rfl)) (pe_call ih (hr.mono (by omega)) (by rfl) T.g__span T.F__span.kp T.b__span .nil pass0 (pa_cons (pv 0) (pa_cons (pe_ix ix_tup (pv 1) pe_int (fun _ _ => rfl)) pa_nil)))) pa_nil))))) pss_nil)
      (pss_one (ps_ret (pv 3)))))))))))), ?_⟩)
    · obtain ⟨td, v, p, N, H0, ts, rfl, _⟩ := h
      rfl
    · obtain ⟨td, v, p, N, H0, ts, rfl, s0, TV, g, PV, ok, cnt, dp, d9, hQ⟩ := h
      have l64 := line64
      have ht := lastT_le g
      obtain ⟨z0, z1⟩ := span_le ht ok
      have zb := pow_big cnt d9
      cases PV with
      | @task a n S0 =>
        have S := Q7.sqT_same s0 S0
        refine ⟨_, rfl, a, _, 0, _, rfl, rfl, S, at0, ?_⟩
        refine ⟨_, rfl, rfl, _, rfl, iteT' (by decide +kernel) ?_⟩
        obtain ⟨kvs, hd0, P0⟩ := id TV
        obtain ⟨⟨n', t⟩, hm, e⟩ := List.mem_map.mp ok
        simp only at e
        subst e
        obtain ⟨x, hx, tx⟩ := tsP_get (tsP_same P0 s0) g.nd hm
        exact ⟨_, rfl, _, rfl, a, _, 1, _, rfl, rfl, S, at1, td, x, rfl, dget_at (s0 _ _ hd0) hx, x, t, rfl, tx, (g.tk _ hm).l0, fun e he => by
          have h := hQ H (Same.refl _)
          have e2 : PlanD.span (lastT ts) (.task n') = e.1 := lastT_at g.nd hm he
          rw [e2] at h
          exact h⟩
      | @many a l wd xs ps S0 n L0 PP =>
        have S := Q7.sqT_same s0 S0
        have L := s0 _ _ L0
        refine ⟨_, rfl, a, _, 0, _, rfl, rfl, S, at0, ?_⟩
        refine ⟨_, rfl, rfl, _, rfl, iteE (lw_task wd) ?_⟩
        refine ⟨_, rfl, two_le, fun w1 hw1 => ⟨w1, _, rfl, .inr (sqT_of upd_same), rfl, by decide, _, rfl, ?_⟩⟩
        have k1 := same_new (o := .tup [.str "order", .str "other"]) hw1
        generalize upd H w1 (.tup [.str "order", .str "other"]) = H1 at *
        cases wd with
        | order =>
          refine iteT' (by decide +kernel) ?_
          refine ⟨_, rfl, a, _, 1, _, rfl, rfl, Q7.sqT_same k1 S, at1, l, rfl, ⟨_, sqL_of (k1 _ _ L)⟩, fun D hD => ?_⟩
          have L' := k1 _ _ L
          have xl := planVs_len PP
          have kn := kids_len (.many .order ps)
          have kk : (PlanD.many .order ps).kids = ps.list := rfl
          rw [kk] at kn
          refine lc_list (xs := xs) (fun i H' => Same _ H' ∧ H' D = some (.lst (((ps.list.take i).map (PlanD.span (lastT ts))).map V.int))) ⟨same_new hD, upd_same⟩ (fun i H' _ r => sqL_of (r.1 _ _ L')) ?_ ?_
          · rintro i v' H' hv ⟨sm, hd⟩
            obtain ⟨c, hc, PY⟩ := planVs_get PP hv
            have hi := (List.getElem?_eq_some_iff.mp hv).1
            have hcm : c ∈ (PlanD.many .order ps).kids := List.mem_of_getElem? hc
            have dc := PlanD.deep_kid hcm
            have cc := count_kid hcm
            refine ⟨rfl, _, rfl, _, rfl, td, v', c, N, H0, ts, rfl, (s0.trans k1).trans sm, TV, g, PY, PlanD.ok_kid ok hcm, by omega, by omega, by omega, fun H4 s4 => ?_⟩
            refine ⟨_, s4 _ _ hd, by rw [List.length_map, List.length_map, List.length_take]; omega, same_mut (sm.trans s4) hD, ?_⟩
            rw [upd_same, List.take_succ, hc, List.map_append, List.map_append]
            rfl
          · rintro H4 ⟨sm, hd⟩
            rw [xl, List.take_length] at hd
            have sQ := k1.trans sm
            refine ⟨D, _, rfl, sqL_of hd, ?_⟩
            rw [← PlanL.spanS_eq]
            exact hQ _ sQ
        | other =>
          refine iteT' (by decide +kernel) ?_
          refine ⟨_, rfl, a, _, 1, _, rfl, rfl, Q7.sqT_same k1 S, at1, l, rfl, ⟨_, sqL_of (k1 _ _ L)⟩, fun D hD => ?_⟩
          have L' := k1 _ _ L
          have xl := planVs_len PP
          have kn := kids_len (.many .other ps)
          have kk : (PlanD.many .other ps).kids = ps.list := rfl
          rw [kk] at kn
          refine lc_list (xs := xs) (fun i H' => Same _ H' ∧ H' D = some (.lst (((ps.list.take i).map (PlanD.span (lastT ts))).map V.int))) ⟨same_new hD, upd_same⟩ (fun i H' _ r => sqL_of (r.1 _ _ L')) ?_ ?_
          · rintro i v' H' hv ⟨sm, hd⟩
            obtain ⟨c, hc, PY⟩ := planVs_get PP hv
            have hi := (List.getElem?_eq_some_iff.mp hv).1
            have hcm : c ∈ (PlanD.many .other ps).kids := List.mem_of_getElem? hc
            have dc := PlanD.deep_kid hcm
            have cc := count_kid hcm
            refine ⟨rfl, _, rfl, _, rfl, td, v', c, N, H0, ts, rfl, (s0.trans k1).trans sm, TV, g, PY, PlanD.ok_kid ok hcm, by omega, by omega, by omega, fun H4 s4 => ?_⟩
            refine ⟨_, s4 _ _ hd, by rw [List.length_map, List.length_map, List.length_take]; omega, same_mut (sm.trans s4) hD, ?_⟩
            rw [upd_same, List.take_succ, hc, List.map_append, List.map_append]
            rfl
          · rintro H4 ⟨sm, hd⟩
            rw [xl, List.take_length] at hd
            have sQ := k1.trans sm
            refine ⟨D, _, rfl, sqL_of hd, ?_⟩
            rw [← PlanL.spanS_eq]
            exact hQ _ sQ
        | both =>
          refine iteE (by decide +kernel) ?_
          refine ⟨_, rfl, two_le, fun w2 hw2 => ⟨w2, _, rfl, .inr (sqT_of upd_same), rfl, by decide, _, rfl, iteT' (by decide +kernel) ?_⟩⟩
          have k2 := k1.trans (same_new (o := .tup [.str "both", .str "race"]) hw2)
          generalize upd H1 w2 (.tup [.str "both", .str "race"]) = H2 at *
          refine ⟨_, rfl, a, _, 1, _, rfl, rfl, Q7.sqT_same k2 S, at1, l, rfl, ⟨_, sqL_of (k2 _ _ L)⟩, fun D hD => ?_⟩
          have L' := k2 _ _ L
          have xl := planVs_len PP
          have kn := kids_len (.many .both ps)
          have kk : (PlanD.many .both ps).kids = ps.list := rfl
          rw [kk] at kn
          refine lc_list (xs := xs) (fun i H' => Same _ H' ∧ H' D = some (.lst (((ps.list.take i).map (PlanD.span (lastT ts))).map V.int))) ⟨same_new hD, upd_same⟩ (fun i H' _ r => sqL_of (r.1 _ _ L')) ?_ ?_
          · rintro i v' H' hv ⟨sm, hd⟩
            obtain ⟨c, hc, PY⟩ := planVs_get PP hv
            have hi := (List.getElem?_eq_some_iff.mp hv).1
            have hcm : c ∈ (PlanD.many .both ps).kids := List.mem_of_getElem? hc
            have dc := PlanD.deep_kid hcm
            have cc := count_kid hcm
            refine ⟨rfl, _, rfl, _, rfl, td, v', c, N, H0, ts, rfl, (s0.trans k2).trans sm, TV, g, PY, PlanD.ok_kid ok hcm, by omega, by omega, by omega, fun H4 s4 => ?_⟩
            refine ⟨_, s4 _ _ hd, by rw [List.length_map, List.length_map, List.length_take]; omega, same_mut (sm.trans s4) hD, ?_⟩
            rw [upd_same, List.take_succ, hc, List.map_append, List.map_append]
            rfl
          · rintro H4 ⟨sm, hd⟩
            rw [xl, List.take_length] at hd
            have sQ := k2.trans sm
            obtain ⟨i1, i2⟩ := spanM_max (t := lastT ts) (ps := ps) fun q hq => (span_le ht (PlanD.ok_kid (p := .many .both ps) ok hq)).1
            refine ⟨D, _, 0, rfl, rfl, sqL_of hd, fun e => ?_, fun m hm hy => ?_⟩
            · have h := hQ _ sQ
              have e2 : PlanD.span (lastT ts) (.many .both ps) = 0 := i1 (List.map_eq_nil_iff.mp e)
              rw [e2] at h
              exact h
            · have h := hQ _ sQ
              have e2 : PlanD.span (lastT ts) (.many .both ps) = m := i2 m hm hy
              rw [e2] at h
              exact h
        | race =>
          refine iteE (by decide +kernel) ?_
          refine ⟨_, rfl, two_le, fun w2 hw2 => ⟨w2, _, rfl, .inr (sqT_of upd_same), rfl, by decide, _, rfl, iteT' (by decide +kernel) ?_⟩⟩
          have k2 := k1.trans (same_new (o := .tup [.str "both", .str "race"]) hw2)
          generalize upd H1 w2 (.tup [.str "both", .str "race"]) = H2 at *
          refine ⟨_, rfl, a, _, 1, _, rfl, rfl, Q7.sqT_same k2 S, at1, l, rfl, ⟨_, sqL_of (k2 _ _ L)⟩, fun D hD => ?_⟩
          have L' := k2 _ _ L
          have xl := planVs_len PP
          have kn := kids_len (.many .race ps)
          have kk : (PlanD.many .race ps).kids = ps.list := rfl
          rw [kk] at kn
          refine lc_list (xs := xs) (fun i H' => Same _ H' ∧ H' D = some (.lst (((ps.list.take i).map (PlanD.span (lastT ts))).map V.int))) ⟨same_new hD, upd_same⟩ (fun i H' _ r => sqL_of (r.1 _ _ L')) ?_ ?_
          · rintro i v' H' hv ⟨sm, hd⟩
            obtain ⟨c, hc, PY⟩ := planVs_get PP hv
            have hi := (List.getElem?_eq_some_iff.mp hv).1
            have hcm : c ∈ (PlanD.many .race ps).kids := List.mem_of_getElem? hc
            have dc := PlanD.deep_kid hcm
            have cc := count_kid hcm
            refine ⟨rfl, _, rfl, _, rfl, td, v', c, N, H0, ts, rfl, (s0.trans k2).trans sm, TV, g, PY, PlanD.ok_kid ok hcm, by omega, by omega, by omega, fun H4 s4 => ?_⟩
            refine ⟨_, s4 _ _ hd, by rw [List.length_map, List.length_map, List.length_take]; omega, same_mut (sm.trans s4) hD, ?_⟩
            rw [upd_same, List.take_succ, hc, List.map_append, List.map_append]
            rfl
          · rintro H4 ⟨sm, hd⟩
            rw [xl, List.take_length] at hd
            have sQ := k2.trans sm
            obtain ⟨i1, i2⟩ := spanM_max (t := lastT ts) (ps := ps) fun q hq => (span_le ht (PlanD.ok_kid (p := .many .race ps) ok hq)).1
            refine ⟨D, _, 0, rfl, rfl, sqL_of hd, fun e => ?_, fun m hm hy => ?_⟩
            · have h := hQ _ sQ
              have e2 : PlanD.span (lastT ts) (.many .race ps) = 0 := i1 (List.map_eq_nil_iff.mp e)
              rw [e2] at h
              exact h
            · have h := hQ _ sQ
              have e2 : PlanD.span (lastT ts) (.many .race ps) = m := i2 m hm hy
              rw [e2] at h
              exact h
      | @one a u x q S0 Pq =>
        have S := Q7.sqT_same s0 S0
        have hcm : q ∈ PlanD.kids (.one u q) := List.mem_singleton.mpr rfl
        have dc := PlanD.deep_kid hcm
        have cc := count_kid hcm
        obtain ⟨y0, y1⟩ := span_le ht ok.2
        have yb := pow_big (p := q) (by omega) (by omega)
        refine ⟨_, rfl, a, _, 0, _, rfl, rfl, S, at0, ?_⟩
        refine ⟨_, rfl, rfl, _, rfl, iteE (uw_task u) ?_⟩
        refine ⟨_, rfl, two_le, fun w1 hw1 => ⟨w1, _, rfl, .inr (sqT_of upd_same), rfl, by decide, _, rfl, iteE (uw_in1 u) ?_⟩⟩
        have k1 := same_new (o := .tup [.str "order", .str "other"]) hw1
        generalize upd H w1 (.tup [.str "order", .str "other"]) = H1 at *
        refine ⟨_, rfl, two_le, fun w2 hw2 => ⟨w2, _, rfl, .inr (sqT_of upd_same), rfl, by decide, _, rfl, iteE (uw_in2 u) ?_⟩⟩
        have k2 := k1.trans (same_new (o := .tup [.str "both", .str "race"]) hw2)
        generalize upd H1 w2 (.tup [.str "both", .str "race"]) = H2 at *
        refine ⟨_, rfl, _, rfl, _, rfl, a, _, _, _, rfl, rfl, Q7.sqT_same k2 S, at_last _ _ _, td, x, q, N, H0, ts, rfl, s0.trans k2, TV, g, Pq, ok.2, by omega, by omega, by omega, fun H3 s3 => ?_⟩
        have sQ := k2.trans s3
        have S3 := Q7.sqT_same sQ S
        cases u with
        | again n d' =>
          have hr1 := ok.1 (n, (1, 20)) (by simp [UW.nums, UW.bounds])
          have hr2 := ok.1 (d', (0, 100)) (by simp [UW.nums, UW.bounds])
          have n0 : 1 ≤ n := hr1.1
          have n1 : n ≤ 20 := hr1.2
          have d0 : 0 ≤ d' := hr2.1
          have d1 : d' ≤ 100 := hr2.2
          refine ⟨_, rfl, rfl, _, rfl, iteT' (by decide +kernel : decide (V.str ("again" : Str) = V.str "again") = true) ?_⟩
          exact ⟨_, rfl, a, _, 1, _, rfl, rfl, S3, at1, _, rfl, _, _, rfl, rfl, mulW (small_60 (by omega) (by omega)) (small_60 y0 (by omega)), _, rfl, a, _, 1, _, rfl, rfl, S3, at1, _, _, rfl, rfl, _, rfl, a, _, 2, _, rfl, rfl, S3, at2, _, _, rfl, rfl, mulW (small_60 (show 0 ≤ n - 1 by omega) (show n - 1 < _ by omega)) (small_60 d0 (by omega)), _, _, rfl, rfl, hQ _ sQ⟩
        | within l =>
          refine ⟨_, rfl, rfl, _, rfl, iteE (by decide +kernel : decide (V.str ("within" : Str) = V.str "again") = false) ?_⟩
          refine ⟨_, rfl, rfl, _, rfl, iteT' (by decide +kernel : decide (V.str ("within" : Str) = V.str "within") = true) ?_⟩
          refine ⟨_, rfl, a, _, 1, _, rfl, rfl, S3, at1, _, rfl, l, _, rfl, ?_⟩
          have h := hQ _ sQ
          have e2 : PlanD.span (lastT ts) (.one (.within l) q) = (if PlanD.span (lastT ts) q < l then PlanD.span (lastT ts) q else l) := by
            show min l (PlanD.span (lastT ts) q) = _
            split <;> omega
          rw [e2] at h
          exact h
        | later d' =>
          refine ⟨_, rfl, rfl, _, rfl, iteE (by decide +kernel : decide (V.str ("later" : Str) = V.str "again") = false) ?_⟩
          refine ⟨_, rfl, rfl, _, rfl, iteE (by decide +kernel : decide (V.str ("later" : Str) = V.str "within") = false) ?_⟩
          refine ⟨_, rfl, rfl, _, rfl, iteT' (by decide +kernel : decide (V.str ("later" : Str) = V.str "later") = true) ?_⟩
          exact ⟨_, rfl, a, _, 1, _, rfl, rfl, S3, at1, _, rfl, _, _, rfl, rfl, hQ _ sQ⟩
        | keep =>
          refine ⟨_, rfl, rfl, _, rfl, iteE (by decide +kernel : decide (V.str ("keep" : Str) = V.str "again") = false) ?_⟩
          refine ⟨_, rfl, rfl, _, rfl, iteE (by decide +kernel : decide (V.str ("keep" : Str) = V.str "within") = false) ?_⟩
          refine ⟨_, rfl, rfl, _, rfl, iteE (by decide +kernel : decide (V.str ("keep" : Str) = V.str "later") = false) ?_⟩
          refine ⟨_, rfl, rfl, _, rfl, iteE (by decide +kernel : decide (V.str ("keep" : Str) = V.str "watch") = false) ?_⟩
          exact ⟨_, rfl, hQ _ sQ⟩
        | easy =>
          refine ⟨_, rfl, rfl, _, rfl, iteE (by decide +kernel : decide (V.str ("easy" : Str) = V.str "again") = false) ?_⟩
          refine ⟨_, rfl, rfl, _, rfl, iteE (by decide +kernel : decide (V.str ("easy" : Str) = V.str "within") = false) ?_⟩
          refine ⟨_, rfl, rfl, _, rfl, iteE (by decide +kernel : decide (V.str ("easy" : Str) = V.str "later") = false) ?_⟩
          refine ⟨_, rfl, rfl, _, rfl, iteE (by decide +kernel : decide (V.str ("easy" : Str) = V.str "watch") = false) ?_⟩
          exact ⟨_, rfl, hQ _ sQ⟩
        | back m =>
          refine ⟨_, rfl, rfl, _, rfl, iteE (by decide +kernel : decide (V.str ("back" : Str) = V.str "again") = false) ?_⟩
          refine ⟨_, rfl, rfl, _, rfl, iteE (by decide +kernel : decide (V.str ("back" : Str) = V.str "within") = false) ?_⟩
          refine ⟨_, rfl, rfl, _, rfl, iteE (by decide +kernel : decide (V.str ("back" : Str) = V.str "later") = false) ?_⟩
          refine ⟨_, rfl, rfl, _, rfl, iteE (by decide +kernel : decide (V.str ("back" : Str) = V.str "watch") = false) ?_⟩
          exact ⟨_, rfl, hQ _ sQ⟩
      | @watch a l x y s q S0 P1 P2 =>
        have S := Q7.sqT_same s0 S0
        have m1 : s ∈ PlanD.kids (.watch l s q) := List.mem_cons_self
        have m2 : q ∈ PlanD.kids (.watch l s q) := List.mem_cons_of_mem _ List.mem_cons_self
        have dc1 := PlanD.deep_kid m1
        have cc1 := count_kid m1
        have dc2 := PlanD.deep_kid m2
        have cc2 := count_kid m2
        refine ⟨_, rfl, a, _, 0, _, rfl, rfl, S, at0, ?_⟩
        refine ⟨_, rfl, rfl, _, rfl, iteE (by decide +kernel) ?_⟩
        refine ⟨_, rfl, two_le, fun w1 hw1 => ⟨w1, _, rfl, .inr (sqT_of upd_same), rfl, by decide, _, rfl, iteE (by decide +kernel) ?_⟩⟩
        have k1 := same_new (o := .tup [.str "order", .str "other"]) hw1
        generalize upd H w1 (.tup [.str "order", .str "other"]) = H1 at *
        refine ⟨_, rfl, two_le, fun w2 hw2 => ⟨w2, _, rfl, .inr (sqT_of upd_same), rfl, by decide, _, rfl, iteE (by decide +kernel) ?_⟩⟩
        have k2 := k1.trans (same_new (o := .tup [.str "both", .str "race"]) hw2)
        generalize upd H1 w2 (.tup [.str "both", .str "race"]) = H2 at *
        refine ⟨_, rfl, _, rfl, _, rfl, a, _, _, _, rfl, rfl, Q7.sqT_same k2 S, at_last (.str "watch") [.int l, x] y, td, y, q, N, H0, ts, rfl, s0.trans k2, TV, g, P2, PlanD.ok_kid ok m2, by omega, by omega, by omega, fun H3 s3 => ?_⟩
        have sQ := k2.trans s3
        have S3 := Q7.sqT_same sQ S
        refine ⟨_, rfl, rfl, _, rfl, iteE (by decide +kernel) ?_⟩
        refine ⟨_, rfl, rfl, _, rfl, iteE (by decide +kernel) ?_⟩
        refine ⟨_, rfl, rfl, _, rfl, iteE (by decide +kernel) ?_⟩
        refine ⟨_, rfl, rfl, _, rfl, iteT' (by decide +kernel) ?_⟩
        refine ⟨_, rfl, _, rfl, a, _, 1, _, rfl, rfl, S3, at1, _, rfl, _, rfl, a, _, 2, _, rfl, rfl, S3, at2, td, x, s, N, H0, ts, rfl, s0.trans sQ, TV, g, P1, PlanD.ok_kid ok m1, by omega, by omega, by omega, fun H4 s4 => ⟨_, _, rfl, rfl, _, _, rfl, ?_⟩⟩
        have h := hQ _ (sQ.trans s4)
        have e2 : PlanD.span (lastT ts) (.watch l s q) = (if l + PlanD.span (lastT ts) s > PlanD.span (lastT ts) q then l + PlanD.span (lastT ts) s else PlanD.span (lastT ts) q) := by
          show max (PlanD.span (lastT ts) q) (l + PlanD.span (lastT ts) s) = _
          split <;> omega
        rw [e2] at h
        exact h
end
end L10
set_option maxRecDepth 100000
set_option maxHeartbeats 4000000
namespace L10
open PySem PySem.Spec PyProof.Rows L2 Q7
section
variable {P : Program} {w : World} {K : PySem.W.Frag} {mg : Str → Option Value} {base : Heap}
/-! ### sizes are checked, texts written -/
def spChkS (K : PySem.W.Frag) : Sp := fun vs H Q _ => ∃ td v p ts N, vs = [.ref td, v] ∧ TasksV K H td ts ∧ GoodTs ts ∧ PlanV K H N v p ∧ p.ok (ts.map (·.1)) ∧ p.count ≤ 40 ∧ p.deep ≤ 8 ∧ p.size ≤ 400 ∧ p.span (lastT ts) ≤ 400 ∧ ∀ H', Same H H' → Q .non H'
theorem ok_check_size (T : Txt w K mg) : FnOk P w K mg base CX0 11 (He.ga K "check_size") T.fd_check_size ["tasks", "plan"] (spChkS K) := by
  refine T.F_check_size.ok sc_check_size (fun vs H Q E h => ?_) (fun cdv A outer s H vs Q E hr h => ⟨_, PSs.nox
    (pss_one (ps_for PassesOwn.never rfl (pi_tup (pe_tup (pa_cons (pe_call (ok__size T 8) (hr.mono (by decide)) (by rfl) T.g__size T.F__size.kp T.b__size .nil pass0 (pa_cons (pv 1) pa_nil)) (pa_cons (pe_call (ok__span T 8) (hr.mono (by decide)) (by rfl) T.g__span T.F__span.kp T.b__span .nil pass0 (pa_cons (pv 0) (pa_cons (pv 1) pa_nil))) pa_nil)))) (pg_name (i := 2) sc_check_size.nd rfl (.inl rfl)) (pss_one (ps_if (pt_cmpR op_gt (pv 2) (pe_gint rfl T.g_MOST_SIZE) (nomark _)) (pss_one ps_never) pss_nil)))), ?_⟩)
  · obtain ⟨td, v, p, ts, N, rfl, _⟩ := h
    rfl
  · obtain ⟨td, v, p, ts, N, rfl, TV, g, PV, ok, cnt, dp, sz, sn, hQ⟩ := h
    have l64 := line64
    refine ⟨_, rfl, v, p, N, H, _, rfl, Same.refl _, PV, ok, by omega, by omega, by omega, fun H1 s1 => ?_⟩
    refine ⟨_, rfl, _, rfl, td, v, p, N, H, ts, rfl, s1, TV, g, PV, ok, by omega, by omega, by omega, fun H2 s2 => ⟨two_le, fun t ht => ?_⟩⟩
    have k3 := same_new (o := .tup [.int p.size, .int (p.span (lastT ts))]) ht
    have St := sqT_of (K := K) (upd_same (H := H2) (a := t) (o := .tup [.int p.size, .int (p.span (lastT ts))]))
    generalize upd H2 t (.tup [.int p.size, .int (p.span (lastT ts))]) = H3 at *
    refine ⟨t, rfl, ⟨_, St⟩, ?_⟩
    refine for_tup (xs := [.int p.size, .int (p.span (lastT ts))]) (fun i σ H' => H' = H3 ∧ ∃ o3, σ = [some (.ref td), some v, o3]) ⟨rfl, _, rfl⟩ (fun i σ H' _ r => by rw [r.1]; exact St) ?_ ?_
    · rintro i x σ H' hv ⟨rfl, o3, rfl⟩
      have : ∃ n : Int, x = .int n ∧ n ≤ 400 := by
        match i, hv with
        | 0, hv => exact ⟨_, (Option.some.inj hv).symm, sz⟩
        | 1, hv => exact ⟨_, (Option.some.inj hv).symm, sn⟩
      obtain ⟨n, rfl, hn⟩ := this
      exact ⟨_, rfl, _, _, rfl, rfl, _, rfl, iteE (decide_eq_false (by omega)) ⟨rfl, _, rfl⟩⟩
    · rintro σ H' ⟨rfl, o3, rfl⟩
      exact hQ _ ((s1.trans s2).trans k3)
theorem ok_check_plan (T : Txt w K mg) : FnOk P w K mg base CX0 12 (He.ga K "check_plan") T.fd_check_plan ["tasks", "plan"] (spChkS K) := by
  refine T.F_check_plan.ok sc_check_plan (fun vs H Q E h => ?_) (fun cdv A outer s H vs Q E hr h => ⟨_, PSs.nox
    (pss_cons (ps_expr (pe_call (ok_check_form T) (hr.mono (by decide)) (by rfl) T.g_check_form T.F_check_form.kp T.b_check_form .nil pass0 (pa_cons (pv 0) (pa_cons (pv 1) pa_nil))))
      (pss_one (ps_expr (pe_call (ok_check_size T) (hr.mono (by decide)) (by rfl) T.g_check_size T.F_check_size.kp T.b_check_size .nil pass0 (pa_cons (pv 0) (pa_cons (pv 1) pa_nil)))))), ?_⟩)
  · obtain ⟨td, v, p, ts, N, rfl, _⟩ := h
    rfl
  · obtain ⟨td, v, p, ts, N, rfl, TV, g, PV, ok, cnt, dp, sz, sn, hQ⟩ := h
    refine ⟨_, rfl, _, rfl, td, v, p, ts, N, rfl, TV, g, PV, ok, cnt, dp, fun H1 s1 => ?_⟩
    refine ⟨_, rfl, _, rfl, td, v, p, ts, N, rfl, tasksV_same TV s1, g, planV_same PV s1, ok, cnt, dp, sz, sn, fun H2 s2 => ?_⟩
    exact hQ _ (s1.trans s2)
end
end L10
set_option maxRecDepth 100000
set_option maxHeartbeats 4000000
namespace L10
open PySem PySem.Spec PyProof.Rows L2 Q7
section
variable {P : Program} {w : World} {K : PySem.W.Frag} {mg : Str → Option Value} {base : Heap}
/-! ### the law's numbers -/
def CPowN (i j : Int) : Prop := 0 ≤ j ∧ (Builtin.Int.intBits i : Int) * j ≤ 2 ^ 27
theorem op_powN {X : Cx} : OpR X (binaryOp .Pow) (rI CPowN fun i j => .int (i ^ j.toNat)) := opI fun i j _ _ _ _ _ hc q => PyProof.Rows.pow_int hc.1 hc.2 q
theorem bits_le {x : Int} {n : Nat} (h : x.natAbs < 2 ^ n) (hn : 0 < n) : Builtin.Int.intBits x ≤ n := by
  have l := PySem.Flt.log2_lt_of hn h
  unfold Builtin.Int.intBits
  split <;> omega
theorem pow3 {x : Int} (h : x.natAbs < 2 ^ 200) : CPowN x 3 := ⟨by decide, by have := bits_le h (by decide); omega⟩
theorem abs_add_lt {a b : Int} {n : Nat} (ha : a.natAbs < 2 ^ n) (hb : b.natAbs < 2 ^ n) : (a + b).natAbs < 2 ^ (n + 1) := by
  rw [Nat.pow_succ]
  omega
def SrcAt (H : Hp) (b : Addr) (s0 s1 s2 : Int) : Prop := H b = some (.lst [.int s0, .int s1, .int s2])
theorem emod_abs {x m : Int} {n : Nat} (h0 : 0 < m) (h : m.natAbs ≤ 2 ^ n) : (x % m).natAbs < 2 ^ n := by
  have h1 := Int.emod_nonneg x (show m ≠ 0 by omega)
  have h2 := Int.emod_lt_of_pos x h0
  omega
def spSource : Sp := fun vs H Q _ => ∃ c k : Int, vs = [.int c, .int k] ∧ 0 ≤ k ∧ k < 2 ^ 20 ∧ ∀ b s0 s1, H b = none → s1.natAbs < 2 ^ 150 → Q (.ref b) (upd H b (.lst [.int s0, .int s1, .int 0]))
theorem big1 : (0 : Int) < 22771796869795548688929189905227752639 ∧ (22771796869795548688929189905227752639 : Int).natAbs ≤ 2 ^ 125 := by decide
theorem big2 : (0 : Int) < 784539008398161451444762085142415230777 ∧ (784539008398161451444762085142415230777 : Int).natAbs ≤ 2 ^ 130 := by decide
theorem big3 : (0 : Int) < 45732837066512861319190450288120557209 ∧ (45732837066512861319190450288120557209 : Int).natAbs ≤ 2 ^ 130 := by decide
theorem ok__law_source (T : Txt w K mg) : FnOk P w K mg base CX0 1 (He.ga K "_law_source") T.fd__law_source ["cell", "k"] spSource := by
  refine T.F__law_source.ok sc__law_source (fun vs H Q E h => ?_) (fun cdv A outer s H vs Q E hr h => ⟨_, PSs.nox
    (pss_one (ps_ret (pe_lst (pa_cons (pe_callB (call_max2 rfl) (by rfl) T.m_max (by decide +kernel) (pa_cons pe_int (pa_cons (pe_op op_sub (pv 0) (pe_op op_pow pe_int pe_int)) pa_nil))) (pa_cons (pe_op op_add (pe_op op_mulW (pe_op op_mod (pe_callTy call_int1 (by rfl) T.m_int (by decide +kernel) (pa_cons (pv 0) pa_nil)) pe_int) pe_int) (pv 1)) (pa_cons pe_int pa_nil)))))), ?_⟩)
  · obtain ⟨c, k, rfl, _⟩ := h
    rfl
  · obtain ⟨c, k, rfl, h0, h1, hQ⟩ := h
    refine ⟨_, rfl, _, _, rfl, rfl, ⟨by decide, by decide, by decide⟩, _, _, rfl, rfl, _, _, rfl, ?_⟩
    refine ⟨_, rfl, .inl ⟨_, rfl, _, _, rfl, rfl, big1.1, _, _, rfl, rfl, cmul_of (a := 125) (b := 10) (emod_abs big1.1 big1.2) (by decide) (by decide), _, rfl, _, _, rfl, rfl, three_le, fun l hl => ?_⟩⟩
    refine hQ l _ _ hl ?_
    refine Nat.lt_of_lt_of_le (abs_add_lt (n := 135) ?_ ?_) (pow_le' (by decide))
    · exact abs_mul_lt (n := 125) (m := 10) (emod_abs big1.1 big1.2) (by decide)
    · exact Nat.lt_of_lt_of_le (show k.natAbs < 2 ^ 20 by omega) (pow_le' (by decide))
theorem upd_upd {H : Hp} {b : Addr} {o p : HO} : upd (upd H b o) b p = upd H b p := by
  funext a
  by_cases h : a = b
  · subst h; rw [upd_same, upd_same]
  · rw [upd_ne h, upd_ne h, upd_ne h]
def spDraw : Sp := fun vs H Q _ => ∃ b s0 s1 s2 m, vs = [.ref b, .int m] ∧ SrcAt H b s0 s1 s2 ∧ 0 ≤ s2 ∧ s2 < 2 ^ 40 ∧ s1.natAbs < 2 ^ 150 ∧ 0 < m ∧ m.natAbs < 2 ^ 220 ∧
  ∀ r s0' s2' : Int, 0 ≤ r → r < m → s2 ≤ s2' → s2' ≤ s2 + 1 → Q (.int r) (upd H b (.lst [.int s0', .int s1, .int s2']))
theorem ok__law_draw (T : Txt w K mg) : FnOk P w K mg base CX0 1 (He.ga K "_law_draw") T.fd__law_draw ["source", "wide"] spDraw := by
  refine T.F__law_draw.ok sc__law_draw (fun vs H Q E h => ?_) (fun cdv A outer s H vs Q E hr h => ⟨_, PSs.nox
    (pss_cons (ps_if (pt_cmpR op_gt (pe_ix ix_list (pv 0) pe_int (fun _ _ => rfl)) pe_int (nomark _)) (pss_cons (ps_set (i := 2) sc__law_draw.nd rfl (.inl rfl) (pe_op op_mod (pe_callTy call_int1 (by rfl) T.m_int (by decide +kernel) (pa_cons (pe_ix ix_list (pv 0) pe_int (fun _ _ => rfl)) pa_nil)) (pv 1)))
      (pss_cons (ps_asg (pe_op op_fdivA (pe_ix ix_list (pv 0) pe_int (fun _ _ => rfl)) (pv 1)) (pg_sub (pv 0) pe_int set_list))
      (pss_one (ps_ret (pv 2))))) pss_nil)
      (pss_cons (ps_asg (pe_op op_add (pe_ix ix_list (pv 0) pe_int (fun _ _ => rfl)) pe_int) (pg_sub (pv 0) pe_int set_list))
      (pss_cons (ps_set (i := 3) sc__law_draw.nd rfl (.inl rfl) (pe_op op_add (pe_ix ix_list (pv 0) pe_int (fun _ _ => rfl)) (pe_op op_mulW pe_int (pe_ix ix_list (pv 0) pe_int (fun _ _ => rfl)))))
      (pss_cons (ps_set (i := 4) sc__law_draw.nd rfl (.inl rfl) (pe_op op_mod (pe_callTy call_int1 (by rfl) T.m_int (by decide +kernel) (pa_cons (pe_op op_powN (pv 3) pe_int) pa_nil)) pe_int))
      (pss_cons (ps_set (i := 3) sc__law_draw.nd rfl (.inl rfl) (pe_op op_add (pv 4) (pe_op op_mulW pe_int (pe_ix ix_list (pv 0) pe_int (fun _ _ => rfl)))))
      (pss_cons (ps_set (i := 4) sc__law_draw.nd rfl (.inl rfl) (pe_op op_mod (pe_callTy call_int1 (by rfl) T.m_int (by decide +kernel) (pa_cons (pe_op op_powN (pv 3) pe_int) pa_nil)) pe_int))
      (pss_one (ps_ret (pe_op op_mod (pe_callTy call_int1 (by rfl) T.m_int (by decide +kernel) (pa_cons (pe_op op_fdivA (pv 4) pe_int) pa_nil)) (pv 1)))))))))), ?_⟩)
  · obtain ⟨b, s0, s1, s2, m, rfl, _⟩ := h
    rfl
  · obtain ⟨b, s0, s1, s2, m, rfl, hb, d0, d1, e1, m0, m1, hQ⟩ := h
    have hB : ∀ {x y z : Int}, upd H b (.lst [.int x, .int y, .int z]) b = some (.lst [.int x, .int y, .int z]) := upd_same
    have hc : ∀ x, CDivA x m := fun x => cdiv_of (b := 220) (by omega) m1 (by decide) (by decide)
    have hb' : H b = some (.lst [.int s0, .int s1, .int s2]) := hb
    have e0 : ∀ {a : Int}, 0 ≤ a % m := Int.emod_nonneg _ (by omega)
    refine ⟨_, rfl, _, _, _, _, rfl, rfl, sqL_of hb', rfl, _, _, rfl, rfl, _, rfl, ite2 (fun _ => ?_) fun _ => ?_⟩
    · refine ⟨_, rfl, _, _, _, _, rfl, rfl, sqL_of hb', rfl, .inl ⟨_, rfl, _, rfl, _, _, rfl, rfl, m0, ?_⟩⟩
      refine ⟨_, rfl, _, _, _, _, rfl, rfl, sqL_of hb', rfl, _, rfl, _, _, rfl, rfl, hc _, _, rfl, _, _, _, _, rfl, rfl, hb', rfl, _, rfl, ?_⟩
      exact hQ _ _ _ e0 (Int.emod_lt_of_pos _ m0) (Int.le_refl _) (by omega)
    · refine ⟨_, rfl, _, _, _, _, rfl, rfl, sqL_of hb', rfl, _, _, rfl, rfl, _, rfl, _, _, _, _, rfl, rfl, hb', rfl, ?_⟩
      have k1 : CMulW 356851 (s2 + 1) := cmul_of (a := 19) (b := 41) (by decide) (by omega) (by decide)
      have k2 : CMulW 7891 (s2 + 1) := cmul_of (a := 19) (b := 41) (by decide) (by omega) (by decide)
      have l1 : (356851 * (s2 + 1)).natAbs < 2 ^ 150 := Nat.lt_of_lt_of_le (abs_mul_lt (n := 19) (m := 41) (by decide) (by omega)) (pow_le' (by decide))
      have l2 : (7891 * (s2 + 1)).natAbs < 2 ^ 150 := Nat.lt_of_lt_of_le (abs_mul_lt (n := 19) (m := 41) (by decide) (by omega)) (pow_le' (by decide))
      refine ⟨_, rfl, _, _, _, _, rfl, rfl, sqL_of hB, rfl, _, rfl, _, _, _, _, rfl, rfl, sqL_of hB, rfl, _, _, rfl, rfl, k1, _, _, rfl, rfl, ?_⟩
      refine ⟨_, rfl, _, _, rfl, rfl, pow3 (Nat.lt_of_lt_of_le (abs_add_lt e1 l1) (pow_le' (by decide))), .inl ⟨_, rfl, _, _, rfl, rfl, big2.1, ?_⟩⟩
      refine ⟨_, rfl, _, rfl, _, _, _, _, rfl, rfl, sqL_of hB, rfl, _, _, rfl, rfl, k2, _, _, rfl, rfl, ?_⟩
      refine ⟨_, rfl, _, _, rfl, rfl, pow3 (Nat.lt_of_lt_of_le (abs_add_lt (n := 150) (Nat.lt_of_lt_of_le (emod_abs big2.1 big2.2) (pow_le' (by decide))) l2) (pow_le' (by decide))), .inl ⟨_, rfl, _, _, rfl, rfl, big3.1, ?_⟩⟩
      refine ⟨_, rfl, _, _, rfl, rfl, ⟨by decide, by decide⟩, .inl ⟨_, rfl, _, rfl, _, _, rfl, rfl, m0, ?_⟩⟩
      exact hQ _ _ _ e0 (Int.emod_lt_of_pos _ m0) (by omega) (Int.le_refl _)
theorem gcd_step (x : Int) {n : Nat} (hn : 0 < n) : Nat.gcd n (x % n).toNat = Nat.gcd x.natAbs n := by
  have h0 := Int.emod_nonneg x (show (n : Int) ≠ 0 by omega)
  have e : x % n + n * (x / n) = x := Int.emod_add_mul_ediv x n
  refine Nat.dvd_antisymm (Nat.dvd_gcd ?_ (Nat.gcd_dvd_left _ _)) (Nat.dvd_gcd (Nat.gcd_dvd_right _ _) ?_)
  · have h1 : ((Nat.gcd n (x % n).toNat : Nat) : Int) ∣ (n : Int) := Int.natCast_dvd_natCast.mpr (Nat.gcd_dvd_left _ _)
    have h2 : ((Nat.gcd n (x % n).toNat : Nat) : Int) ∣ x % n := by
      have := Int.natCast_dvd_natCast.mpr (Nat.gcd_dvd_right n (x % n).toNat)
      rwa [Int.toNat_of_nonneg h0] at this
    have h3 : ((Nat.gcd n (x % n).toNat : Nat) : Int) ∣ x := by
      have := Int.dvd_add h2 (Int.dvd_mul_of_dvd_left (c := x / n) h1)
      rwa [e] at this
    exact Int.ofNat_dvd_left.mp h3
  · have h1 : ((Nat.gcd x.natAbs n : Nat) : Int) ∣ (n : Int) := Int.natCast_dvd_natCast.mpr (Nat.gcd_dvd_right _ _)
    have h2 : ((Nat.gcd x.natAbs n : Nat) : Int) ∣ x := Int.ofNat_dvd_left.mpr (Nat.gcd_dvd_left _ _)
    have h3 : ((Nat.gcd x.natAbs n : Nat) : Int) ∣ x % n := by
      rw [show x % n = x - n * (x / n) by omega]
      exact Int.dvd_sub h2 (Int.dvd_mul_of_dvd_left h1)
    have := Int.ofNat_dvd_left.mp h3
    rwa [show (x % n).natAbs = (x % n).toNat by omega] at this
def Sb (b : Addr) (H H' : Hp) : Prop := ∀ x o, H x = some o → x ≠ b → H' x = some o
theorem Sb.trans {b : Addr} {H H1 H2 : Hp} (s : Sb b H H1) (t : Sb b H1 H2) : Sb b H H2 := fun x o e n => t x o (s x o e n) n
theorem Sb.of {b : Addr} {H H' : Hp} (s : Same H H') : Sb b H H' := fun x o e _ => s x o e
theorem Sb.upd {b : Addr} {H : Hp} {o : HO} : Sb b H (upd H b o) := fun x p e n => by rw [upd_ne n]; exact e
theorem sb_mut {b p : Addr} {H H' : Hp} {o : HO} (s : Sb b H H') (h : H p = none) : Sb b H (upd H' p o) := fun x u e n => by
  rw [upd_ne (ne_of_none e h)]
  exact s x u e n
def spMade (K : PySem.W.Frag) : Sp := fun vs H Q _ => ∃ a b : Int, vs = [.int a, .int b] ∧ 0 ≤ a ∧ 0 < b ∧ b.natAbs < 2 ^ 8000 ∧ ∀ v H', Same H H' → FrV K H' v (Rat.divInt a b) → Q v H'
end
end L10
set_option maxRecDepth 100000
set_option maxHeartbeats 4000000
namespace L10
open PySem PySem.Spec PyProof.Rows L2 Q7
section
variable {P : Program} {w : World} {K : PySem.W.Frag} {mg : Str → Option Value} {base : Heap}
/-! ### draws, tasks -/
def TaskL (K : PySem.W.Frag) (H : Hp) (v : V) (t : TaskD) (l : Addr) : Prop := ∃ p es, v = .ref p ∧ SqT K H p [.int t.cost, undoV t.undo, .ref l] ∧ H l = some (.lst es) ∧ Paired (EndV K H) es t.ends
theorem TaskL.v {H : Hp} {v : V} {t : TaskD} {l : Addr} (h : TaskL K H v t l) : TaskV K H v t := by
  obtain ⟨p, es, h⟩ := h
  exact ⟨p, l, es, h⟩
theorem taskL_mut {H H' : Hp} {v : V} {t : TaskD} {l : Addr} (h : TaskL K H v t l) (s : TK H H') (e : ∀ es, H l = some (.lst es) → H' l = some (.lst es)) : TaskL K H' v t l := by
  obtain ⟨p, es, e1, S, L, P⟩ := h
  exact ⟨p, es, e1, sqT_tk S s, e _ L, pImp (fun _ _ z => endV_tk z s) P⟩
theorem taskL_same {H H' : Hp} {v : V} {t : TaskD} {l : Addr} (h : TaskL K H v t l) (s : Same H H') : TaskL K H' v t l := taskL_mut h (same_tk s) fun _ e => s _ _ e
theorem none_same0 {H H' : Hp} {p : Addr} (s : Same H H') (h : H' p = none) : H p = none := by
  cases e : H p with
  | none => rfl
  | some u => rw [s _ _ e] at h; cases h
def putT (ts : List (Str × TaskD)) (n : Str) (t : TaskD) : List (Str × TaskD) := if n ∈ ts.map (·.1) then ts.map fun q => if q.1 = n then (q.1, t) else q else ts ++ [(n, t)]
theorem tsP_map {H : Hp} {n : Str} {t : TaskD} {v : V} (tv : TaskV K H v t) : ∀ {kvs : List (Key × V)} {ts : List (Str × TaskD)}, TsP K H kvs ts → TsP K H (kvs.map fun kv => if kv.1 = Sum.inr n then (kv.1, v) else kv) (ts.map fun q => if q.1 = n then (q.1, t) else q)
  | _, _, .nil => .nil
  | kv :: kvs, q :: ts, .cons h r => by
    refine .cons ?_ (tsP_map tv r)
    dsimp only
    by_cases e : q.1 = n
    · rw [if_pos e, if_pos (by rw [h.1, e])]
      exact ⟨h.1, tv⟩
    · rw [if_neg e, if_neg (by rw [h.1]; intro z; cases z; exact e rfl)]
      exact h
theorem tsP_put {H : Hp} {n : Str} {t : TaskD} {v : V} (tv : TaskV K H v t) {kvs : List (Key × V)} {ts : List (Str × TaskD)} (h : TsP K H kvs ts) : TsP K H (putK kvs (Sum.inr n) v) (putT ts n t) := by
  by_cases m : n ∈ ts.map (·.1)
  · obtain ⟨⟨n', t'⟩, hm, e⟩ := List.mem_map.mp m
    simp only at e
    subst e
    obtain ⟨x, hx⟩ := tsP_some h hm
    have a : (kvs.any fun kv => decide (kv.1 = Sum.inr n')) = true := by rw [valV_any, hx]; rfl
    unfold putK putT
    rw [if_pos a, if_pos m]
    exact tsP_map tv h
  · rw [putK_new v (tsP_not h m)]
    unfold putT
    rw [if_neg m]
    exact pApp h (.cons ⟨rfl, tv⟩ .nil)
theorem putT_names {ts : List (Str × TaskD)} {n : Str} {t : TaskD} (m : n ∈ ts.map (·.1)) : (putT ts n t).map (·.1) = ts.map (·.1) := by
  unfold putT
  rw [if_pos m, List.map_map]
  apply List.map_congr_left
  intro q _
  show (if q.1 = n then (q.1, t) else q).1 = q.1
  split <;> rfl
theorem putT_len {ts : List (Str × TaskD)} {n : Str} {t : TaskD} (l : ts.length ≤ 12) (h : n ∈ ts.map (·.1) ∨ ts.length < 12) : (putT ts n t).length ≤ 12 := by
  unfold putT
  split
  · rw [List.length_map]; exact l
  · rename_i m
    rw [List.length_append, List.length_singleton]
    have := h.resolve_left m
    omega
theorem putT_nd {ts : List (Str × TaskD)} {n : Str} {t : TaskD} (nd : (ts.map (·.1)).Nodup) : ((putT ts n t).map (·.1)).Nodup := by
  by_cases m : n ∈ ts.map (·.1)
  · rw [putT_names m]; exact nd
  · unfold putT
    rw [if_neg m, List.map_append]
    refine List.nodup_append.mpr ⟨nd, by simp, fun a ha b hb => ?_⟩
    simp only [List.map_cons, List.map_nil, List.mem_singleton] at hb
    subst hb
    exact fun z => m (z ▸ ha)
theorem putT_good {ts : List (Str × TaskD)} {n : Str} {t : TaskD} (g : GoodTs ts) (gn : GoodN n) (gt : GoodT t) (h : n ∈ ts.map (·.1) ∨ ts.length < 12) : GoodTs (putT ts n t) := by
  refine ⟨?_, putT_len g.l1 h, ?_, ?_, putT_nd g.nd⟩
  · unfold putT
    split
    · rw [List.length_map]; exact g.l0
    · rw [List.length_append]; have := g.l0; omega
  · intro q hq
    unfold putT at hq
    split at hq
    · obtain ⟨p, hp, rfl⟩ := List.mem_map.mp hq
      split
      · exact g.nm p hp
      · exact g.nm p hp
    · rcases List.mem_append.mp hq with hq | hq
      · exact g.nm q hq
      · rw [List.mem_singleton] at hq; subst hq; exact gn
  · intro q hq
    unfold putT at hq
    split at hq
    · obtain ⟨p, hp, rfl⟩ := List.mem_map.mp hq
      split
      · exact gt
      · exact g.tk p hp
    · rcases List.mem_append.mp hq with hq | hq
      · exact g.tk q hq
      · rw [List.mem_singleton] at hq; subst hq; exact gt
theorem n_ne {H : Hp} {p b : Addr} {x y z : Int} (hs : SrcAt H b x y z) (hp : H p = none) : p ≠ b := fun e => by subst e; unfold SrcAt at hs; rw [hp] at hs; cases hs
/-- what a def that draws leaves: the source, moved by at most w -/
structure Dr (b : Addr) (s1 s2 : Int) (w : Int) (H H' : Hp) (u0 u2 : Int) : Prop where
  sb : Sb b H H'
  sr : SrcAt H' b u0 s1 u2
  lo : s2 ≤ u2
  hi : u2 ≤ s2 + w
section
variable {b : Addr} {s1 s2 w u0 u2 : Int} {H H' : Hp}
theorem Dr.start {s0 : Int} (hs : SrcAt H b s0 s1 s2) : Dr b s1 s2 0 H H s0 s2 := ⟨.of (Same.refl _), hs, Int.le_refl _, by omega⟩
theorem Dr.same {H2 : Hp} (d : Dr b s1 s2 w H H' u0 u2) (s : Same H' H2) : Dr b s1 s2 w H H2 u0 u2 := ⟨d.sb.trans (.of s), s _ _ d.sr, d.lo, d.hi⟩
theorem Dr.new {p : Addr} {o : HO} (d : Dr b s1 s2 w H H' u0 u2) (hp : H' p = none) : Dr b s1 s2 w H (upd H' p o) u0 u2 := d.same (same_new hp)
theorem Dr.draw {r0 r2 : Int} (d : Dr b s1 s2 w H H' u0 u2) (h1 : u2 ≤ r2) (h2 : r2 ≤ u2 + 1) : Dr b s1 s2 (w + 1) H (upd H' b (.lst [.int r0, .int s1, .int r2])) r0 r2 :=
  ⟨d.sb.trans .upd, upd_same, Int.le_trans d.lo h1, by have := d.hi; omega⟩
theorem Dr.then {H2 : Hp} {v w0 w2 : Int} (d : Dr b s1 s2 w H H' u0 u2) (e : Dr b s1 u2 v H' H2 w0 w2) : Dr b s1 s2 (w + v) H H2 w0 w2 :=
  ⟨d.sb.trans e.sb, e.sr, Int.le_trans d.lo e.lo, by have := d.hi; have := e.hi; omega⟩
theorem Dr.mono {v : Int} (d : Dr b s1 s2 w H H' u0 u2) (h : w ≤ v) : Dr b s1 s2 v H H' u0 u2 := ⟨d.sb, d.sr, d.lo, by have := d.hi; omega⟩
theorem Dr.mut {p : Addr} {o : HO} (d : Dr b s1 s2 w H H' u0 u2) (hp : H p = none) (n : p ≠ b) : Dr b s1 s2 w H (upd H' p o) u0 u2 := ⟨sb_mut d.sb hp, by unfold SrcAt; rw [upd_ne (Ne.symm n)]; exact d.sr, d.lo, d.hi⟩
theorem Dr.none {p : Addr} (d : Dr b s1 s2 w H H' u0 u2) (hp : H' p = none) (n : p ≠ b) : H p = none := by
  cases e : H p with
  | none => rfl
  | some u => rw [d.sb _ _ e n] at hp; cases hp
end
theorem kept {b p : Addr} {H : Hp} {o u : HO} {x y z : Int} (hs : SrcAt H b x y z) (h : H p = some o) (n : p ≠ b) : upd H b u p = some o := by rw [upd_ne n]; exact h
theorem pick2 {x y : V} {r : Int} (h0 : 0 ≤ r) (h1 : r < 2) : atI [x, y] r = some x ∨ atI [x, y] r = some y := by
  have : r = 0 ∨ r = 1 := by omega
  rcases this with rfl | rfl
  · exact .inl rfl
  · exact .inr rfl
theorem pick3 {x y z : V} {r : Int} (h0 : 0 ≤ r) (h1 : r < 3) : atI [x, y, z] r = some x ∨ atI [x, y, z] r = some y ∨ atI [x, y, z] r = some z := by
  have : r = 0 ∨ r = 1 ∨ r = 2 := by omega
  rcases this with rfl | rfl | rfl
  · exact .inl rfl
  · exact .inr (.inl rfl)
  · exact .inr (.inr rfl)
theorem kv_sb {H H' : Hp} {b : Addr} {x y z : Int} (hb : SrcAt H b x y z) (s : Sb b H H') : TK H H' := fun a xs q => by
  rcases q with q | ⟨u, q⟩
  · exact .inl (s _ _ q (fun e => by subst e; unfold SrcAt at hb; rw [hb] at q; cases q))
  · exact .inr ⟨u, s _ _ q (fun e => by subst e; unfold SrcAt at hb; rw [hb] at q; cases q)⟩
def TaskB (K : PySem.W.Frag) (H : Hp) (b : Addr) (v : V) (t : TaskD) : Prop := ∃ l, l ≠ b ∧ TaskL K H v t l
theorem TaskB.v {H : Hp} {b : Addr} {v : V} {t : TaskD} (h : TaskB K H b v t) : TaskV K H v t := by
  obtain ⟨l, _, h⟩ := h
  exact h.v
theorem TaskB.sb {H H' : Hp} {b : Addr} {v : V} {t : TaskD} {x y z : Int} (h : TaskB K H b v t) (hb : SrcAt H b x y z) (s : Sb b H H') : TaskB K H' b v t := by
  obtain ⟨l, n, h⟩ := h
  exact ⟨l, n, taskL_mut h (kv_sb hb s) fun es e => s _ _ e n⟩
theorem TaskB.dk {H : Hp} {b d : Addr} {v : V} {t : TaskD} {kvs : List (Key × V)} {o : HO} (h : TaskB K H b v t) (hd : H d = some (.dK kvs)) : TaskB K (upd H d o) b v t := by
  obtain ⟨l, n, h⟩ := h
  exact ⟨l, n, taskL_mut h (tk_dk hd) fun es e => by rw [upd_ne (fun z => by rw [z, hd] at e; cases e)]; exact e⟩
def TsB (K : PySem.W.Frag) (H : Hp) (b : Addr) (kvs : List (Key × V)) (ts : List (Str × TaskD)) : Prop := Paired (fun (kv : Key × V) (t : Str × TaskD) => kv.1 = Sum.inr t.1 ∧ TaskB K H b kv.2 t.2) kvs ts
theorem TsB.p {H : Hp} {b : Addr} {kvs : List (Key × V)} {ts : List (Str × TaskD)} (h : TsB K H b kvs ts) : TsP K H kvs ts := pImp (fun _ _ z => ⟨z.1, z.2.v⟩) h
theorem TsB.sb {H H' : Hp} {b : Addr} {x y z : Int} {kvs : List (Key × V)} {ts : List (Str × TaskD)} (h : TsB K H b kvs ts) (hb : SrcAt H b x y z) (s : Sb b H H') : TsB K H' b kvs ts := pImp (fun _ _ q => ⟨q.1, q.2.sb hb s⟩) h
theorem TsB.map {H : Hp} {b : Addr} {n : Str} {t : TaskD} {v : V} (tv : TaskB K H b v t) : ∀ {kvs : List (Key × V)} {ts : List (Str × TaskD)}, TsB K H b kvs ts → TsB K H b (kvs.map fun kv => if kv.1 = Sum.inr n then (kv.1, v) else kv) (ts.map fun q => if q.1 = n then (q.1, t) else q)
  | _, _, .nil => .nil
  | kv :: kvs, q :: ts, .cons h r => by
    refine .cons ?_ (TsB.map tv r)
    dsimp only
    by_cases e : q.1 = n
    · rw [if_pos e, if_pos (by rw [h.1, e])]
      exact ⟨h.1, tv⟩
    · rw [if_neg e, if_neg (by rw [h.1]; intro z; cases z; exact e rfl)]
      exact h
theorem TsB.put {H : Hp} {b : Addr} {n : Str} {t : TaskD} {v : V} (tv : TaskB K H b v t) {kvs : List (Key × V)} {ts : List (Str × TaskD)} (h : TsB K H b kvs ts) : TsB K H b (putK kvs (Sum.inr n) v) (putT ts n t) := by
  by_cases m : n ∈ ts.map (·.1)
  · obtain ⟨⟨n', t'⟩, hm, e⟩ := List.mem_map.mp m
    simp only at e
    subst e
    obtain ⟨x, hx⟩ := tsP_some h.p hm
    have a : (kvs.any fun kv => decide (kv.1 = Sum.inr n')) = true := by rw [valV_any, hx]; rfl
    unfold putK putT
    rw [if_pos a, if_pos m]
    exact TsB.map tv h
  · rw [putK_new v (tsP_not h.p m)]
    unfold putT
    rw [if_neg m]
    exact pApp h (.cons ⟨rfl, tv⟩ .nil)
/-- good tasks, none perhaps -/
structure OkTs (ts : List (Str × TaskD)) : Prop where
  nm : ∀ t ∈ ts, GoodN t.1
  tk : ∀ t ∈ ts, GoodT t.2
  nd : (ts.map (·.1)).Nodup
theorem putT_ok {ts : List (Str × TaskD)} {n : Str} {t : TaskD} (g : OkTs ts) (gn : GoodN n) (gt : GoodT t) : OkTs (putT ts n t) ∧ (putT ts n t).length ≤ ts.length + 1 ∧ 1 ≤ (putT ts n t).length := by
  refine ⟨⟨fun q hq => ?_, fun q hq => ?_, putT_nd g.nd⟩, ?_⟩
  · unfold putT at hq
    split at hq
    · obtain ⟨p, hp, rfl⟩ := List.mem_map.mp hq
      split <;> exact g.nm p hp
    · rcases List.mem_append.mp hq with hq | hq
      · exact g.nm q hq
      · rw [List.mem_singleton] at hq; subst hq; exact gn
  · unfold putT at hq
    split at hq
    · obtain ⟨p, hp, rfl⟩ := List.mem_map.mp hq
      split
      · exact gt
      · exact g.tk p hp
    · rcases List.mem_append.mp hq with hq | hq
      · exact g.tk q hq
      · rw [List.mem_singleton] at hq; subst hq; exact gt
  · unfold putT
    split
    · rename_i m
      rw [List.length_map]
      cases ts with
      | nil => simp at m
      | cons => simp only [List.length_cons]; omega
    · rw [List.length_append, List.length_singleton]
      omega
end
end L10
set_option maxRecDepth 100000
set_option maxHeartbeats 4000000
namespace L10
open PySem PySem.Spec PyProof.Rows L2 Q7
section
variable {P : Program} {w : World} {K : PySem.W.Frag} {mg : Str → Option Value} {base : Heap}
/-! ### tasks of the law -/
def third : Rat := ⟨1, 3, by decide, by decide⟩
def third2 : Rat := ⟨2, 3, by decide, by decide⟩
def ends1 (late : Int) : List EndD := [(late, true, 1)]
def ends2 (late : Int) : List EndD := [(1, false, third), (late, true, third2)]
theorem goodT1 {c late : Int} {u : Option Int} (c0 : 0 ≤ c) (c1 : c ≤ 100) (hu : u = none ∨ u = some 5) (l0 : 2 ≤ late) (l1 : late ≤ 30) {es : List EndD} (he : es = ends1 late ∨ es = ends2 late) : GoodT ⟨c, u, es⟩ where
  c0 := c0
  c1 := by show c ≤ _; omega
  u := fun i e => by
    have e' : u = some i := e
    rcases hu with h | h
    · rw [h] at e'
      cases e'
    · rw [h] at e'
      cases e'
      decide
  e := fun e hm => by
    have hm' : e ∈ es := hm
    rcases he with rfl | rfl
    · rw [List.mem_singleton.mp hm']
      exact ⟨by show 1 ≤ late; omega, l1, by show (0 : Int) < (1 : Rat).num; decide, by show (1 : Rat).num ≤ 1000; decide, by show (1 : Rat).den ≤ 1000; decide⟩
    · unfold ends2 at hm'
      simp only [List.mem_cons, List.not_mem_nil, or_false] at hm'
      rcases hm' with rfl | rfl
      · exact ⟨by show (1 : Int) ≤ 1; omega, by show (1 : Int) ≤ 30; omega, by show (0 : Int) < third.num; decide, by show third.num ≤ 1000; decide, by show third.den ≤ 1000; decide⟩
      · exact ⟨by show 1 ≤ late; omega, l1, by show (0 : Int) < third2.num; decide, by show third2.num ≤ 1000; decide, by show third2.den ≤ 1000; decide⟩
  l0 := by rcases he with rfl | rfl <;> exact List.cons_ne_nil _ _
  l1 := by
    rcases he with rfl | rfl
    · exact (by decide : 1 ≤ 8)
    · exact (by decide : 2 ≤ 8)
  asc := by
    rcases he with rfl | rfl
    · show ([_] : List Int).Pairwise _
      simp
    · show ([2 * 1 + 1, 2 * late + 0] : List Int).Pairwise (· < ·)
      simp
      omega
  one := by
    rcases he with rfl | rfl
    · show ([1] : List Rat).sum = 1
      decide +kernel
    · show ([third, third2] : List Rat).sum = 1
      decide +kernel
/-- ends in a list of their own, apart from the source's -/
def EndsL (K : PySem.W.Frag) (H : Hp) (b : Addr) (l : Addr) (es : List EndD) : Prop := l ≠ b ∧ ∃ xs, H l = some (.lst xs) ∧ Paired (EndV K H) xs es
theorem EndsL.same {H H' : Hp} {b l : Addr} {es : List EndD} (h : EndsL K H b l es) (s : Same H H') : EndsL K H' b l es := by
  obtain ⟨n, xs, L, P⟩ := h
  exact ⟨n, xs, s _ _ L, endsV_same P s⟩
theorem EndsL.sb {H H' : Hp} {b l : Addr} {es : List EndD} {x y z : Int} (h : EndsL K H b l es) (hb : SrcAt H b x y z) (s : Sb b H H') : EndsL K H' b l es := by
  obtain ⟨n, xs, L, P⟩ := h
  exact ⟨n, xs, s _ _ L n, pImp (fun _ _ q => endV_tk q (kv_sb hb s)) P⟩
def lawNames : List Str := ["a", "b", "cc", "task", "done", "zzzzzzzz", "keeps", "backup"]
theorem lawNames_good : ∀ x ∈ lawNames, GoodN x := by
  intro x hx
  have h : lawNames.all (fun x => decide (1 ≤ x.length) && decide (x.length ≤ 8) && x.cps.toList.all (fun c => decide (97 ≤ c) && decide (c ≤ 122)) && !(planWords.contains x)) = true := by decide +kernel
  have h1 := List.all_eq_true.mp h x hx
  simp only [Bool.and_eq_true, decide_eq_true_eq, List.all_eq_true, Bool.not_eq_true'] at h1
  obtain ⟨⟨⟨a, b⟩, c⟩, d⟩ := h1
  refine ⟨a, b, fun k hk => c k hk, fun hm => ?_⟩
  rw [List.contains_iff_mem.mpr hm] at d
  cases d
theorem pick_in {xs : List V} {r : Int} (h0 : 0 ≤ r) (h1 : r < (xs.length : Int)) : ∃ x, atI xs r = some x ∧ x ∈ xs := by
  have hr : r.toNat < xs.length := by omega
  exact ⟨xs[r.toNat], (at_nat h0 h1).trans (List.getElem?_eq_getElem hr), List.getElem_mem hr⟩
def spLTasks (K : PySem.W.Frag) : Sp := fun vs H Q _ => ∃ b s0 s1 s2, vs = [.ref b] ∧ SrcAt H b s0 s1 s2 ∧ 0 ≤ s2 ∧ s2 < 2 ^ 35 ∧ s1.natAbs < 2 ^ 150 ∧
  ∀ d kvs ts u0 u2 H', Dr b s1 s2 30 H H' u0 u2 → H d = none → H' d = some (.dK kvs) → TsB K H' b kvs ts → GoodTs ts → Q (.ref d) H'
theorem ok__law_tasks (T : Txt w K mg) : FnOk P w K mg base CX0 3 (He.ga K "_law_tasks") T.fd__law_tasks ["source"] (spLTasks K) := by
  refine T.F__law_tasks.ok sc__law_tasks (fun vs H Q E h => ?_) (fun cdv A outer s H vs Q E hr h => ⟨_, PSs.nox
    (pss_cons (ps_set (i := 1) sc__law_tasks.nd rfl (.inl rfl) pe_dnewK)
      (pss_cons (ps_for PassesOwn.never rfl (pi_range1 (by rfl) T.m_range (pa_cons (pe_op op_add pe_int (pe_call (ok__law_draw T) (hr.mono (by decide)) (by rfl) T.g__law_draw T.F__law_draw.kp T.b__law_draw .nil pass0 (pa_cons (pv 0) (pa_cons pe_int pa_nil)))) pa_nil)) (pg_name (i := 2) sc__law_tasks.nd rfl (.inl rfl)) (pss_cons (ps_set (i := 3) sc__law_tasks.nd rfl (.inl rfl) (pe_ix ix_list (pe_lst (pa_cons pe_str (pa_cons pe_str (pa_cons pe_str (pa_cons pe_str (pa_cons pe_str (pa_cons pe_str (pa_cons pe_str (pa_cons pe_str pa_nil))))))))) (pe_call (ok__law_draw T) (hr.mono (by decide)) (by rfl) T.g__law_draw T.F__law_draw.kp T.b__law_draw .nil pass0 (pa_cons (pv 0) (pa_cons pe_int pa_nil))) (fun _ _ => rfl)))
      (pss_cons (ps_set (i := 4) sc__law_tasks.nd rfl (.inl rfl) (pe_op op_add pe_int (pe_call (ok__law_draw T) (hr.mono (by decide)) (by rfl) T.g__law_draw T.F__law_draw.kp T.b__law_draw .nil pass0 (pa_cons (pv 0) (pa_cons pe_int pa_nil)))))
      (pss_cons (ps_set (i := 5) sc__law_tasks.nd rfl (.inl rfl) (pe_lst (pa_cons (pe_lst (pa_cons (pe_tup (pa_cons (pv 4) (pa_cons pe_str (pa_cons (pe_tup (pa_cons pe_int (pa_cons pe_int pa_nil))) pa_nil)))) pa_nil)) (pa_cons (pe_lst (pa_cons (pe_tup (pa_cons pe_int (pa_cons pe_str (pa_cons (pe_tup (pa_cons pe_int (pa_cons pe_int pa_nil))) pa_nil)))) (pa_cons (pe_tup (pa_cons (pv 4) (pa_cons pe_str (pa_cons (pe_tup (pa_cons pe_int (pa_cons pe_int pa_nil))) pa_nil)))) pa_nil))) pa_nil))))
      (pss_one (ps_dput (hu_of hr) (pv 1) (pv 3) (pe_tup (pa_cons (pe_call (ok__law_draw T) (hr.mono (by decide)) (by rfl) T.g__law_draw T.F__law_draw.kp T.b__law_draw .nil pass0 (pa_cons (pv 0) (pa_cons pe_int pa_nil))) (pa_cons (pe_ix ix_list (pe_lst (pa_cons pe_non (pa_cons pe_int pa_nil))) (pe_call (ok__law_draw T) (hr.mono (by decide)) (by rfl) T.g__law_draw T.F__law_draw.kp T.b__law_draw .nil pass0 (pa_cons (pv 0) (pa_cons pe_int pa_nil))) (fun _ _ => rfl)) (pa_cons (pe_ix ix_list (pv 5) (pe_call (ok__law_draw T) (hr.mono (by decide)) (by rfl) T.g__law_draw T.F__law_draw.kp T.b__law_draw .nil pass0 (pa_cons (pv 0) (pa_cons pe_int pa_nil))) (fun _ _ => rfl)) pa_nil)))) rfl))))))
      (pss_one (ps_ret (pv 1))))), ?_⟩)
  · obtain ⟨b, s0, s1, s2, rfl, _⟩ := h
    rfl
  · obtain ⟨b, s0, s1, s2, rfl, hs, d0, d1, e1, hQ⟩ := h
    have l64 := line64
    refine fun D hD => ?_
    have D0 := (Dr.start hs).new (o := .dK []) hD
    have nD := n_ne hs hD
    have LD := upd_same (H := H) (a := D) (o := .dK [])
    generalize upd H D (.dK []) = H1 at *
    refine ⟨_, rfl, b, s0, s1, s2, 4, rfl, D0.sr, d0, by omega, e1, by decide, by decide, fun r t0 t2 i0 i1 j0 j1 => ⟨_, _, rfl, rfl, _, rfl, by omega, by omega, ?_⟩⟩
    have D1 := D0.draw (r0 := t0) j0 j1
    replace LD := kept (u := .lst [.int t0, .int s1, .int t2]) D0.sr LD nD
    generalize upd H1 b (.lst [.int t0, .int s1, .int t2]) = H2 at *
    refine for_range (lo := 0) (n := (1 + r).toNat) (fun i σ H' => ∃ (x0 x2 : Int) (kvs : List (Key × V)) (ts : List (Str × TaskD)) (o2 o3 o4 o5 : Option V), σ = [some (.ref b), some (.ref D), o2, o3, o4, o5] ∧ Dr b s1 s2 (1 + 6 * (i : Int)) H H' x0 x2 ∧ H' D = some (.dK kvs) ∧ TsB K H' b kvs ts ∧ OkTs ts ∧ ts.length ≤ i ∧ (0 < i → 1 ≤ ts.length))
      ⟨t0, t2, [], [], _, _, _, _, rfl, D1.mono (by omega), LD, .nil, ⟨by simp, by simp, by simp⟩, Nat.zero_le _, fun h => absurd h (Nat.lt_irrefl _)⟩ ?_ ?_
    · rintro i σ H' hi ⟨x0, x2, kvs, ts, o2, o3, o4, o5, rfl, d, hk, B, ok, l0, l1⟩
      have q1 := d.lo; have q2 := d.hi
      have hi2 : (i : Int) < 1 + r := by omega
      refine ⟨by decide, fun p hp => ?_⟩
      rw [show ([V.str "a", V.str "b", V.str "cc", V.str "task", V.str "done", V.str "zzzzzzzz", V.str "keeps", V.str "backup"] : List V) = lawNames.map V.str from rfl]
      have D2 := d.new (o := .lst (lawNames.map V.str)) hp
      have np := n_ne d.sr hp
      have Lp := upd_same (H := H') (a := p) (o := .lst (lawNames.map V.str))
      have kp := same_new (o := .lst (lawNames.map V.str)) hp
      replace hk := kp _ _ hk
      replace B := B.sb d.sr (Sb.of kp)
      generalize upd H' p (.lst (lawNames.map V.str)) = H3 at *
      clear kp hp
      refine ⟨_, rfl, b, x0, s1, x2, 8, rfl, D2.sr, by omega, by omega, e1, by decide, by decide, fun r2 y0 y2 i2 i3 j2 j3 => ?_⟩
      obtain ⟨x, hx, hm⟩ := pick_in (xs := lawNames.map V.str) i2 i3
      obtain ⟨n, hn, rfl⟩ := List.mem_map.mp hm
      have gn := lawNames_good n hn
      refine ⟨p, _, _, _, rfl, rfl, sqL_of (kept D2.sr Lp np), hx, ?_⟩
      have D3 := D2.draw (r0 := y0) j2 j3
      replace hk := kept (u := .lst [.int y0, .int s1, .int y2]) D2.sr hk nD
      replace B := B.sb D2.sr (Sb.upd (o := .lst [.int y0, .int s1, .int y2]))
      generalize upd H3 b (.lst [.int y0, .int s1, .int y2]) = H4 at *
      have q3 := D3.lo; have q4 := D3.hi
      clear D2 Lp np
      refine ⟨_, rfl, b, y0, s1, y2, 29, rfl, D3.sr, by omega, by omega, e1, by decide, by decide, fun r3 z0 z2 i4 i5 j4 j5 => ⟨_, _, rfl, rfl, ?_⟩⟩
      have D4 := D3.draw (r0 := z0) j4 j5
      replace hk := kept (u := .lst [.int z0, .int s1, .int z2]) D3.sr hk nD
      replace B := B.sb D3.sr (Sb.upd (o := .lst [.int z0, .int s1, .int z2]))
      generalize upd H4 b (.lst [.int z0, .int s1, .int z2]) = H5 at *
      have q5 := D4.lo; have q6 := D4.hi
      dsimp only
      generalize hlate : (2 : Int) + r3 = late at *
      have lt0 : 2 ≤ late := by omega
      have lt1 : late ≤ 30 := by omega
      refine ⟨_, rfl, two_le, fun f1 hf1 => ⟨three_le, fun a1 ha1 => ⟨one_le, fun l1 hl1 => ?_⟩⟩⟩
      have k6 := same_new (o := .tup [.int 1, .int 1]) hf1
      have A6 := upd_same (H := H5) (a := f1) (o := .tup [.int 1, .int 1])
      generalize upd H5 f1 (.tup [.int 1, .int 1]) = H6 at *
      have k7 := same_new (o := .tup [.int late, .str "done", .ref f1]) ha1
      have A7 := upd_same (H := H6) (a := a1) (o := .tup [.int late, .str "done", .ref f1])
      generalize upd H6 a1 (.tup [.int late, .str "done", .ref f1]) = H7 at *
      have nb1 : l1 ≠ b := n_ne ((k6.trans k7) _ _ D4.sr) hl1
      have k8 := same_new (o := .lst [.ref a1]) hl1
      have A8 := upd_same (H := H7) (a := l1) (o := .lst [.ref a1])
      generalize upd H7 l1 (.lst [.ref a1]) = H8 at *
      refine ⟨two_le, fun f2 hf2 => ⟨three_le, fun a2 ha2 => ⟨_, rfl, two_le, fun f3 hf3 => ⟨three_le, fun a3 ha3 => ⟨two_le, fun l2 hl2 => ⟨two_le, fun so hso => ?_⟩⟩⟩⟩⟩⟩
      have k9 := same_new (o := .tup [.int 1, .int 3]) hf2
      have A9 := upd_same (H := H8) (a := f2) (o := .tup [.int 1, .int 3])
      generalize upd H8 f2 (.tup [.int 1, .int 3]) = H9 at *
      have k10 := same_new (o := .tup [.int 1, .str "failed", .ref f2]) ha2
      have A10 := upd_same (H := H9) (a := a2) (o := .tup [.int 1, .str "failed", .ref f2])
      generalize upd H9 a2 (.tup [.int 1, .str "failed", .ref f2]) = H10 at *
      have k11 := same_new (o := .tup [.int 2, .int 3]) hf3
      have A11 := upd_same (H := H10) (a := f3) (o := .tup [.int 2, .int 3])
      generalize upd H10 f3 (.tup [.int 2, .int 3]) = H11 at *
      have k12 := same_new (o := .tup [.int late, .str "done", .ref f3]) ha3
      have A12 := upd_same (H := H11) (a := a3) (o := .tup [.int late, .str "done", .ref f3])
      generalize upd H11 a3 (.tup [.int late, .str "done", .ref f3]) = H12 at *
      have nb2 : l2 ≠ b := n_ne (((((((k6.trans k7).trans k8).trans k9).trans k10).trans k11).trans k12) _ _ D4.sr) hl2
      have k13 := same_new (o := .lst [.ref a2, .ref a3]) hl2
      have A13 := upd_same (H := H12) (a := l2) (o := .lst [.ref a2, .ref a3])
      generalize upd H12 l2 (.lst [.ref a2, .ref a3]) = H13 at *
      have nbs : so ≠ b := n_ne ((((((((k6.trans k7).trans k8).trans k9).trans k10).trans k11).trans k12).trans k13) _ _ D4.sr) hso
      have k14 := same_new (o := .lst [.ref l1, .ref l2]) hso
      have A14 := upd_same (H := H13) (a := so) (o := .lst [.ref l1, .ref l2])
      generalize upd H13 so (.lst [.ref l1, .ref l2]) = H14 at *
      have s14 := Same.refl H14
      have s13 := k14.trans s14
      have s12 := k13.trans s13
      have s11 := k12.trans s12
      have s10 := k11.trans s11
      have s9 := k10.trans s10
      have s8 := k9.trans s9
      have s7 := k8.trans s8
      have s6 := k7.trans s7
      have s5 := k6.trans s6
      have D5 := D4.same s5
      replace hk := s5 _ _ hk
      replace B := B.sb D4.sr (Sb.of s5)
      have E1 : EndsL K H14 b l1 (ends1 late) := ⟨nb1, _, s8 _ _ A8, .cons ⟨a1, _, rfl, sqT_of (s7 _ _ A7), f1, rfl, sqT_of (s6 _ _ A6)⟩ .nil⟩
      have E2 : EndsL K H14 b l2 (ends2 late) := ⟨nb2, _, s13 _ _ A13, .cons ⟨a2, _, rfl, sqT_of (s10 _ _ A10), f2, rfl, sqT_of (s9 _ _ A9)⟩ (.cons ⟨a3, _, rfl, sqT_of (s12 _ _ A12), f3, rfl, sqT_of (s11 _ _ A11)⟩ .nil)⟩
      have Lso := A14
      clear A6 A7 A8 A9 A10 A11 A12 A13 A14 k6 k7 k8 k9 k10 k11 k12 k13 k14 s6 s7 s8 s9 s10 s11 s12 s13 s14 s5
      refine ⟨_, rfl, b, z0, s1, z2, 9, rfl, D5.sr, by omega, by omega, e1, by decide, by decide, fun c v0 v2 i6 i7 j6 j7 => ?_⟩
      have D6 := D5.draw (r0 := v0) j6 j7
      replace hk := kept (u := .lst [.int v0, .int s1, .int v2]) D5.sr hk nD
      replace Lso := kept (u := .lst [.int v0, .int s1, .int v2]) D5.sr Lso nbs
      replace B := B.sb D5.sr (Sb.upd (o := .lst [.int v0, .int s1, .int v2]))
      replace E1 := E1.sb D5.sr (Sb.upd (o := .lst [.int v0, .int s1, .int v2]))
      replace E2 := E2.sb D5.sr (Sb.upd (o := .lst [.int v0, .int s1, .int v2]))
      generalize upd H14 b (.lst [.int v0, .int s1, .int v2]) = H15 at *
      have q7 := D6.lo; have q8 := D6.hi
      refine ⟨two_le, fun u hu => ?_⟩
      have D7 := D6.new (o := .lst [.non, .int 5]) hu
      have nu := n_ne D6.sr hu
      have Lu := upd_same (H := H15) (a := u) (o := .lst [.non, .int 5])
      have ku := same_new (o := .lst [.non, .int 5]) hu
      replace hk := ku _ _ hk
      replace Lso := ku _ _ Lso
      replace B := B.sb D6.sr (Sb.of ku)
      replace E1 := E1.same ku
      replace E2 := E2.same ku
      generalize upd H15 u (.lst [.non, .int 5]) = H16 at *
      refine ⟨_, rfl, b, v0, s1, v2, 2, rfl, D7.sr, by omega, by omega, e1, by decide, by decide, fun r4 w0 w2 i8 i9 j8 j9 => ?_⟩
      obtain ⟨un, hun, hundo⟩ : ∃ un : Option Int, atI [V.non, V.int 5] r4 = some (undoV un) ∧ (un = none ∨ un = some 5) := by
        rcases pick2 (x := V.non) (y := V.int 5) i8 i9 with h | h
        · exact ⟨none, h, .inl rfl⟩
        · exact ⟨some 5, h, .inr rfl⟩
      refine ⟨u, _, _, _, rfl, rfl, sqL_of (kept D7.sr Lu nu), hun, ?_⟩
      have D8 := D7.draw (r0 := w0) j8 j9
      replace hk := kept (u := .lst [.int w0, .int s1, .int w2]) D7.sr hk nD
      replace Lso := kept (u := .lst [.int w0, .int s1, .int w2]) D7.sr Lso nbs
      replace B := B.sb D7.sr (Sb.upd (o := .lst [.int w0, .int s1, .int w2]))
      replace E1 := E1.sb D7.sr (Sb.upd (o := .lst [.int w0, .int s1, .int w2]))
      replace E2 := E2.sb D7.sr (Sb.upd (o := .lst [.int w0, .int s1, .int w2]))
      generalize upd H16 b (.lst [.int w0, .int s1, .int w2]) = H17 at *
      have q9 := D8.lo; have q10 := D8.hi
      refine ⟨_, rfl, _, rfl, b, w0, s1, w2, 2, rfl, D8.sr, by omega, by omega, e1, by decide, by decide, fun r5 g0 g2 i10 i11 j10 j11 => ?_⟩
      have D9 := D8.draw (r0 := g0) j10 j11
      replace hk := kept (u := .lst [.int g0, .int s1, .int g2]) D8.sr hk nD
      replace Lso := kept (u := .lst [.int g0, .int s1, .int g2]) D8.sr Lso nbs
      replace B := B.sb D8.sr (Sb.upd (o := .lst [.int g0, .int s1, .int g2]))
      replace E1 := E1.sb D8.sr (Sb.upd (o := .lst [.int g0, .int s1, .int g2]))
      replace E2 := E2.sb D8.sr (Sb.upd (o := .lst [.int g0, .int s1, .int g2]))
      generalize upd H17 b (.lst [.int g0, .int s1, .int g2]) = H18 at *
      have q11 := D9.lo; have q12 := D9.hi
      obtain ⟨lx, es, hlx, hes, EE⟩ : ∃ lx es, atI [V.ref l1, V.ref l2] r5 = some (.ref lx) ∧ (es = ends1 late ∨ es = ends2 late) ∧ EndsL K H18 b lx es := by
        rcases pick2 (x := V.ref l1) (y := V.ref l2) i10 i11 with h | h
        · exact ⟨l1, _, h, .inl rfl, E1⟩
        · exact ⟨l2, _, h, .inr rfl, E2⟩
      refine ⟨so, _, _, _, rfl, rfl, sqL_of Lso, hlx, three_le, fun tt htt => ?_⟩
      have gt : GoodT ⟨c, un, es⟩ := goodT1 i6 (by omega) hundo lt0 lt1 hes
      have D10 := D9.new (o := .tup [.int c, undoV un, .ref lx]) htt
      have kt := same_new (o := .tup [.int c, undoV un, .ref lx]) htt
      have At := upd_same (H := H18) (a := tt) (o := .tup [.int c, undoV un, .ref lx])
      replace hk := kt _ _ hk
      replace B := B.sb D9.sr (Sb.of kt)
      replace EE := EE.same kt
      generalize upd H18 tt (.tup [.int c, undoV un, .ref lx]) = H19 at *
      have tv : TaskB K H19 b (.ref tt) ⟨c, un, es⟩ := by
        obtain ⟨nlx, xs, Lx, Px⟩ := EE
        exact ⟨lx, nlx, tt, xs, rfl, sqT_of At, Lx, Px⟩
      have kl : kvs.length = ts.length := pLen B
      obtain ⟨ok2, l2, l3⟩ := putT_ok (t := ⟨c, un, es⟩) ok gn gt
      refine ⟨_, rfl, _, rfl, D, _, rfl, .inl ⟨kvs, Sum.inr n, hk, rfl, by omega, rfl⟩, g0, g2, _, putT ts n ⟨c, un, es⟩, _, _, _, _, rfl, (D10.mut hD nD).mono (by push_cast; omega), upd_same, ?_, ok2, by omega, fun _ => l3⟩
      exact pImp (fun _ _ q => ⟨q.1, q.2.dk hk⟩) (TsB.put tv B)
    · rintro σ H' ⟨x0, x2, kvs, ts, o2, o3, o4, o5, rfl, d, hk, B, ok, l0, l1⟩
      exact ⟨_, rfl, hQ D kvs ts x0 x2 H' (d.mono (by omega)) hD hk B ⟨l1 (by omega), by omega, ok.nm, ok.tk, ok.nd⟩⟩
end
end L10
set_option maxRecDepth 100000
set_option maxHeartbeats 4000000
namespace L10
open PySem PySem.Spec PyProof.Rows L2 Q7
section
variable {P : Program} {w : World} {K : PySem.W.Frag} {mg : Str → Option Value} {base : Heap}
/-! ### plans of the law -/
theorem UW.ok_again {n d : Int} (h0 : 1 ≤ n) (h1 : n ≤ 20) (h2 : 0 ≤ d) (h3 : d ≤ 100) : (UW.again n d).ok := fun q hq => by
  simp only [UW.nums, UW.bounds, List.zip_cons_cons, List.zip_nil_right, List.mem_cons, List.not_mem_nil, or_false] at hq
  rcases hq with rfl | rfl
  · exact ⟨h0, h1⟩
  · exact ⟨h2, h3⟩
theorem UW.ok_within {n : Int} (h0 : 0 ≤ n) (h1 : n ≤ 200) : (UW.within n).ok := fun q hq => by
  simp only [UW.nums, UW.bounds, List.zip_cons_cons, List.zip_nil_right, List.mem_cons, List.not_mem_nil, or_false] at hq
  subst hq
  exact ⟨h0, h1⟩
theorem UW.ok_later {n : Int} (h0 : 0 ≤ n) (h1 : n ≤ 100) : (UW.later n).ok := fun q hq => by
  simp only [UW.nums, UW.bounds, List.zip_cons_cons, List.zip_nil_right, List.mem_cons, List.not_mem_nil, or_false] at hq
  subst hq
  exact ⟨h0, h1⟩
theorem UW.ok_back {n : Int} (h0 : 0 ≤ n) (h1 : n ≤ 1000000000000) : (UW.back n).ok := fun q hq => by
  simp only [UW.nums, UW.bounds, List.zip_cons_cons, List.zip_nil_right, List.mem_cons, List.not_mem_nil, or_false] at hq
  subst hq
  exact ⟨h0, h1⟩
theorem UW.ok_keep : UW.keep.ok := fun q hq => by simp [UW.nums, UW.bounds] at hq
theorem UW.ok_easy : UW.easy.ok := fun q hq => by simp [UW.nums, UW.bounds] at hq
theorem pick_all {P : V → Prop} {xs : List V} {r : Int} (h : ∀ x ∈ xs, P x) (h0 : 0 ≤ r) (h1 : r < (xs.length : Int)) : ∃ x, atI xs r = some x ∧ P x := by
  obtain ⟨x, hx, hm⟩ := pick_in h0 h1
  exact ⟨x, hx, h x hm⟩
/-- a word with its numbers, no part -/
def UV (K : PySem.W.Frag) (H : Hp) (v : V) (u : UW) : Prop := ∃ a, v = .ref a ∧ SqT K H a (.str u.word :: u.nums.map V.int)
def spUnary (K : PySem.W.Frag) : Sp := fun vs H Q _ => ∃ b s0 s1 s2 tries, vs = [.ref b, .int tries] ∧ SrcAt H b s0 s1 s2 ∧ 0 ≤ s2 ∧ s2 < 2 ^ 38 ∧ s1.natAbs < 2 ^ 150 ∧ 1 ≤ tries ∧ tries ≤ 20 ∧
  ∀ v u u0 u2 H', Dr b s1 s2 20 H H' u0 u2 → UV K H' v u → u.ok → Q v H'
theorem ok__law_unary (T : Txt w K mg) : FnOk P w K mg base CX0 2 (He.ga K "_law_unary") T.fd__law_unary ["source", "tries"] (spUnary K) := by
  refine T.F__law_unary.ok sc__law_unary (fun vs H Q E h => ?_) (fun cdv A outer s H vs Q E hr h => ⟨_, PSs.nox
    (pss_cons (ps_set (i := 2) sc__law_unary.nd rfl (.inl rfl) (pe_lst (pa_cons (pe_tup (pa_cons pe_str (pa_cons (pe_op op_add pe_int (pe_call (ok__law_draw T) (hr.mono (by decide)) (by rfl) T.g__law_draw T.F__law_draw.kp T.b__law_draw .nil pass0 (pa_cons (pv 0) (pa_cons (pv 1) pa_nil)))) (pa_cons (pe_ix ix_list (pe_lst (pa_cons pe_int (pa_cons (pe_call (ok__law_draw T) (hr.mono (by decide)) (by rfl) T.g__law_draw T.F__law_draw.kp T.b__law_draw .nil pass0 (pa_cons (pv 0) (pa_cons pe_int pa_nil))) pa_nil))) (pe_call (ok__law_draw T) (hr.mono (by decide)) (by rfl) T.g__law_draw T.F__law_draw.kp T.b__law_draw .nil pass0 (pa_cons (pv 0) (pa_cons pe_int pa_nil))) (fun _ _ => rfl)) pa_nil)))) pa_nil)))
      (pss_cons (ps_set (i := 2) sc__law_unary.nd rfl (.inl rfl) (pe_op op_cat (pv 2) (pe_lst (pa_cons (pe_tup (pa_cons pe_str (pa_cons (pe_ix ix_list (pe_lst (pa_cons (pe_call (ok__law_draw T) (hr.mono (by decide)) (by rfl) T.g__law_draw T.F__law_draw.kp T.b__law_draw .nil pass0 (pa_cons (pv 0) (pa_cons pe_int pa_nil))) (pa_cons pe_int (pa_cons pe_int pa_nil)))) (pe_call (ok__law_draw T) (hr.mono (by decide)) (by rfl) T.g__law_draw T.F__law_draw.kp T.b__law_draw .nil pass0 (pa_cons (pv 0) (pa_cons pe_int pa_nil))) (fun _ _ => rfl)) pa_nil))) pa_nil))))
      (pss_cons (ps_set (i := 2) sc__law_unary.nd rfl (.inl rfl) (pe_op op_cat (pv 2) (pe_lst (pa_cons (pe_tup (pa_cons pe_str (pa_cons (pe_ix ix_list (pe_lst (pa_cons (pe_call (ok__law_draw T) (hr.mono (by decide)) (by rfl) T.g__law_draw T.F__law_draw.kp T.b__law_draw .nil pass0 (pa_cons (pv 0) (pa_cons pe_int pa_nil))) (pa_cons pe_int (pa_cons pe_int pa_nil)))) (pe_call (ok__law_draw T) (hr.mono (by decide)) (by rfl) T.g__law_draw T.F__law_draw.kp T.b__law_draw .nil pass0 (pa_cons (pv 0) (pa_cons pe_int pa_nil))) (fun _ _ => rfl)) pa_nil))) (pa_cons (pe_tup (pa_cons pe_str pa_nil)) (pa_cons (pe_tup (pa_cons pe_str pa_nil)) pa_nil))))))
      (pss_cons (ps_expr (pe_bm PySem.F.plainAttrs_list PySem.F.slot_list_append PySem.F.type_list_append mt_append (pv 2) (pa_cons (pe_tup (pa_cons pe_str (pa_cons (pe_ix ix_list (pe_lst (pa_cons (pe_call (ok__law_draw T) (hr.mono (by decide)) (by rfl) T.g__law_draw T.F__law_draw.kp T.b__law_draw .nil pass0 (pa_cons (pv 0) (pa_cons (pe_op op_add (pe_op op_pow pe_int pe_int) pe_int) pa_nil))) (pa_cons pe_int (pa_cons (pe_op op_pow pe_int pe_int) pa_nil)))) (pe_call (ok__law_draw T) (hr.mono (by decide)) (by rfl) T.g__law_draw T.F__law_draw.kp T.b__law_draw .nil pass0 (pa_cons (pv 0) (pa_cons pe_int pa_nil))) (fun _ _ => rfl)) pa_nil))) pa_nil)))
      (pss_one (ps_ret (pe_ix ix_list (pv 2) (pe_call (ok__law_draw T) (hr.mono (by decide)) (by rfl) T.g__law_draw T.F__law_draw.kp T.b__law_draw .nil pass0 (pa_cons (pv 0) (pa_cons pe_int pa_nil))) (fun _ _ => rfl)))))))), ?_⟩)
  · obtain ⟨b, s0, s1, s2, tries, rfl, _⟩ := h
    rfl
  · obtain ⟨b, s0, s1, s2, tries, rfl, hs, d0, d1, e1, k0, k1, hQ⟩ := h
    have l64 := line64
    have D0 := Dr.start hs
    have q0 := D0.lo
    refine ⟨_, rfl, _, rfl, b, s0, s1, s2, tries, rfl, D0.sr, by omega, by omega, e1, by omega, Nat.lt_of_lt_of_le (show tries.natAbs < 2 ^ 5 by omega) (pow_le' (by decide)), fun r1 x2 x3 h4 h5 h6 h7 => ?_⟩
    refine ⟨_, _, rfl, rfl, ?_⟩
    dsimp only
    have D9 := D0.draw (r0 := x2) h6 h7
    generalize upd H b (.lst [.int x2, .int s1, .int x3]) = G8 at *
    have q10 := D9.lo; have q11 := D9.hi
    clear D0
    refine ⟨_, rfl, b, x2, s1, x3, 101, rfl, D9.sr, by omega, by omega, e1, by decide, by decide, fun r12 x13 x14 h15 h16 h17 h18 => ?_⟩
    refine ⟨two_le, fun p1 hp1 => ?_⟩
    have D20 := D9.draw (r0 := x13) h17 h18
    generalize upd G8 b (.lst [.int x13, .int s1, .int x14]) = G19 at *
    have q21 := D20.lo; have q22 := D20.hi
    clear D9
    have ne_L1 := n_ne D20.sr hp1
    have k24 := same_new (o := .lst [.int 0, .int r12]) hp1
    have L1 := upd_same (H := G19) (a := p1) (o := .lst [.int 0, .int r12])
    have D25 := D20.same k24
    generalize upd G19 p1 (.lst [.int 0, .int r12]) = G23 at *
    clear D20
    refine ⟨_, rfl, b, x13, s1, x14, 2, rfl, D25.sr, by omega, by omega, e1, by decide, by decide, fun r26 x27 x28 h29 h30 h31 h32 => ?_⟩
    obtain ⟨w1, hw1, wa, wb⟩ : ∃ w, atI [V.int 0, V.int r12] r26 = some (.int w) ∧ 0 ≤ w ∧ w ≤ 100 := by
      rcases pick2 (x := V.int 0) (y := V.int r12) h29 h30 with h | h
      · exact ⟨0, h, by decide, by decide⟩
      · exact ⟨r12, h, h15, by omega⟩
    replace L1 := kept (u := .lst [.int x27, .int s1, .int x28]) D25.sr L1 ne_L1
    have D34 := D25.draw (r0 := x27) h31 h32
    generalize upd G23 b (.lst [.int x27, .int s1, .int x28]) = G33 at *
    have q35 := D34.lo; have q36 := D34.hi
    clear D25
    refine ⟨p1, _, _, _, rfl, rfl, sqL_of L1, hw1, three_le, fun t1 ht1 => ⟨one_le, fun m1 hm1 => ?_⟩⟩
    clear L1
    have k38 := same_new (o := .tup [.str "again", .int (1 + r1), .int w1]) ht1
    have T1 := sqT_of (K := K) (upd_same (H := G33) (a := t1) (o := .tup [.str "again", .int (1 + r1), .int w1]))
    have D39 := D34.same k38
    generalize upd G33 t1 (.tup [.str "again", .int (1 + r1), .int w1]) = G37 at *
    clear D34
    have ne_M1 := n_ne D39.sr hm1
    have k41 := same_new (o := .lst [.ref t1]) hm1
    have M1 := upd_same (H := G37) (a := m1) (o := .lst [.ref t1])
    replace T1 := Q7.sqT_same k41 T1
    have D42 := D39.same k41
    generalize upd G37 m1 (.lst [.ref t1]) = G40 at *
    clear D39
    refine ⟨_, rfl, _, rfl, b, x27, s1, x28, 201, rfl, D42.sr, by omega, by omega, e1, by decide, by decide, fun r43 x44 x45 h46 h47 h48 h49 => ?_⟩
    refine ⟨three_le, fun p2 hp2 => ?_⟩
    replace T1 := sqT_tk T1 (kv_sb D42.sr (Sb.upd (o := .lst [.int x44, .int s1, .int x45])))
    replace M1 := kept (u := .lst [.int x44, .int s1, .int x45]) D42.sr M1 ne_M1
    have D51 := D42.draw (r0 := x44) h48 h49
    generalize upd G40 b (.lst [.int x44, .int s1, .int x45]) = G50 at *
    have q52 := D51.lo; have q53 := D51.hi
    clear D42
    have ne_L2 := n_ne D51.sr hp2
    have k55 := same_new (o := .lst [.int r43, .int 0, .int 200]) hp2
    have L2 := upd_same (H := G50) (a := p2) (o := .lst [.int r43, .int 0, .int 200])
    replace T1 := Q7.sqT_same k55 T1
    replace M1 := k55 _ _ M1
    have D56 := D51.same k55
    generalize upd G50 p2 (.lst [.int r43, .int 0, .int 200]) = G54 at *
    clear D51
    refine ⟨_, rfl, b, x44, s1, x45, 3, rfl, D56.sr, by omega, by omega, e1, by decide, by decide, fun r57 x58 x59 h60 h61 h62 h63 => ?_⟩
    obtain ⟨w2, hw2, wa2, wb2⟩ : ∃ w, atI [V.int r43, V.int 0, V.int 200] r57 = some (.int w) ∧ 0 ≤ w ∧ w ≤ 200 := by
      rcases pick3 (x := V.int r43) (y := V.int 0) (z := V.int 200) h60 h61 with h | h | h
      · exact ⟨r43, h, h46, by omega⟩
      · exact ⟨0, h, by decide, by decide⟩
      · exact ⟨200, h, by decide, by decide⟩
    replace T1 := sqT_tk T1 (kv_sb D56.sr (Sb.upd (o := .lst [.int x58, .int s1, .int x59])))
    replace M1 := kept (u := .lst [.int x58, .int s1, .int x59]) D56.sr M1 ne_M1
    replace L2 := kept (u := .lst [.int x58, .int s1, .int x59]) D56.sr L2 ne_L2
    have D65 := D56.draw (r0 := x58) h62 h63
    generalize upd G54 b (.lst [.int x58, .int s1, .int x59]) = G64 at *
    have q66 := D65.lo; have q67 := D65.hi
    clear D56
    refine ⟨p2, _, _, _, rfl, rfl, sqL_of L2, hw2, two_le, fun t2 ht2 => ⟨one_le, fun m2 hm2 => ?_⟩⟩
    clear L2
    have k69 := same_new (o := .tup [.str "within", .int w2]) ht2
    have T2 := sqT_of (K := K) (upd_same (H := G64) (a := t2) (o := .tup [.str "within", .int w2]))
    replace T1 := Q7.sqT_same k69 T1
    replace M1 := k69 _ _ M1
    have D70 := D65.same k69
    generalize upd G64 t2 (.tup [.str "within", .int w2]) = G68 at *
    clear D65
    have ne_M2 := n_ne D70.sr hm2
    have k72 := same_new (o := .lst [.ref t2]) hm2
    have M2 := upd_same (H := G68) (a := m2) (o := .lst [.ref t2])
    replace T1 := Q7.sqT_same k72 T1
    replace M1 := k72 _ _ M1
    replace T2 := Q7.sqT_same k72 T2
    have D73 := D70.same k72
    generalize upd G68 m2 (.lst [.ref t2]) = G71 at *
    clear D70
    refine ⟨m1, m2, _, _, rfl, rfl, M1, M2, by show 2 ≤ _; omega, fun n2 hn2 => ?_⟩
    clear M1 M2
    have ne_N2 := n_ne D73.sr hn2
    have k75 := same_new (o := .lst ([V.ref t1] ++ [V.ref t2])) hn2
    have N2 := upd_same (H := G71) (a := n2) (o := .lst ([V.ref t1] ++ [V.ref t2]))
    replace T1 := Q7.sqT_same k75 T1
    replace T2 := Q7.sqT_same k75 T2
    have D76 := D73.same k75
    generalize upd G71 n2 (.lst ([V.ref t1] ++ [V.ref t2])) = G74 at *
    clear D73
    refine ⟨_, rfl, _, rfl, b, x58, s1, x59, 9, rfl, D76.sr, by omega, by omega, e1, by decide, by decide, fun r77 x78 x79 h80 h81 h82 h83 => ?_⟩
    refine ⟨three_le, fun p3 hp3 => ?_⟩
    replace T1 := sqT_tk T1 (kv_sb D76.sr (Sb.upd (o := .lst [.int x78, .int s1, .int x79])))
    replace T2 := sqT_tk T2 (kv_sb D76.sr (Sb.upd (o := .lst [.int x78, .int s1, .int x79])))
    replace N2 := kept (u := .lst [.int x78, .int s1, .int x79]) D76.sr N2 ne_N2
    have D85 := D76.draw (r0 := x78) h82 h83
    generalize upd G74 b (.lst [.int x78, .int s1, .int x79]) = G84 at *
    have q86 := D85.lo; have q87 := D85.hi
    clear D76
    have ne_L3 := n_ne D85.sr hp3
    have k89 := same_new (o := .lst [.int r77, .int 0, .int 100]) hp3
    have L3 := upd_same (H := G84) (a := p3) (o := .lst [.int r77, .int 0, .int 100])
    replace T1 := Q7.sqT_same k89 T1
    replace T2 := Q7.sqT_same k89 T2
    replace N2 := k89 _ _ N2
    have D90 := D85.same k89
    generalize upd G84 p3 (.lst [.int r77, .int 0, .int 100]) = G88 at *
    clear D85
    refine ⟨_, rfl, b, x78, s1, x79, 3, rfl, D90.sr, by omega, by omega, e1, by decide, by decide, fun r91 x92 x93 h94 h95 h96 h97 => ?_⟩
    obtain ⟨w3, hw3, wa3, wb3⟩ : ∃ w, atI [V.int r77, V.int 0, V.int 100] r91 = some (.int w) ∧ 0 ≤ w ∧ w ≤ 100 := by
      rcases pick3 (x := V.int r77) (y := V.int 0) (z := V.int 100) h94 h95 with h | h | h
      · exact ⟨r77, h, h80, by omega⟩
      · exact ⟨0, h, by decide, by decide⟩
      · exact ⟨100, h, by decide, by decide⟩
    replace T1 := sqT_tk T1 (kv_sb D90.sr (Sb.upd (o := .lst [.int x92, .int s1, .int x93])))
    replace T2 := sqT_tk T2 (kv_sb D90.sr (Sb.upd (o := .lst [.int x92, .int s1, .int x93])))
    replace N2 := kept (u := .lst [.int x92, .int s1, .int x93]) D90.sr N2 ne_N2
    replace L3 := kept (u := .lst [.int x92, .int s1, .int x93]) D90.sr L3 ne_L3
    have D99 := D90.draw (r0 := x92) h96 h97
    generalize upd G88 b (.lst [.int x92, .int s1, .int x93]) = G98 at *
    have q100 := D99.lo; have q101 := D99.hi
    clear D90
    refine ⟨p3, _, _, _, rfl, rfl, sqL_of L3, hw3, two_le, fun t3 ht3 => ⟨one_le, fun t4 ht4 => ⟨one_le, fun t5 ht5 => ⟨three_le, fun m3 hm3 => ?_⟩⟩⟩⟩
    clear L3
    have k103 := same_new (o := .tup [.str "later", .int w3]) ht3
    have T3 := sqT_of (K := K) (upd_same (H := G98) (a := t3) (o := .tup [.str "later", .int w3]))
    replace T1 := Q7.sqT_same k103 T1
    replace T2 := Q7.sqT_same k103 T2
    replace N2 := k103 _ _ N2
    have D104 := D99.same k103
    generalize upd G98 t3 (.tup [.str "later", .int w3]) = G102 at *
    clear D99
    have k106 := same_new (o := .tup [.str "keep"]) ht4
    have T4 := sqT_of (K := K) (upd_same (H := G102) (a := t4) (o := .tup [.str "keep"]))
    replace T1 := Q7.sqT_same k106 T1
    replace T2 := Q7.sqT_same k106 T2
    replace N2 := k106 _ _ N2
    replace T3 := Q7.sqT_same k106 T3
    have D107 := D104.same k106
    generalize upd G102 t4 (.tup [.str "keep"]) = G105 at *
    clear D104
    have k109 := same_new (o := .tup [.str "easy"]) ht5
    have T5 := sqT_of (K := K) (upd_same (H := G105) (a := t5) (o := .tup [.str "easy"]))
    replace T1 := Q7.sqT_same k109 T1
    replace T2 := Q7.sqT_same k109 T2
    replace N2 := k109 _ _ N2
    replace T3 := Q7.sqT_same k109 T3
    replace T4 := Q7.sqT_same k109 T4
    have D110 := D107.same k109
    generalize upd G105 t5 (.tup [.str "easy"]) = G108 at *
    clear D107
    have ne_M3 := n_ne D110.sr hm3
    have k112 := same_new (o := .lst [.ref t3, .ref t4, .ref t5]) hm3
    have M3 := upd_same (H := G108) (a := m3) (o := .lst [.ref t3, .ref t4, .ref t5])
    replace T1 := Q7.sqT_same k112 T1
    replace T2 := Q7.sqT_same k112 T2
    replace N2 := k112 _ _ N2
    replace T3 := Q7.sqT_same k112 T3
    replace T4 := Q7.sqT_same k112 T4
    replace T5 := Q7.sqT_same k112 T5
    have D113 := D110.same k112
    generalize upd G108 m3 (.lst [.ref t3, .ref t4, .ref t5]) = G111 at *
    clear D110
    refine ⟨n2, m3, _, _, rfl, rfl, N2, M3, by show 5 ≤ _; omega, fun n3 hn3 => ?_⟩
    clear N2 M3
    have ne_N3 := n_ne D113.sr hn3
    have z_N3 := D113.none hn3 ne_N3
    have k115 := same_new (o := .lst ([V.ref t1] ++ [V.ref t2] ++ [V.ref t3, V.ref t4, V.ref t5])) hn3
    have N3 := upd_same (H := G111) (a := n3) (o := .lst ([V.ref t1] ++ [V.ref t2] ++ [V.ref t3, V.ref t4, V.ref t5]))
    replace T1 := Q7.sqT_same k115 T1
    replace T2 := Q7.sqT_same k115 T2
    replace T3 := Q7.sqT_same k115 T3
    replace T4 := Q7.sqT_same k115 T4
    replace T5 := Q7.sqT_same k115 T5
    have D116 := D113.same k115
    generalize upd G111 n3 (.lst ([V.ref t1] ++ [V.ref t2] ++ [V.ref t3, V.ref t4, V.ref t5])) = G114 at *
    clear D113
    refine ⟨_, rfl, .inl ⟨rfl, _, sqL_of N3⟩, _, rfl, _, _, rfl, rfl, (by unfold CPow; decide), _, _, rfl, rfl, b, x92, s1, x93, _, rfl, D116.sr, by omega, by omega, e1, by decide +kernel, by decide +kernel, fun r117 x118 x119 h120 h121 h122 h123 => ?_⟩
    refine ⟨_, _, rfl, rfl, (by unfold CPow; decide), three_le, fun p4 hp4 => ?_⟩
    replace T1 := sqT_tk T1 (kv_sb D116.sr (Sb.upd (o := .lst [.int x118, .int s1, .int x119])))
    replace T2 := sqT_tk T2 (kv_sb D116.sr (Sb.upd (o := .lst [.int x118, .int s1, .int x119])))
    replace T3 := sqT_tk T3 (kv_sb D116.sr (Sb.upd (o := .lst [.int x118, .int s1, .int x119])))
    replace T4 := sqT_tk T4 (kv_sb D116.sr (Sb.upd (o := .lst [.int x118, .int s1, .int x119])))
    replace T5 := sqT_tk T5 (kv_sb D116.sr (Sb.upd (o := .lst [.int x118, .int s1, .int x119])))
    replace N3 := kept (u := .lst [.int x118, .int s1, .int x119]) D116.sr N3 ne_N3
    have D125 := D116.draw (r0 := x118) h122 h123
    generalize upd G114 b (.lst [.int x118, .int s1, .int x119]) = G124 at *
    have q126 := D125.lo; have q127 := D125.hi
    clear D116
    have ub : r117 ≤ 1000000000000 := by
      have : r117 < (10 : Int) ^ (12 : Int).toNat + 1 := h121
      rw [show (10 : Int) ^ (12 : Int).toNat = 1000000000000 by decide +kernel] at this
      omega
    have ne_L4 := n_ne D125.sr hp4
    have k129 := same_new (o := .lst [.int r117, .int 0, .int (10 ^ (12 : Int).toNat)]) hp4
    have L4 := upd_same (H := G124) (a := p4) (o := .lst [.int r117, .int 0, .int (10 ^ (12 : Int).toNat)])
    replace T1 := Q7.sqT_same k129 T1
    replace T2 := Q7.sqT_same k129 T2
    replace T3 := Q7.sqT_same k129 T3
    replace T4 := Q7.sqT_same k129 T4
    replace T5 := Q7.sqT_same k129 T5
    replace N3 := k129 _ _ N3
    have D130 := D125.same k129
    generalize upd G124 p4 (.lst [.int r117, .int 0, .int (10 ^ (12 : Int).toNat)]) = G128 at *
    clear D125
    refine ⟨_, rfl, b, x118, s1, x119, 3, rfl, D130.sr, by omega, by omega, e1, by decide, by decide, fun r131 x132 x133 h134 h135 h136 h137 => ?_⟩
    obtain ⟨w4, hw4, wa4, wb4⟩ : ∃ w, atI [V.int r117, V.int 0, V.int (10 ^ (12 : Int).toNat)] r131 = some (.int w) ∧ 0 ≤ w ∧ w ≤ 1000000000000 := by
      rcases pick3 (x := V.int r117) (y := V.int 0) (z := V.int (10 ^ (12 : Int).toNat)) h134 h135 with h | h | h
      · exact ⟨r117, h, h120, ub⟩
      · exact ⟨0, h, by decide, by decide⟩
      · exact ⟨_, h, by decide +kernel, by decide +kernel⟩
    replace T1 := sqT_tk T1 (kv_sb D130.sr (Sb.upd (o := .lst [.int x132, .int s1, .int x133])))
    replace T2 := sqT_tk T2 (kv_sb D130.sr (Sb.upd (o := .lst [.int x132, .int s1, .int x133])))
    replace T3 := sqT_tk T3 (kv_sb D130.sr (Sb.upd (o := .lst [.int x132, .int s1, .int x133])))
    replace T4 := sqT_tk T4 (kv_sb D130.sr (Sb.upd (o := .lst [.int x132, .int s1, .int x133])))
    replace T5 := sqT_tk T5 (kv_sb D130.sr (Sb.upd (o := .lst [.int x132, .int s1, .int x133])))
    replace N3 := kept (u := .lst [.int x132, .int s1, .int x133]) D130.sr N3 ne_N3
    replace L4 := kept (u := .lst [.int x132, .int s1, .int x133]) D130.sr L4 ne_L4
    have D139 := D130.draw (r0 := x132) h136 h137
    generalize upd G128 b (.lst [.int x132, .int s1, .int x133]) = G138 at *
    have q140 := D139.lo; have q141 := D139.hi
    clear D130
    refine ⟨p4, _, _, _, rfl, rfl, sqL_of L4, hw4, two_le, fun t6 ht6 => ?_⟩
    clear L4
    have k143 := same_new (o := .tup [.str "back", .int w4]) ht6
    have T6 := sqT_of (K := K) (upd_same (H := G138) (a := t6) (o := .tup [.str "back", .int w4]))
    replace T1 := Q7.sqT_same k143 T1
    replace T2 := Q7.sqT_same k143 T2
    replace T3 := Q7.sqT_same k143 T3
    replace T4 := Q7.sqT_same k143 T4
    replace T5 := Q7.sqT_same k143 T5
    replace N3 := k143 _ _ N3
    have D144 := D139.same k143
    generalize upd G138 t6 (.tup [.str "back", .int w4]) = G142 at *
    clear D139
    refine ⟨n3, _, _, rfl, rfl, N3, by show 5 < _; omega, ?_⟩
    have tk147 : TK G142 (upd G142 n3 (.lst ([V.ref t1] ++ [V.ref t2] ++ [V.ref t3, V.ref t4, V.ref t5] ++ [V.ref t6]))) := tk_lst N3
    replace T1 := sqT_tk T1 tk147
    replace T2 := sqT_tk T2 tk147
    replace T3 := sqT_tk T3 tk147
    replace T4 := sqT_tk T4 tk147
    replace T5 := sqT_tk T5 tk147
    replace T6 := sqT_tk T6 tk147
    have D146 := D144.mut (o := .lst ([V.ref t1] ++ [V.ref t2] ++ [V.ref t3, V.ref t4, V.ref t5] ++ [V.ref t6])) z_N3 ne_N3
    replace N3 := upd_same (H := G142) (a := n3) (o := .lst ([V.ref t1] ++ [V.ref t2] ++ [V.ref t3, V.ref t4, V.ref t5] ++ [V.ref t6]))
    generalize upd G142 n3 (.lst ([V.ref t1] ++ [V.ref t2] ++ [V.ref t3, V.ref t4, V.ref t5] ++ [V.ref t6])) = G145 at *
    clear D144 tk147
    refine ⟨_, rfl, _, rfl, b, x132, s1, x133, 6, rfl, D146.sr, by omega, by omega, e1, by decide, by decide, fun r148 x149 x150 h151 h152 h153 h154 => ?_⟩
    replace T1 := sqT_tk T1 (kv_sb D146.sr (Sb.upd (o := .lst [.int x149, .int s1, .int x150])))
    replace T2 := sqT_tk T2 (kv_sb D146.sr (Sb.upd (o := .lst [.int x149, .int s1, .int x150])))
    replace T3 := sqT_tk T3 (kv_sb D146.sr (Sb.upd (o := .lst [.int x149, .int s1, .int x150])))
    replace T4 := sqT_tk T4 (kv_sb D146.sr (Sb.upd (o := .lst [.int x149, .int s1, .int x150])))
    replace T5 := sqT_tk T5 (kv_sb D146.sr (Sb.upd (o := .lst [.int x149, .int s1, .int x150])))
    replace N3 := kept (u := .lst [.int x149, .int s1, .int x150]) D146.sr N3 ne_N3
    replace T6 := sqT_tk T6 (kv_sb D146.sr (Sb.upd (o := .lst [.int x149, .int s1, .int x150])))
    have D156 := D146.draw (r0 := x149) h153 h154
    generalize upd G145 b (.lst [.int x149, .int s1, .int x150]) = G155 at *
    have q157 := D156.lo; have q158 := D156.hi
    clear D146
    obtain ⟨x, hx, u, UVx, oku⟩ := pick_all (xs := [V.ref t1] ++ [V.ref t2] ++ [V.ref t3, V.ref t4, V.ref t5] ++ [V.ref t6]) (P := fun v => ∃ u : UW, UV K G155 v u ∧ u.ok) (fun v hv => by
      simp only [List.cons_append, List.nil_append, List.mem_cons, List.not_mem_nil, or_false] at hv
      rcases hv with rfl | rfl | rfl | rfl | rfl | rfl
      · exact ⟨.again (1 + r1) w1, ⟨t1, rfl, T1⟩, UW.ok_again (by omega) (by omega) wa wb⟩
      · exact ⟨.within w2, ⟨t2, rfl, T2⟩, UW.ok_within wa2 wb2⟩
      · exact ⟨.later w3, ⟨t3, rfl, T3⟩, UW.ok_later wa3 wb3⟩
      · exact ⟨.keep, ⟨t4, rfl, T4⟩, UW.ok_keep⟩
      · exact ⟨.easy, ⟨t5, rfl, T5⟩, UW.ok_easy⟩
      · exact ⟨.back w4, ⟨t6, rfl, T6⟩, UW.ok_back wa4 wb4⟩) h151 h152
    exact ⟨n3, _, _, _, rfl, rfl, sqL_of N3, hx, hQ x u _ _ _ (D156.mono (by omega)) UVx oku⟩
end
end L10
set_option maxRecDepth 100000
set_option maxHeartbeats 4000000
namespace L10
open PySem PySem.Spec PyProof.Rows L2 Q7
section
variable {P : Program} {w : World} {K : PySem.W.Frag} {mg : Str → Option Value} {base : Heap}
/-- a plan whose lists are new since H0 -/
structure PlanN (K : PySem.W.Frag) (H0 : Hp) (b : Addr) (H : Hp) (v : V) (p : PlanD) : Prop where
  nb : ∃ o, H0 b = some o
  pv : PlanV K H (fun a => H0 a = none) v p
theorem PlanN.same {H0 H H' : Hp} {b : Addr} {v : V} {p : PlanD} (h : PlanN K H0 b H v p) (s : Same H H') : PlanN K H0 b H' v p := ⟨h.nb, planV_same h.pv s⟩
theorem PlanN.ne {H0 : Hp} {b a : Addr} (h : ∃ o, H0 b = some o) (n : H0 a = none) : a ≠ b := fun e => by
  obtain ⟨o, ho⟩ := h
  rw [e, ho] at n
  cases n
theorem PlanN.sb {H0 H H' : Hp} {b : Addr} {v : V} {p : PlanD} {x y z : Int} (h : PlanN K H0 b H v p) (hb : SrcAt H b x y z) (s : Sb b H H') : PlanN K H0 b H' v p :=
  ⟨h.nb, planV_tr (kv_sb hb s) (fun l xs n e => s _ _ e (PlanN.ne h.nb n)) (fun _ _ n _ => n) h.pv⟩
theorem PlanN.from {H0 Hc H : Hp} {b : Addr} {v : V} {p : PlanD} (h : PlanN K Hc b H v p) (nb : ∃ o, H0 b = some o) (s : Sb b H0 Hc) : PlanN K H0 b H v p :=
  ⟨nb, planV_any h.pv fun l xs n _ => by
    cases e : H0 l with
    | none => rfl
    | some o =>
      have := s _ _ e (PlanN.ne h.nb n)
      rw [this] at n
      cases n⟩
def spPlan (K : PySem.W.Frag) (d : Nat) : Sp := fun vs H Q _ => ∃ b s0 s1 s2 nm ns room levels tries, vs = [.ref b, .ref nm, .int room, .int levels, .int tries] ∧ SrcAt H b s0 s1 s2 ∧ 0 ≤ s2 ∧ s2 + 40 * room < 2 ^ 37 ∧ s1.natAbs < 2 ^ 150 ∧
  H nm = some (.lst (ns.map V.str)) ∧ 1 ≤ ns.length ∧ ns.length ≤ 12 ∧ 1 ≤ room ∧ room ≤ 40 ∧ 1 ≤ levels ∧ levels ≤ d ∧ 1 ≤ tries ∧ tries ≤ 20 ∧
  ∀ v p u0 u2 H', Dr b s1 s2 (40 * room) H H' u0 u2 → PlanN K H b H' v p → p.ok ns → (p.count : Int) ≤ room → (p.deep : Int) ≤ levels → Q v H'
theorem nm_ne {H : Hp} {b nm : Addr} {x y z : Int} {ns : List Str} (hs : SrcAt H b x y z) (hn : H nm = some (.lst (ns.map V.str))) (l : 1 ≤ ns.length) : nm ≠ b := fun e => by
  unfold SrcAt at hs
  rw [e, hs] at hn
  cases ns with
  | nil => simp at l
  | cons x r => simp at hn
theorem lw_pick {r : Int} (h0 : 0 ≤ r) (h1 : r < 4) : ∃ w : LW, atI [V.str "order", V.str "other", V.str "both", V.str "race"] r = some (.str w.word) := by
  have : r = 0 ∨ r = 1 ∨ r = 2 ∨ r = 3 := by omega
  rcases this with rfl | rfl | rfl | rfl
  · exact ⟨.order, rfl⟩
  · exact ⟨.other, rfl⟩
  · exact ⟨.both, rfl⟩
  · exact ⟨.race, rfl⟩
theorem countL_le {m : Int} : ∀ {ps : List PlanD}, (∀ q ∈ ps, (q.count : Int) ≤ m) → ((PlanL.of ps).count : Int) ≤ m * ps.length
  | [], _ => by
    show ((0 : Nat) : Int) ≤ m * ((0 : Nat) : Int)
    simp
  | q :: r, h => by
    have h1 := h q List.mem_cons_self
    have h2 := countL_le (m := m) (ps := r) fun x hx => h x (List.mem_cons_of_mem _ hx)
    show ((q.count + (PlanL.of r).count : Nat) : Int) ≤ m * ((r.length + 1 : Nat) : Int)
    push_cast
    rw [Int.mul_add, Int.mul_one]
    omega
theorem deepL_le {m : Int} (h0 : 0 ≤ m) : ∀ {ps : List PlanD}, (∀ q ∈ ps, (q.deep : Int) ≤ m) → ((PlanL.of ps).deep : Int) ≤ m
  | [], _ => h0
  | q :: r, h => by
    have h1 := h q List.mem_cons_self
    have h2 := deepL_le h0 (ps := r) fun x hx => h x (List.mem_cons_of_mem _ hx)
    show ((max q.deep (PlanL.of r).deep : Nat) : Int) ≤ m
    omega
theorem four_le : 4 ≤ sizeLine := by decide
theorem ok__law_plan (T : Txt w K mg) : ∀ d, FnOk P w K mg base CX0 (d + 3) (He.ga K "_law_plan") T.fd__law_plan ["source", "names", "room", "levels", "tries"] (spPlan K d)
  | 0 => ⟨fun vs H Q E h => by
      obtain ⟨b, s0, s1, s2, nm, ns, room, levels, tries, rfl, _⟩ := h
      rfl, fun A outer s H args us vs Q E hr e0 hb hv h => by
      obtain ⟨b, s0, s1, s2, nm, ns, room, levels, tries, rfl, _, _, _, _, _, _, _, _, _, l0, l1, _⟩ := h
      omega⟩
  | d + 1 => by
    have ih := ok__law_plan T d
    refine T.F__law_plan.ok sc__law_plan (fun vs H Q E h => ?_) (fun cdv A outer s H vs Q E hr h => ⟨_, PSs.nox
      (pss_cons (ps_set (i := 5) sc__law_plan.nd rfl (.inl rfl) (pe_ix ix_list (pe_lst (pa_cons pe_str (pa_cons pe_str (pa_cons pe_str (pa_cons pe_str pa_nil))))) (pe_call (ok__law_draw T) (hr.mono (by omega)) (by rfl) T.g__law_draw T.F__law_draw.kp T.b__law_draw .nil pass0 (pa_cons (pv 0) (pa_cons pe_int pa_nil))) (fun _ _ => rfl)))
      (pss_cons (ps_set (i := 6) sc__law_plan.nd rfl (.inl rfl) (pe_call (ok__law_draw T) (hr.mono (by omega)) (by rfl) T.g__law_draw T.F__law_draw.kp T.b__law_draw .nil pass0 (pa_cons (pv 0) (pa_cons pe_int pa_nil))))
      (pss_cons (ps_if (PW.pt (pw_or (pt_cmpR op_lt (pv 2) pe_int (nomark _)) (pw_or (pt_cmpR op_lt (pv 3) pe_int (nomark _)) (pw_or1 (pt_cmpR op_eq (pv 6) pe_int (nomark _)))))) (pss_one (ps_ret (pe_ix ix_list (pe_lst (pa_cons (pe_tup (pa_cons pe_str (pa_cons (pe_ix ix_list (pv 1) (pe_call (ok__law_draw T) (hr.mono (by omega)) (by rfl) T.g__law_draw T.F__law_draw.kp T.b__law_draw .nil pass0 (pa_cons (pv 0) (pa_cons (pe_callB call_len_seq (by rfl) T.m_len (by decide +kernel) (pa_cons (pv 1) pa_nil)) pa_nil))) (fun _ _ => rfl)) pa_nil))) (pa_cons (pe_tup (pa_cons (pv 5) (pa_cons (pe_lst pa_nil) pa_nil))) pa_nil))) (pe_op op_fdivW (pe_call (ok__law_draw T) (hr.mono (by omega)) (by rfl) T.g__law_draw T.F__law_draw.kp T.b__law_draw .nil pass0 (pa_cons (pv 0) (pa_cons pe_int pa_nil))) pe_int) (fun _ _ => rfl)))) pss_nil)
      (pss_cons (ps_if (pt_cmpR op_lt (pv 6) pe_int (nomark _)) (pss_cons (ps_par (i := 7) (j := 8) rfl sc__law_plan.nd rfl rfl (by decide) rfl rfl (pa_cons (pe_op op_add pe_int (pe_call (ok__law_draw T) (hr.mono (by omega)) (by rfl) T.g__law_draw T.F__law_draw.kp T.b__law_draw .nil pass0 (pa_cons (pv 0) (pa_cons (pe_callB (call_min2 rfl) (by rfl) T.m_min (by decide +kernel) (pa_cons pe_int (pa_cons (pe_op op_sub (pv 2) pe_int) pa_nil))) pa_nil)))) (pa_cons (pe_lst pa_nil) pa_nil)) (by rfl))
      (pss_cons (ps_for PassesOwn.never rfl (pi_range1 (by rfl) T.m_range (pa_cons (pv 7) pa_nil)) (pg_name (i := 9) sc__law_plan.nd rfl (.inl rfl)) (pss_one (ps_expr (pe_bm PySem.F.plainAttrs_list PySem.F.slot_list_append PySem.F.type_list_append mt_append (pv 8) (pa_cons (pe_call ih (hr.mono (by omega)) (by rfl) T.g__law_plan T.F__law_plan.kp T.b__law_plan .nil pass0 (pa_cons (pv 0) (pa_cons (pv 1) (pa_cons (pe_op op_fdivW (pe_op op_sub (pv 2) pe_int) (pv 7)) (pa_cons (pe_op op_sub (pv 3) pe_int) (pa_cons (pv 4) pa_nil)))))) pa_nil)))))
      (pss_one (ps_ret (pe_tup (pa_cons (pv 5) (pa_cons (pv 8) pa_nil))))))) pss_nil)
      (pss_cons (ps_if (PW.pt (pw_and (pt_cmpR op_eq (pv 6) pe_int (nomark _)) (pw_and1 (pt_cmpR op_gt (pv 2) pe_int (nomark _))))) (pss_cons (ps_set (i := 10) sc__law_plan.nd rfl (.inl rfl) (pe_call ih (hr.mono (by omega)) (by rfl) T.g__law_plan T.F__law_plan.kp T.b__law_plan .nil pass0 (pa_cons (pv 0) (pa_cons (pv 1) (pa_cons (pe_op op_fdivW (pe_op op_sub (pv 2) pe_int) pe_int) (pa_cons (pe_op op_sub (pv 3) pe_int) (pa_cons (pv 4) pa_nil)))))))
      (pss_cons (ps_set (i := 11) sc__law_plan.nd rfl (.inl rfl) (pe_call ih (hr.mono (by omega)) (by rfl) T.g__law_plan T.F__law_plan.kp T.b__law_plan .nil pass0 (pa_cons (pv 0) (pa_cons (pv 1) (pa_cons (pe_op op_fdivW (pe_op op_sub (pv 2) pe_int) pe_int) (pa_cons (pe_op op_sub (pv 3) pe_int) (pa_cons (pv 4) pa_nil)))))))
      (pss_one (ps_ret (pe_tup (pa_cons pe_str (pa_cons (pe_ix ix_list (pe_lst (pa_cons (pe_call (ok__law_draw T) (hr.mono (by omega)) (by rfl) T.g__law_draw T.F__law_draw.kp T.b__law_draw .nil pass0 (pa_cons (pv 0) (pa_cons pe_int pa_nil))) (pa_cons pe_int (pa_cons pe_int pa_nil)))) (pe_call (ok__law_draw T) (hr.mono (by omega)) (by rfl) T.g__law_draw T.F__law_draw.kp T.b__law_draw .nil pass0 (pa_cons (pv 0) (pa_cons pe_int pa_nil))) (fun _ _ => rfl)) (pa_cons (pv 10) (pa_cons (pv 11) pa_nil))))))))) pss_nil)
      (pss_one (ps_ret (pe_op op_catA (pe_call (ok__law_unary T) (hr.mono (by omega)) (by rfl) T.g__law_unary T.F__law_unary.kp T.b__law_unary .nil pass0 (pa_cons (pv 0) (pa_cons (pv 4) pa_nil))) (pe_tup (pa_cons (pe_call ih (hr.mono (by omega)) (by rfl) T.g__law_plan T.F__law_plan.kp T.b__law_plan .nil pass0 (pa_cons (pv 0) (pa_cons (pv 1) (pa_cons (pe_op op_sub (pv 2) pe_int) (pa_cons (pe_op op_sub (pv 3) pe_int) (pa_cons (pv 4) pa_nil)))))) pa_nil)))))))))), ?_⟩)
    · obtain ⟨b, s0, s1, s2, nm, ns, room, levels, tries, rfl, _⟩ := h
      rfl
    · obtain ⟨b, s0, s1, s2, nm, ns, room, levels, tries, rfl, hs, d0, d1, e1, hnm, n0, n1, m0, m1, v0, v1, t0, t1, hQ⟩ := h
      have l64 := line64
      have nb0 : ∃ o, H b = some o := ⟨_, hs⟩
      have ne_hnm := nm_ne hs hnm n0
      have D0 := Dr.start hs
      have q0 := D0.lo
      refine ⟨four_le, fun p1 hp1 => ?_⟩
      have ne_L1 := n_ne D0.sr hp1
      have k2 := same_new (o := .lst [.str "order", .str "other", .str "both", .str "race"]) hp1
      have L1 := upd_same (H := H) (a := p1) (o := .lst [.str "order", .str "other", .str "both", .str "race"])
      replace hnm := k2 _ _ hnm
      have D3 := D0.same k2
      generalize upd H p1 (.lst [.str "order", .str "other", .str "both", .str "race"]) = G1 at *
      clear D0
      refine ⟨_, rfl, b, s0, s1, s2, 4, rfl, D3.sr, by omega, by omega, e1, by decide, by decide, fun r4 x5 x6 h7 h8 h9 h10 => ?_⟩
      obtain ⟨wd, hwd⟩ := lw_pick h7 h8
      replace hnm := kept (u := .lst [.int x5, .int s1, .int x6]) D3.sr hnm ne_hnm
      replace L1 := kept (u := .lst [.int x5, .int s1, .int x6]) D3.sr L1 ne_L1
      have D12 := D3.draw (r0 := x5) h9 h10
      generalize upd G1 b (.lst [.int x5, .int s1, .int x6]) = G11 at *
      have q13 := D12.lo; have q14 := D12.hi
      clear D3
      refine ⟨p1, _, _, _, rfl, rfl, sqL_of L1, hwd, ?_⟩
      clear L1
      refine ⟨_, rfl, b, x5, s1, x6, 8, rfl, D12.sr, by omega, by omega, e1, by decide, by decide, fun r15 x16 x17 h18 h19 h20 h21 => ?_⟩
      replace hnm := kept (u := .lst [.int x16, .int s1, .int x17]) D12.sr hnm ne_hnm
      have D23 := D12.draw (r0 := x16) h20 h21
      generalize upd G11 b (.lst [.int x16, .int s1, .int x17]) = G22 at *
      have q24 := D23.lo; have q25 := D23.hi
      clear D12
      refine ⟨_, rfl, _, _, rfl, rfl, _, rfl, ?_⟩
      by_cases c1 : room < 2
      · refine iteT' (decide_eq_true c1) ?_
        refine ⟨_, rfl, _, rfl, _, rfl, nm, _, rfl, .inl (sqL_of hnm), b, x16, s1, x17, _, rfl, D23.sr, by omega, by omega, e1, by rw [List.length_map]; omega, Nat.lt_of_lt_of_le (show (((ns.map V.str).length : Nat) : Int).natAbs < 2 ^ 4 by rw [List.length_map]; omega) (pow_le' (by decide)), fun r26 x27 x28 h29 h30 h31 h32 => ?_⟩
        obtain ⟨nx, hnx, n, hn, rfl⟩ := pick_all (xs := ns.map V.str) (P := fun v => ∃ n ∈ ns, v = .str n) (fun v hv => by
          obtain ⟨n, hn, rfl⟩ := List.mem_map.mp hv
          exact ⟨n, hn, rfl⟩) h29 h30
        replace hnm := kept (u := .lst [.int x27, .int s1, .int x28]) D23.sr hnm ne_hnm
        have D34 := D23.draw (r0 := x27) h31 h32
        generalize upd G22 b (.lst [.int x27, .int s1, .int x28]) = G33 at *
        have q35 := D34.lo; have q36 := D34.hi
        clear D23
        refine ⟨nm, _, _, _, rfl, rfl, sqL_of hnm, hnx, two_le, fun ta hta => ⟨_, rfl, Nat.zero_le _, fun la hla => ⟨two_le, fun tb htb => ⟨two_le, fun lo hlo => ?_⟩⟩⟩⟩
        have k38 := same_new (o := .tup [.str "task", .str n]) hta
        have TA := sqT_of (K := K) (upd_same (H := G33) (a := ta) (o := .tup [.str "task", .str n]))
        replace hnm := k38 _ _ hnm
        have D39 := D34.same k38
        generalize upd G33 ta (.tup [.str "task", .str n]) = G37 at *
        clear D34
        have ne_LA := n_ne D39.sr hla
        have z_LA := D39.none hla ne_LA
        have k41 := same_new (o := .lst []) hla
        have LA := upd_same (H := G37) (a := la) (o := .lst [])
        replace hnm := k41 _ _ hnm
        replace TA := Q7.sqT_same k41 TA
        have D42 := D39.same k41
        generalize upd G37 la (.lst []) = G40 at *
        clear D39
        have k44 := same_new (o := .tup [.str wd.word, .ref la]) htb
        have TB := sqT_of (K := K) (upd_same (H := G40) (a := tb) (o := .tup [.str wd.word, .ref la]))
        replace hnm := k44 _ _ hnm
        replace TA := Q7.sqT_same k44 TA
        replace LA := k44 _ _ LA
        have D45 := D42.same k44
        generalize upd G40 tb (.tup [.str wd.word, .ref la]) = G43 at *
        clear D42
        have ne_LO := n_ne D45.sr hlo
        have k47 := same_new (o := .lst [.ref ta, .ref tb]) hlo
        have LO := upd_same (H := G43) (a := lo) (o := .lst [.ref ta, .ref tb])
        replace hnm := k47 _ _ hnm
        replace TA := Q7.sqT_same k47 TA
        replace LA := k47 _ _ LA
        replace TB := Q7.sqT_same k47 TB
        have D48 := D45.same k47
        generalize upd G43 lo (.lst [.ref ta, .ref tb]) = G46 at *
        clear D45
        refine ⟨_, rfl, b, x27, s1, x28, 5, rfl, D48.sr, by omega, by omega, e1, by decide, by decide, fun r49 x50 x51 h52 h53 h54 h55 => ?_⟩
        replace hnm := kept (u := .lst [.int x50, .int s1, .int x51]) D48.sr hnm ne_hnm
        replace TA := sqT_tk TA (kv_sb D48.sr (Sb.upd (o := .lst [.int x50, .int s1, .int x51])))
        replace LA := kept (u := .lst [.int x50, .int s1, .int x51]) D48.sr LA ne_LA
        replace TB := sqT_tk TB (kv_sb D48.sr (Sb.upd (o := .lst [.int x50, .int s1, .int x51])))
        replace LO := kept (u := .lst [.int x50, .int s1, .int x51]) D48.sr LO ne_LO
        have D57 := D48.draw (r0 := x50) h54 h55
        generalize upd G46 b (.lst [.int x50, .int s1, .int x51]) = G56 at *
        have q58 := D57.lo; have q59 := D57.hi
        clear D48
        refine ⟨_, _, rfl, rfl, ⟨by decide, by decide⟩, ?_⟩
        have hz : r49 / 4 = 0 ∨ r49 / 4 = 1 := by omega
        rcases hz with hz | hz
        · refine ⟨lo, _, _, _, rfl, rfl, sqL_of LO, (by rw [hz]; rfl), ?_⟩
          exact hQ (.ref ta) (.task n) _ _ _ (D57.mono (by omega)) ⟨nb0, .task TA⟩ hn (by show ((1 : Nat) : Int) ≤ room; omega) (by show ((1 : Nat) : Int) ≤ levels; omega)
        · refine ⟨lo, _, _, _, rfl, rfl, sqL_of LO, (by rw [hz]; rfl), ?_⟩
          exact hQ (.ref tb) (.many wd .nil) _ _ _ (D57.mono (by omega)) ⟨nb0, .many TB z_LA LA .nil⟩ True.intro (by show ((1 + 0 : Nat) : Int) ≤ room; omega) (by show ((1 + 0 : Nat) : Int) ≤ levels; omega)
      refine iteE (decide_eq_false c1) ⟨_, rfl, _, _, rfl, rfl, _, rfl, ?_⟩
      by_cases c2 : levels < 2
      · refine iteT' (decide_eq_true c2) ?_
        refine ⟨_, rfl, _, rfl, _, rfl, nm, _, rfl, .inl (sqL_of hnm), b, x16, s1, x17, _, rfl, D23.sr, by omega, by omega, e1, by rw [List.length_map]; omega, Nat.lt_of_lt_of_le (show (((ns.map V.str).length : Nat) : Int).natAbs < 2 ^ 4 by rw [List.length_map]; omega) (pow_le' (by decide)), fun r26 x27 x28 h29 h30 h31 h32 => ?_⟩
        obtain ⟨nx, hnx, n, hn, rfl⟩ := pick_all (xs := ns.map V.str) (P := fun v => ∃ n ∈ ns, v = .str n) (fun v hv => by
          obtain ⟨n, hn, rfl⟩ := List.mem_map.mp hv
          exact ⟨n, hn, rfl⟩) h29 h30
        replace hnm := kept (u := .lst [.int x27, .int s1, .int x28]) D23.sr hnm ne_hnm
        have D34 := D23.draw (r0 := x27) h31 h32
        generalize upd G22 b (.lst [.int x27, .int s1, .int x28]) = G33 at *
        have q35 := D34.lo; have q36 := D34.hi
        clear D23
        refine ⟨nm, _, _, _, rfl, rfl, sqL_of hnm, hnx, two_le, fun ta hta => ⟨_, rfl, Nat.zero_le _, fun la hla => ⟨two_le, fun tb htb => ⟨two_le, fun lo hlo => ?_⟩⟩⟩⟩
        have k38 := same_new (o := .tup [.str "task", .str n]) hta
        have TA := sqT_of (K := K) (upd_same (H := G33) (a := ta) (o := .tup [.str "task", .str n]))
        replace hnm := k38 _ _ hnm
        have D39 := D34.same k38
        generalize upd G33 ta (.tup [.str "task", .str n]) = G37 at *
        clear D34
        have ne_LA := n_ne D39.sr hla
        have z_LA := D39.none hla ne_LA
        have k41 := same_new (o := .lst []) hla
        have LA := upd_same (H := G37) (a := la) (o := .lst [])
        replace hnm := k41 _ _ hnm
        replace TA := Q7.sqT_same k41 TA
        have D42 := D39.same k41
        generalize upd G37 la (.lst []) = G40 at *
        clear D39
        have k44 := same_new (o := .tup [.str wd.word, .ref la]) htb
        have TB := sqT_of (K := K) (upd_same (H := G40) (a := tb) (o := .tup [.str wd.word, .ref la]))
        replace hnm := k44 _ _ hnm
        replace TA := Q7.sqT_same k44 TA
        replace LA := k44 _ _ LA
        have D45 := D42.same k44
        generalize upd G40 tb (.tup [.str wd.word, .ref la]) = G43 at *
        clear D42
        have ne_LO := n_ne D45.sr hlo
        have k47 := same_new (o := .lst [.ref ta, .ref tb]) hlo
        have LO := upd_same (H := G43) (a := lo) (o := .lst [.ref ta, .ref tb])
        replace hnm := k47 _ _ hnm
        replace TA := Q7.sqT_same k47 TA
        replace LA := k47 _ _ LA
        replace TB := Q7.sqT_same k47 TB
        have D48 := D45.same k47
        generalize upd G43 lo (.lst [.ref ta, .ref tb]) = G46 at *
        clear D45
        refine ⟨_, rfl, b, x27, s1, x28, 5, rfl, D48.sr, by omega, by omega, e1, by decide, by decide, fun r49 x50 x51 h52 h53 h54 h55 => ?_⟩
        replace hnm := kept (u := .lst [.int x50, .int s1, .int x51]) D48.sr hnm ne_hnm
        replace TA := sqT_tk TA (kv_sb D48.sr (Sb.upd (o := .lst [.int x50, .int s1, .int x51])))
        replace LA := kept (u := .lst [.int x50, .int s1, .int x51]) D48.sr LA ne_LA
        replace TB := sqT_tk TB (kv_sb D48.sr (Sb.upd (o := .lst [.int x50, .int s1, .int x51])))
        replace LO := kept (u := .lst [.int x50, .int s1, .int x51]) D48.sr LO ne_LO
        have D57 := D48.draw (r0 := x50) h54 h55
        generalize upd G46 b (.lst [.int x50, .int s1, .int x51]) = G56 at *
        have q58 := D57.lo; have q59 := D57.hi
        clear D48
        refine ⟨_, _, rfl, rfl, ⟨by decide, by decide⟩, ?_⟩
        have hz : r49 / 4 = 0 ∨ r49 / 4 = 1 := by omega
        rcases hz with hz | hz
        · refine ⟨lo, _, _, _, rfl, rfl, sqL_of LO, (by rw [hz]; rfl), ?_⟩
          exact hQ (.ref ta) (.task n) _ _ _ (D57.mono (by omega)) ⟨nb0, .task TA⟩ hn (by show ((1 : Nat) : Int) ≤ room; omega) (by show ((1 : Nat) : Int) ≤ levels; omega)
        · refine ⟨lo, _, _, _, rfl, rfl, sqL_of LO, (by rw [hz]; rfl), ?_⟩
          exact hQ (.ref tb) (.many wd .nil) _ _ _ (D57.mono (by omega)) ⟨nb0, .many TB z_LA LA .nil⟩ True.intro (by show ((1 + 0 : Nat) : Int) ≤ room; omega) (by show ((1 + 0 : Nat) : Int) ≤ levels; omega)
      refine iteE (decide_eq_false c2) ⟨_, rfl, rfl, _, rfl, ?_⟩
      by_cases c3 : r15 = 0
      · refine iteT' (decide_eq_true (by rw [c3])) ?_
        refine ⟨_, rfl, _, rfl, _, rfl, nm, _, rfl, .inl (sqL_of hnm), b, x16, s1, x17, _, rfl, D23.sr, by omega, by omega, e1, by rw [List.length_map]; omega, Nat.lt_of_lt_of_le (show (((ns.map V.str).length : Nat) : Int).natAbs < 2 ^ 4 by rw [List.length_map]; omega) (pow_le' (by decide)), fun r26 x27 x28 h29 h30 h31 h32 => ?_⟩
        obtain ⟨nx, hnx, n, hn, rfl⟩ := pick_all (xs := ns.map V.str) (P := fun v => ∃ n ∈ ns, v = .str n) (fun v hv => by
          obtain ⟨n, hn, rfl⟩ := List.mem_map.mp hv
          exact ⟨n, hn, rfl⟩) h29 h30
        replace hnm := kept (u := .lst [.int x27, .int s1, .int x28]) D23.sr hnm ne_hnm
        have D34 := D23.draw (r0 := x27) h31 h32
        generalize upd G22 b (.lst [.int x27, .int s1, .int x28]) = G33 at *
        have q35 := D34.lo; have q36 := D34.hi
        clear D23
        refine ⟨nm, _, _, _, rfl, rfl, sqL_of hnm, hnx, two_le, fun ta hta => ⟨_, rfl, Nat.zero_le _, fun la hla => ⟨two_le, fun tb htb => ⟨two_le, fun lo hlo => ?_⟩⟩⟩⟩
        have k38 := same_new (o := .tup [.str "task", .str n]) hta
        have TA := sqT_of (K := K) (upd_same (H := G33) (a := ta) (o := .tup [.str "task", .str n]))
        replace hnm := k38 _ _ hnm
        have D39 := D34.same k38
        generalize upd G33 ta (.tup [.str "task", .str n]) = G37 at *
        clear D34
        have ne_LA := n_ne D39.sr hla
        have z_LA := D39.none hla ne_LA
        have k41 := same_new (o := .lst []) hla
        have LA := upd_same (H := G37) (a := la) (o := .lst [])
        replace hnm := k41 _ _ hnm
        replace TA := Q7.sqT_same k41 TA
        have D42 := D39.same k41
        generalize upd G37 la (.lst []) = G40 at *
        clear D39
        have k44 := same_new (o := .tup [.str wd.word, .ref la]) htb
        have TB := sqT_of (K := K) (upd_same (H := G40) (a := tb) (o := .tup [.str wd.word, .ref la]))
        replace hnm := k44 _ _ hnm
        replace TA := Q7.sqT_same k44 TA
        replace LA := k44 _ _ LA
        have D45 := D42.same k44
        generalize upd G40 tb (.tup [.str wd.word, .ref la]) = G43 at *
        clear D42
        have ne_LO := n_ne D45.sr hlo
        have k47 := same_new (o := .lst [.ref ta, .ref tb]) hlo
        have LO := upd_same (H := G43) (a := lo) (o := .lst [.ref ta, .ref tb])
        replace hnm := k47 _ _ hnm
        replace TA := Q7.sqT_same k47 TA
        replace LA := k47 _ _ LA
        replace TB := Q7.sqT_same k47 TB
        have D48 := D45.same k47
        generalize upd G43 lo (.lst [.ref ta, .ref tb]) = G46 at *
        clear D45
        refine ⟨_, rfl, b, x27, s1, x28, 5, rfl, D48.sr, by omega, by omega, e1, by decide, by decide, fun r49 x50 x51 h52 h53 h54 h55 => ?_⟩
        replace hnm := kept (u := .lst [.int x50, .int s1, .int x51]) D48.sr hnm ne_hnm
        replace TA := sqT_tk TA (kv_sb D48.sr (Sb.upd (o := .lst [.int x50, .int s1, .int x51])))
        replace LA := kept (u := .lst [.int x50, .int s1, .int x51]) D48.sr LA ne_LA
        replace TB := sqT_tk TB (kv_sb D48.sr (Sb.upd (o := .lst [.int x50, .int s1, .int x51])))
        replace LO := kept (u := .lst [.int x50, .int s1, .int x51]) D48.sr LO ne_LO
        have D57 := D48.draw (r0 := x50) h54 h55
        generalize upd G46 b (.lst [.int x50, .int s1, .int x51]) = G56 at *
        have q58 := D57.lo; have q59 := D57.hi
        clear D48
        refine ⟨_, _, rfl, rfl, ⟨by decide, by decide⟩, ?_⟩
        have hz : r49 / 4 = 0 ∨ r49 / 4 = 1 := by omega
        rcases hz with hz | hz
        · refine ⟨lo, _, _, _, rfl, rfl, sqL_of LO, (by rw [hz]; rfl), ?_⟩
          exact hQ (.ref ta) (.task n) _ _ _ (D57.mono (by omega)) ⟨nb0, .task TA⟩ hn (by show ((1 : Nat) : Int) ≤ room; omega) (by show ((1 : Nat) : Int) ≤ levels; omega)
        · refine ⟨lo, _, _, _, rfl, rfl, sqL_of LO, (by rw [hz]; rfl), ?_⟩
          exact hQ (.ref tb) (.many wd .nil) _ _ _ (D57.mono (by omega)) ⟨nb0, .many TB z_LA LA .nil⟩ True.intro (by show ((1 + 0 : Nat) : Int) ≤ room; omega) (by show ((1 + 0 : Nat) : Int) ≤ levels; omega)
      refine iteE (decide_eq_false fun z => c3 (by cases z; rfl)) ?_
      refine ⟨_, rfl, _, _, rfl, rfl, _, rfl, ?_⟩
      by_cases c4 : r15 < 4
      · refine iteT' (decide_eq_true c4) ?_
        refine ⟨_, rfl, _, rfl, _, _, rfl, rfl, 5, room - 1, rfl, b, x16, s1, x17, _, rfl, D23.sr, by omega, by omega, e1, by split <;> omega, Nat.lt_of_lt_of_le (show (if room - 1 < 5 then room - 1 else 5).natAbs < 2 ^ 4 by split <;> omega) (pow_le' (by decide)), fun r26 x27 x28 h29 h30 h31 h32 => ?_⟩
        have rb : r26 < 5 ∧ r26 < room - 1 := by
          have h : r26 < (if room - 1 < 5 then room - 1 else 5) := h30
          split at h <;> omega
        refine ⟨_, _, rfl, rfl, Nat.zero_le _, fun l hl => ⟨_, _, rfl, ?_⟩⟩
        dsimp only
        replace hnm := kept (u := .lst [.int x27, .int s1, .int x28]) D23.sr hnm ne_hnm
        have D34 := D23.draw (r0 := x27) h31 h32
        generalize upd G22 b (.lst [.int x27, .int s1, .int x28]) = G33 at *
        have q35 := D34.lo; have q36 := D34.hi
        clear D23
        have ne_LP := n_ne D34.sr hl
        have z_LP := D34.none hl ne_LP
        have k38 := same_new (o := .lst []) hl
        have LP := upd_same (H := G33) (a := l) (o := .lst [])
        replace hnm := k38 _ _ hnm
        have D39 := D34.same k38
        generalize upd G33 l (.lst []) = G37 at *
        clear D34
        have nml : nm ≠ l := fun e => by rw [e, LP] at hnm; cases ns with | nil => simp at n0 | cons => simp at hnm
        generalize hmany : (1 : Int) + r26 = many at *
        have many0 : 1 ≤ many := by omega
        have many1 : many ≤ 5 := by omega
        have many2 : many ≤ room - 1 := by omega
        have rm1 : 1 ≤ (room - 1) / many := Int.le_ediv_of_mul_le (by omega) (by omega)
        have rm2 : (room - 1) / many * many ≤ room - 1 := Int.ediv_mul_le _ (by omega)
        generalize hrm : (room - 1) / many = rm at *
        refine ⟨_, rfl, _, rfl, by omega, by omega, ?_⟩
        refine for_range (lo := 0) (n := many.toNat) (fun i σ H' => ∃ (x0 x2 : Int) (xs : List V) (ps : List PlanD) (o9 o10 o11 : Option V), σ = [some (.ref b), some (.ref nm), some (.int room), some (.int levels), some (.int tries), some (.str wd.word), some (.int r15), some (.int many), some (.ref l), o9, o10, o11] ∧ Dr b s1 s2 (4 + 40 * (rm * (i : Int))) H H' x0 x2 ∧ H' l = some (.lst xs) ∧ H' nm = some (.lst (ns.map V.str)) ∧ PlanVs K H' (fun a => H a = none ∧ a ≠ l) xs (PlanL.of ps) ∧ (∀ q ∈ ps, q.ok ns ∧ (q.count : Int) ≤ rm ∧ (q.deep : Int) ≤ levels - 1) ∧ ps.length = i)
          ⟨x27, x28, [], [], _, _, _, rfl, D39.mono (by omega), LP, hnm, .nil, by simp, rfl⟩ ?_ ?_
        · rintro i σ H' hi ⟨x0, x2, xs, ps, o9, o10, o11, rfl, d, hl', hn', PP, hps, pl⟩
          have hi2 : (i : Int) < many := by omega
          have w1 := d.lo; have w2 := d.hi
          have w3 : rm * ((i : Int) + 1) ≤ rm * many := Int.mul_le_mul_of_nonneg_left (by omega) (by omega)
          have w4 : rm * ((i : Int) + 1) = rm * i + rm := by rw [Int.mul_add, Int.mul_one]
          have w5 : 0 ≤ rm * (i : Int) := Int.mul_nonneg (by omega) (by omega)
          have lnone : ∀ a, H' a = none → H a = none ∧ a ≠ l := fun a ha => by
            have ab : a ≠ b := fun e => by
              have h := d.sr
              unfold SrcAt at h
              rw [e, h] at ha
              cases ha
            refine ⟨d.none ha ab, fun e => ?_⟩
            rw [e, hl'] at ha
            cases ha
          refine ⟨_, rfl, .inl ⟨rfl, _, sqL_of hl'⟩, _, rfl, _, rfl, _, rfl, _, _, rfl, rfl, _, rfl, _, _, rfl, rfl, ⟨by omega, Nat.lt_of_le_of_lt (Nat.log2_le_self _) (by omega)⟩, _, rfl, _, _, rfl, rfl, _, rfl, b, x0, s1, x2, nm, ns, (room - 1) / many, levels - 1, tries, rfl, d.sr, by omega, by rw [hrm]; omega, e1, hn', n0, n1, by rw [hrm]; exact rm1, by rw [hrm]; omega, by omega, by omega, t0, t1, fun v p u143 u144 G140 Dc141 PN okp cp dp => ?_⟩
          replace hl' := Dc141.sb _ _ hl' ne_LP
          replace hn' := Dc141.sb _ _ hn' ne_hnm
          have D142 := d.then Dc141
          have q145 := D142.lo; have q146 := D142.hi
          rw [hrm] at cp
          have PP2 := planVs_tr (M := fun a => H a = none ∧ a ≠ l) (kv_sb d.sr Dc141.sb) (fun a ys n e => Dc141.sb _ _ e (PlanN.ne nb0 n.1)) (fun _ _ n _ => n) PP
          have PV2 := planV_any PN.pv fun a ys n _ => lnone a n
          have tk : TK G140 (upd G140 l (.lst (xs ++ [v]))) := tk_lst hl'
          have mv : ∀ {a : Addr} {ys : List V}, (H a = none ∧ a ≠ l) → G140 a = some (.lst ys) → upd G140 l (.lst (xs ++ [v])) a = some (.lst ys) := fun n e => (upd_ne n.2).trans e
          have xl : xs.length = ps.length := by rw [planVs_len PP, PlanL.list_of]
          refine ⟨l, xs, _, rfl, rfl, hl', by omega, u143, u144, _, ps ++ [p], _, _, _, rfl, ?_, upd_same, (upd_ne nml).trans hn', planVs_snoc (planVs_tr tk (fun _ _ n e => mv n e) (fun _ _ n _ => n) PP2) (planV_tr tk (fun _ _ n e => mv n e) (fun _ _ n _ => n) PV2), ?_, by rw [List.length_append, pl]; rfl⟩
          · refine (D142.mut z_LP ne_LP).mono ?_
            push_cast
            rw [hrm]
            omega
          · intro q hq
            rcases List.mem_append.mp hq with hq | hq
            · exact hps q hq
            · rw [List.mem_singleton.mp hq]
              exact ⟨okp, cp, dp⟩
        · rintro σ H' ⟨x0, x2, xs, ps, o9, o10, o11, rfl, d, hl', hn', PP, hps, pl⟩
          have pm : ((many.toNat : Nat) : Int) = many := Int.toNat_of_nonneg (by omega)
          have dd := d.hi
          rw [pm] at d
          have cc := countL_le (m := rm) (ps := ps) fun q hq => (hps q hq).2.1
          have de := deepL_le (m := levels - 1) (by omega) (ps := ps) fun q hq => (hps q hq).2.2
          rw [pl, pm] at cc
          refine ⟨_, rfl, _, rfl, two_le, fun t ht => ?_⟩
          have kt := same_new (o := .tup [.str wd.word, .ref l]) ht
          refine hQ (.ref t) (.many wd (PlanL.of ps)) _ _ _ ((d.same kt).mono (by omega)) ⟨nb0, .many (sqT_of upd_same) z_LP (kt _ _ hl') (planVs_tr (same_tk kt) (fun _ _ _ e => kt _ _ e) (fun _ _ n _ => n.1) PP)⟩ (PlanL.ok_of fun q hq => (hps q hq).1) ?_ ?_
          · show ((1 + (PlanL.of ps).count : Nat) : Int) ≤ room
            omega
          · show ((1 + (PlanL.of ps).deep : Nat) : Int) ≤ levels
            omega
      refine iteE (decide_eq_false c4) ?_
      refine ⟨_, rfl, rfl, _, rfl, ?_⟩
      by_cases c5 : r15 = 4 ∧ room > 2
      · obtain ⟨c5, c6⟩ := c5
        refine iteT' (decide_eq_true (by rw [c5])) ⟨_, rfl, _, _, rfl, rfl, _, rfl, iteT' (decide_eq_true c6) ?_⟩
        have hr : (room - 1) / 2 * 2 ≤ room - 1 := Int.ediv_mul_le _ (by omega)
        refine ⟨_, rfl, _, rfl, _, rfl, _, _, rfl, rfl, _, _, rfl, rfl, ⟨by decide, by decide⟩, _, rfl, _, _, rfl, rfl, _, rfl, b, x16, s1, x17, nm, ns, (room - 1) / 2, levels - 1, tries, rfl, D23.sr, by omega, by omega, e1, hnm, n0, n1, by omega, by omega, by omega, by omega, t0, t1, fun v1 p1 u29 u30 G26 Dc27 PN1 ok1 cp1 dp1 => ?_⟩
        replace hnm := Dc27.sb _ _ hnm ne_hnm
        have D28 := D23.then Dc27
        have q31 := D28.lo; have q32 := D28.hi
        replace PN1 := PN1.from (H := G26) nb0 D23.sb
        refine ⟨_, rfl, _, rfl, _, rfl, _, _, rfl, rfl, _, _, rfl, rfl, ⟨by decide, by decide⟩, _, rfl, _, _, rfl, rfl, _, rfl, b, u29, s1, u30, nm, ns, (room - 1) / 2, levels - 1, tries, rfl, D28.sr, by omega, by omega, e1, hnm, n0, n1, by omega, by omega, by omega, by omega, t0, t1, fun v2 p2 u36 u37 G33 Dc34 PN2 ok2 cp2 dp2 => ?_⟩
        replace hnm := Dc34.sb _ _ hnm ne_hnm
        replace PN1 := PN1.sb D28.sr Dc34.sb
        have D35 := D28.then Dc34
        have q38 := D35.lo; have q39 := D35.hi
        replace PN2 := PN2.from (H := G33) nb0 D28.sb
        refine ⟨_, rfl, b, u36, s1, u37, 201, rfl, D35.sr, by omega, by omega, e1, by decide, by decide, fun r40 x41 x42 h43 h44 h45 h46 => ?_⟩
        refine ⟨three_le, fun p5 hp5 => ?_⟩
        replace hnm := kept (u := .lst [.int x41, .int s1, .int x42]) D35.sr hnm ne_hnm
        replace PN1 := PN1.sb D35.sr (Sb.upd (o := .lst [.int x41, .int s1, .int x42]))
        replace PN2 := PN2.sb D35.sr (Sb.upd (o := .lst [.int x41, .int s1, .int x42]))
        have D48 := D35.draw (r0 := x41) h45 h46
        generalize upd G33 b (.lst [.int x41, .int s1, .int x42]) = G47 at *
        have q49 := D48.lo; have q50 := D48.hi
        clear D35
        have ne_L5 := n_ne D48.sr hp5
        have k52 := same_new (o := .lst [.int r40, .int 0, .int 200]) hp5
        have L5 := upd_same (H := G47) (a := p5) (o := .lst [.int r40, .int 0, .int 200])
        replace hnm := k52 _ _ hnm
        replace PN1 := PN1.same k52
        replace PN2 := PN2.same k52
        have D53 := D48.same k52
        generalize upd G47 p5 (.lst [.int r40, .int 0, .int 200]) = G51 at *
        clear D48
        refine ⟨_, rfl, b, x41, s1, x42, 3, rfl, D53.sr, by omega, by omega, e1, by decide, by decide, fun r54 x55 x56 h57 h58 h59 h60 => ?_⟩
        obtain ⟨w5, hw5, wa5, wb5⟩ : ∃ w, atI [V.int r40, V.int 0, V.int 200] r54 = some (.int w) ∧ 0 ≤ w ∧ w ≤ 200 := by
          rcases pick3 (x := V.int r40) (y := V.int 0) (z := V.int 200) h57 h58 with h | h | h
          · exact ⟨r40, h, h43, by omega⟩
          · exact ⟨0, h, by decide, by decide⟩
          · exact ⟨200, h, by decide, by decide⟩
        replace hnm := kept (u := .lst [.int x55, .int s1, .int x56]) D53.sr hnm ne_hnm
        replace PN1 := PN1.sb D53.sr (Sb.upd (o := .lst [.int x55, .int s1, .int x56]))
        replace PN2 := PN2.sb D53.sr (Sb.upd (o := .lst [.int x55, .int s1, .int x56]))
        replace L5 := kept (u := .lst [.int x55, .int s1, .int x56]) D53.sr L5 ne_L5
        have D62 := D53.draw (r0 := x55) h59 h60
        generalize upd G51 b (.lst [.int x55, .int s1, .int x56]) = G61 at *
        have q63 := D62.lo; have q64 := D62.hi
        clear D53
        refine ⟨p5, _, _, _, rfl, rfl, sqL_of L5, hw5, _, rfl, _, rfl, four_le, fun t ht => ?_⟩
        clear L5
        have k66 := same_new (o := .tup [.str "watch", .int w5, v1, v2]) ht
        have TW := sqT_of (K := K) (upd_same (H := G61) (a := t) (o := .tup [.str "watch", .int w5, v1, v2]))
        replace hnm := k66 _ _ hnm
        replace PN1 := PN1.same k66
        replace PN2 := PN2.same k66
        have D67 := D62.same k66
        generalize upd G61 t (.tup [.str "watch", .int w5, v1, v2]) = G65 at *
        clear D62
        refine hQ (.ref t) (.watch w5 p1 p2) _ _ _ (D67.mono (by omega)) ⟨nb0, .watch TW PN1.pv PN2.pv⟩ ⟨wa5, wb5, ok1, ok2⟩ ?_ ?_
        · show ((1 + (p1.count + p2.count) : Nat) : Int) ≤ room
          omega
        · show ((1 + max p1.deep p2.deep : Nat) : Int) ≤ levels
          omega
      by_cases c6 : r15 = 4
      · refine iteT' (decide_eq_true (by rw [c6])) ⟨_, rfl, _, _, rfl, rfl, _, rfl, iteE (decide_eq_false fun z => c5 ⟨c6, z⟩) ?_⟩
        refine ⟨_, rfl, _, rfl, b, x16, s1, x17, tries, rfl, D23.sr, by omega, by omega, e1, t0, t1, fun vu u u29 u30 G26 Dc27 UVu oku => ?_⟩
        replace hnm := Dc27.sb _ _ hnm ne_hnm
        have D28 := D23.then Dc27
        have q31 := D28.lo; have q32 := D28.hi
        obtain ⟨au, rfl, TU⟩ := UVu
        refine ⟨_, rfl, _, rfl, _, rfl, _, _, rfl, rfl, _, rfl, _, _, rfl, rfl, _, rfl, b, u29, s1, u30, nm, ns, room - 1, levels - 1, tries, rfl, D28.sr, by omega, by omega, e1, hnm, n0, n1, by omega, by omega, by omega, by omega, t0, t1, fun v1 p1 u36 u37 G33 Dc34 PN1 ok1 cp1 dp1 => ?_⟩
        replace hnm := Dc34.sb _ _ hnm ne_hnm
        replace TU := sqT_tk TU (kv_sb D28.sr Dc34.sb)
        have D35 := D28.then Dc34
        have q38 := D35.lo; have q39 := D35.hi
        replace PN1 := PN1.from (H := G33) nb0 D28.sb
        refine ⟨one_le, fun tx htx => ?_⟩
        have k41 := same_new (o := .tup [v1]) htx
        have TX := sqT_of (K := K) (upd_same (H := G33) (a := tx) (o := .tup [v1]))
        replace hnm := k41 _ _ hnm
        replace TU := Q7.sqT_same k41 TU
        replace PN1 := PN1.same k41
        have D42 := D35.same k41
        generalize upd G33 tx (.tup [v1]) = G40 at *
        clear D35
        have ul := (uw_len u).2
        refine ⟨au, tx, _, _, rfl, rfl, TU, TX, by simp only [List.length_cons, List.length_map, List.length_nil]; omega, (fun e => by cases e), (fun _ e => by cases e), fun _ _ t ht => ?_⟩
        have k44 := same_new (o := .tup (.str u.word :: u.nums.map V.int ++ [v1])) ht
        have TT := sqT_of (K := K) (upd_same (H := G40) (a := t) (o := .tup (.str u.word :: u.nums.map V.int ++ [v1])))
        replace hnm := k44 _ _ hnm
        replace TU := Q7.sqT_same k44 TU
        replace PN1 := PN1.same k44
        replace TX := Q7.sqT_same k44 TX
        have D45 := D42.same k44
        generalize upd G40 t (.tup (.str u.word :: u.nums.map V.int ++ [v1])) = G43 at *
        clear D42
        refine hQ (.ref t) (.one u p1) _ _ _ (D45.mono (by omega)) ⟨nb0, .one TT PN1.pv⟩ ⟨oku, ok1⟩ ?_ ?_
        · show ((1 + p1.count : Nat) : Int) ≤ room
          omega
        · show ((1 + p1.deep : Nat) : Int) ≤ levels
          omega
      · refine iteE (decide_eq_false fun z => c6 (by cases z; rfl)) ?_
        refine ⟨_, rfl, _, rfl, b, x16, s1, x17, tries, rfl, D23.sr, by omega, by omega, e1, t0, t1, fun vu u u29 u30 G26 Dc27 UVu oku => ?_⟩
        replace hnm := Dc27.sb _ _ hnm ne_hnm
        have D28 := D23.then Dc27
        have q31 := D28.lo; have q32 := D28.hi
        obtain ⟨au, rfl, TU⟩ := UVu
        refine ⟨_, rfl, _, rfl, _, rfl, _, _, rfl, rfl, _, rfl, _, _, rfl, rfl, _, rfl, b, u29, s1, u30, nm, ns, room - 1, levels - 1, tries, rfl, D28.sr, by omega, by omega, e1, hnm, n0, n1, by omega, by omega, by omega, by omega, t0, t1, fun v1 p1 u36 u37 G33 Dc34 PN1 ok1 cp1 dp1 => ?_⟩
        replace hnm := Dc34.sb _ _ hnm ne_hnm
        replace TU := sqT_tk TU (kv_sb D28.sr Dc34.sb)
        have D35 := D28.then Dc34
        have q38 := D35.lo; have q39 := D35.hi
        replace PN1 := PN1.from (H := G33) nb0 D28.sb
        refine ⟨one_le, fun tx htx => ?_⟩
        have k41 := same_new (o := .tup [v1]) htx
        have TX := sqT_of (K := K) (upd_same (H := G33) (a := tx) (o := .tup [v1]))
        replace hnm := k41 _ _ hnm
        replace TU := Q7.sqT_same k41 TU
        replace PN1 := PN1.same k41
        have D42 := D35.same k41
        generalize upd G33 tx (.tup [v1]) = G40 at *
        clear D35
        have ul := (uw_len u).2
        refine ⟨au, tx, _, _, rfl, rfl, TU, TX, by simp only [List.length_cons, List.length_map, List.length_nil]; omega, (fun e => by cases e), (fun _ e => by cases e), fun _ _ t ht => ?_⟩
        have k44 := same_new (o := .tup (.str u.word :: u.nums.map V.int ++ [v1])) ht
        have TT := sqT_of (K := K) (upd_same (H := G40) (a := t) (o := .tup (.str u.word :: u.nums.map V.int ++ [v1])))
        replace hnm := k44 _ _ hnm
        replace TU := Q7.sqT_same k44 TU
        replace PN1 := PN1.same k44
        replace TX := Q7.sqT_same k44 TX
        have D45 := D42.same k44
        generalize upd G40 t (.tup (.str u.word :: u.nums.map V.int ++ [v1])) = G43 at *
        clear D42
        refine hQ (.ref t) (.one u p1) _ _ _ (D45.mono (by omega)) ⟨nb0, .one TT PN1.pv⟩ ⟨oku, ok1⟩ ?_ ?_
        · show ((1 + p1.count : Nat) : Int) ≤ room
          omega
        · show ((1 + p1.deep : Nat) : Int) ≤ levels
          omega
end
end L10
set_option maxRecDepth 100000
set_option maxHeartbeats 4000000
namespace L10
open PySem PySem.Spec PyProof.Rows L2 Q7
section
variable {P : Program} {w : World} {K : PySem.W.Frag} {mg : Str → Option Value} {base : Heap}
/-! ### a plan is drawn; what stands in it -/
def spDrawn (K : PySem.W.Frag) : Sp := fun vs H Q _ => ∃ b s0 s1 s2 nm ns tries, vs = [.ref b, .ref nm, .int tries] ∧ SrcAt H b s0 s1 s2 ∧ 0 ≤ s2 ∧ s2 < 2 ^ 36 ∧ s1.natAbs < 2 ^ 150 ∧
  H nm = some (.lst (ns.map V.str)) ∧ 1 ≤ ns.length ∧ ns.length ≤ 12 ∧ 1 ≤ tries ∧ tries ≤ 20 ∧
  ∀ v p u0 u2 H', Dr b s1 s2 1700 H H' u0 u2 → PlanN K H b H' v p → p.ok ns → p.count ≤ 40 → p.deep ≤ 8 → Q v H'
theorem ok__law_drawn (T : Txt w K mg) : FnOk P w K mg base CX0 12 (He.ga K "_law_drawn") T.fd__law_drawn ["source", "names", "tries"] (spDrawn K) := by
  refine T.F__law_drawn.ok sc__law_drawn (fun vs H Q E h => ?_) (fun cdv A outer s H vs Q E hr h => ⟨_, PSs.nox
    (pss_cons (ps_asg (pe_ix ix_list (pe_lst (pa_cons (pe_tup (pa_cons pe_int (pa_cons pe_int pa_nil))) (pa_cons (pe_tup (pa_cons pe_int (pa_cons pe_int pa_nil))) (pa_cons (pe_tup (pa_cons pe_int (pa_cons pe_int pa_nil))) pa_nil)))) (pe_call (ok__law_draw T) (hr.mono (by decide)) (by rfl) T.g__law_draw T.F__law_draw.kp T.b__law_draw .nil pass0 (pa_cons (pv 0) (pa_cons pe_int pa_nil))) (fun _ _ => rfl)) (pg_tup rfl (pgs_cons (pg_name (i := 3) sc__law_drawn.nd rfl (.inl rfl)) (pgs_cons (pg_name (i := 4) sc__law_drawn.nd rfl (.inl rfl)) pgs_nil))))
      (pss_one (ps_ret (pe_call (ok__law_plan T 8) (hr.mono (by decide)) (by rfl) T.g__law_plan T.F__law_plan.kp T.b__law_plan .nil pass0 (pa_cons (pv 0) (pa_cons (pv 1) (pa_cons (pv 3) (pa_cons (pv 4) (pa_cons (pv 2) pa_nil))))))))), ?_⟩)
  · obtain ⟨b, s0, s1, s2, nm, ns, tries, rfl, _⟩ := h
    rfl
  · obtain ⟨b, s0, s1, s2, nm, ns, tries, rfl, hs, d0, d1, e1, hnm, n0, n1, t0, t1, hQ⟩ := h
    have l64 := line64
    have nb0 : ∃ o, H b = some o := ⟨_, hs⟩
    have ne_hnm := nm_ne hs hnm n0
    have D0 := Dr.start hs
    have q0 := D0.lo
    refine ⟨two_le, fun a1 ha1 => ⟨two_le, fun a2 ha2 => ⟨two_le, fun a3 ha3 => ⟨three_le, fun l1 hl1 => ?_⟩⟩⟩⟩
    have k2 := same_new (o := .tup [.int 6, .int 4]) ha1
    have A1 := sqT_of (K := K) (upd_same (H := H) (a := a1) (o := .tup [.int 6, .int 4]))
    replace hnm := k2 _ _ hnm
    have D3 := D0.same k2
    generalize upd H a1 (.tup [.int 6, .int 4]) = G1 at *
    clear D0
    have k5 := same_new (o := .tup [.int 40, .int 8]) ha2
    have A2 := sqT_of (K := K) (upd_same (H := G1) (a := a2) (o := .tup [.int 40, .int 8]))
    replace hnm := k5 _ _ hnm
    replace A1 := Q7.sqT_same k5 A1
    have D6 := D3.same k5
    generalize upd G1 a2 (.tup [.int 40, .int 8]) = G4 at *
    clear D3
    have k8 := same_new (o := .tup [.int 40, .int 8]) ha3
    have A3 := sqT_of (K := K) (upd_same (H := G4) (a := a3) (o := .tup [.int 40, .int 8]))
    replace hnm := k8 _ _ hnm
    replace A1 := Q7.sqT_same k8 A1
    replace A2 := Q7.sqT_same k8 A2
    have D9 := D6.same k8
    generalize upd G4 a3 (.tup [.int 40, .int 8]) = G7 at *
    clear D6
    have ne_L1 := n_ne D9.sr hl1
    have k11 := same_new (o := .lst [.ref a1, .ref a2, .ref a3]) hl1
    have L1 := upd_same (H := G7) (a := l1) (o := .lst [.ref a1, .ref a2, .ref a3])
    replace hnm := k11 _ _ hnm
    replace A1 := Q7.sqT_same k11 A1
    replace A2 := Q7.sqT_same k11 A2
    replace A3 := Q7.sqT_same k11 A3
    have D12 := D9.same k11
    generalize upd G7 l1 (.lst [.ref a1, .ref a2, .ref a3]) = G10 at *
    clear D9
    refine ⟨_, rfl, b, s0, s1, s2, 3, rfl, D12.sr, by omega, by omega, e1, by decide, by decide, fun r13 x14 x15 h16 h17 h18 h19 => ?_⟩
    replace hnm := kept (u := .lst [.int x14, .int s1, .int x15]) D12.sr hnm ne_hnm
    replace A1 := sqT_tk A1 (kv_sb D12.sr (Sb.upd (o := .lst [.int x14, .int s1, .int x15])))
    replace A2 := sqT_tk A2 (kv_sb D12.sr (Sb.upd (o := .lst [.int x14, .int s1, .int x15])))
    replace A3 := sqT_tk A3 (kv_sb D12.sr (Sb.upd (o := .lst [.int x14, .int s1, .int x15])))
    replace L1 := kept (u := .lst [.int x14, .int s1, .int x15]) D12.sr L1 ne_L1
    have D21 := D12.draw (r0 := x14) h18 h19
    generalize upd G10 b (.lst [.int x14, .int s1, .int x15]) = G20 at *
    have q22 := D21.lo; have q23 := D21.hi
    clear D12
    obtain ⟨at', room, levels, hat, Sat, r0, r1, v0, v1⟩ : ∃ (a : Addr) (room levels : Int), atI [V.ref a1, V.ref a2, V.ref a3] r13 = some (.ref a) ∧ SqT K G20 a [.int room, .int levels] ∧ 1 ≤ room ∧ room ≤ 40 ∧ 1 ≤ levels ∧ levels ≤ 8 := by
      rcases pick3 (x := V.ref a1) (y := V.ref a2) (z := V.ref a3) h16 h17 with h | h | h
      · exact ⟨a1, 6, 4, h, A1, by decide, by decide, by decide, by decide⟩
      · exact ⟨a2, 40, 8, h, A2, by decide, by decide, by decide, by decide⟩
      · exact ⟨a3, 40, 8, h, A3, by decide, by decide, by decide, by decide⟩
    refine ⟨l1, _, _, _, rfl, rfl, sqL_of L1, hat, ?_⟩
    refine ⟨at', _, rfl, Sat, rfl, _, _, rfl, _, _, rfl, rfl, ?_⟩
    refine ⟨_, rfl, _, rfl, _, rfl, _, rfl, _, rfl, b, x14, s1, x15, nm, ns, room, levels, tries, rfl, D21.sr, by omega, by omega, e1, hnm, n0, n1, r0, r1, v0, by omega, t0, t1, fun v p u27 u28 G24 Dc25 PN okp cp dp => ?_⟩
    replace hnm := Dc25.sb _ _ hnm ne_hnm
    replace A1 := sqT_tk A1 (kv_sb D21.sr Dc25.sb)
    replace A2 := sqT_tk A2 (kv_sb D21.sr Dc25.sb)
    replace A3 := sqT_tk A3 (kv_sb D21.sr Dc25.sb)
    replace L1 := Dc25.sb _ _ L1 ne_L1
    have D26 := D21.then Dc25
    have q29 := D26.lo; have q30 := D26.hi
    exact hQ v p _ _ _ (D26.mono (by omega)) (PN.from nb0 D21.sb) okp (by omega) (by omega)
theorem uw_watch' (u : UW) : decide (V.str u.word = V.str "watch") = false := uw_cases (P := fun x => decide (V.str x = V.str "watch") = false) u (by decide +kernel) (by decide +kernel) (by decide +kernel) (by decide +kernel) (by decide +kernel) (by decide +kernel)
theorem ok__law_inner (T : Txt w K mg) : FnOk P w K mg base CX0 1 (He.ga K "_law_inner") T.fd__law_inner ["tree"] (spSteps K) := by
  refine T.F__law_inner.ok sc__law_inner (fun vs H Q E h => ?_) (fun cdv A outer s H vs Q E hr h => ⟨_, PSs.nox
    (pss_cons (ps_if (pt_cmpR op_eq (pe_ix ix_tup (pv 0) pe_int (fun _ _ => rfl)) pe_str (nomark _)) (pss_one (ps_ret (pe_lst pa_nil))) pss_nil)
      (pss_cons (ps_if (pt_cmpR op_in_seq (pe_ix ix_tup (pv 0) pe_int (fun _ _ => rfl)) (pe_tup (pa_cons pe_str (pa_cons pe_str (pa_cons pe_str (pa_cons pe_str pa_nil))))) rfl) (pss_one (ps_ret (pe_lc (own := [("k", 1), ("part", 2)]) rfl sc__law_inner.nd (pi_enum (by rfl) T.m_enumerate (pa_cons (pe_ix ix_tup (pv 0) pe_int (fun _ _ => rfl)) pa_nil)) (blkOk_by (N := ["tree", "k", "part"]) (sc := defScope s__law_inner) (by decide +kernel)) (fun _ _ _ _ _ => (show PG _ _ (gTup K 2 (gCons (gName 1) (gCons (gName 2) gNil))) from pg_tup rfl (pgs_cons (pg_name (i := 1) sc__law_inner.nd rfl (.inl rfl) (hf := .inr rfl)) (pgs_cons (pg_name (i := 2) sc__law_inner.nd rfl (.inl rfl) (hf := .inr rfl)) pgs_nil)))) (fun _ _ _ _ _ => pts_nil) (fun _ _ _ _ _ => (pe_tup (pa_cons (pe_tup (pa_cons (pv 1) pa_nil)) (pa_cons (pv 2) pa_nil))))))) pss_nil)
      (pss_cons (ps_if (pt_cmpR op_eq (pe_ix ix_tup (pv 0) pe_int (fun _ _ => rfl)) pe_str (nomark _)) (pss_one (ps_ret (pe_lst (pa_cons (pe_tup (pa_cons (pe_tup (pa_cons pe_int pa_nil)) (pa_cons (pe_ix ix_tup (pv 0) pe_int (fun _ _ => rfl)) pa_nil))) (pa_cons (pe_tup (pa_cons (pe_tup (pa_cons pe_int pa_nil)) (pa_cons (pe_ix ix_tup (pv 0) pe_int (fun _ _ => rfl)) pa_nil))) pa_nil))))) pss_nil)
      (pss_one (ps_ret (pe_lst (pa_cons (pe_tup (pa_cons (pe_ifExp (pt_cmpR op_eq (pe_ix ix_tup (pv 0) pe_int (fun _ _ => rfl)) pe_str (nomark _)) (pe_tup (pa_cons pe_int pa_nil)) (pe_tup pa_nil)) (pa_cons (pe_ix ix_tup (pv 0) (pe_un un_neg pe_int) (fun _ _ => rfl)) pa_nil))) pa_nil))))))), ?_⟩)
  · obtain ⟨v, p, N, H0, rfl, _⟩ := h
    rfl
  · obtain ⟨v, p, N, H0, rfl, s0, PV, cnt, hQ⟩ := h
    have l64 := line64
    cases PV with
    | @task a n S0 =>
      have S := Q7.sqT_same s0 S0
      refine ⟨_, rfl, a, _, 0, _, rfl, rfl, S, at0, rfl, _, rfl, iteT' (by decide +kernel) ?_⟩
      exact ⟨Nat.zero_le _, fun l hl => hQ l [] _ (same_new hl) hl upd_same .nil⟩
    | @many a l wd xs ps S0 n L0 P =>
      have S := Q7.sqT_same s0 S0
      have L := s0 _ _ L0
      refine ⟨_, rfl, a, _, 0, _, rfl, rfl, S, at0, rfl, _, rfl, iteE (lw_task wd) ?_⟩
      refine ⟨_, rfl, a, _, 0, _, rfl, rfl, S, at0, four_le, fun w1 hw1 => ⟨w1, _, rfl, .inr (sqT_of upd_same), rfl, by decide, _, rfl, iteT' (lw_in wd) ?_⟩⟩
      have k0 := same_new (o := .tup [.str "order", .str "other", .str "both", .str "race"]) hw1
      generalize upd H w1 (.tup [.str "order", .str "other", .str "both", .str "race"]) = Hb at *
      refine ⟨_, rfl, a, _, 1, _, rfl, rfl, Q7.sqT_same k0 S, at1, l, xs, rfl, sqL_of (k0 _ _ L), fun D hD => ?_⟩
      have xl := planVs_len P
      have kl := kids_len (.many wd ps)
      refine lc_it (walk_enum (K := K) (a := l) (xs := xs)) (fun i H' => Same Hb H' ∧ ∃ zs, H' D = some (.lst zs) ∧ Paired (StepB K H0 H' N) zs (ps.list.take i)) ⟨same_new hD, [], upd_same, .nil⟩ (fun i H' _ r => sqL_of (r.1 _ _ (k0 _ _ L))) ?_ ?_
      · rintro i v H' H'' hi ⟨sm, zs, hd, PP⟩ ⟨TT, x, y, rfl, hT, rfl, hx, hy⟩
        cases hx
        obtain ⟨p, hp, Py⟩ := planVs_get P hy
        refine ⟨TT, _, rfl, sqT_of upd_same, rfl, _, _, rfl, _, _, rfl, rfl, rfl, ?_⟩
        have k1 := same_new (o := .tup [.int (i : Nat), y]) hT
        generalize upd H' TT (.tup [.int (i : Nat), y]) = H1 at *
        refine ⟨_, rfl, one_le, fun st hst => ⟨_, rfl, two_le, fun q hq => ?_⟩⟩
        have S2 := upd_same (H := H1) (a := st) (o := .tup [.int (i : Nat)])
        have k2 := k1.trans (same_new (o := .tup [.int (i : Nat)]) hst)
        generalize upd H1 st (.tup [.int (i : Nat)]) = H2 at *
        have S3 := upd_same (H := H2) (a := q) (o := .tup [.ref st, y])
        have k2' := same_new (o := .tup [.ref st, y]) hq
        have k3 := k2.trans k2'
        generalize upd H2 q (.tup [.ref st, y]) = H3 at *
        have zl := pLen PP
        have hd3 := k3 _ _ hd
        have tk : TK H3 (upd H3 D (.lst (zs ++ [.ref q]))) := tk_lst hd3
        refine ⟨zs, hd3, by rw [zl, List.length_take]; have : (PlanD.many wd ps).kids = ps.list := rfl; rw [this] at kl; omega, same_mut (sm.trans k3) hD, _, upd_same, ?_⟩
        rw [List.take_succ, hp]
        exact pApp (pImp (fun _ _ z => stepB_tk z ((same_tk k3).trans tk)) PP) (.cons (stepB_tk ⟨q, st, y, _, rfl, sqT_of S3, sqT_of (k2' _ _ S2), Nat.le_refl _, Py⟩ tk) .nil)
      · rintro H' ⟨sm, zs, hd, PP⟩
        rw [xl, List.take_length] at PP
        exact hQ D zs H' (k0.trans sm) (none_same k0 hD) hd PP
    | @one a u x p S0 P =>
      have S := Q7.sqT_same s0 S0
      refine ⟨_, rfl, a, _, 0, _, rfl, rfl, S, at0, rfl, _, rfl, iteE (uw_task u) ?_⟩
      refine ⟨_, rfl, a, _, 0, _, rfl, rfl, S, at0, four_le, fun w1 hw1 => ⟨w1, _, rfl, .inr (sqT_of upd_same), rfl, by decide, _, rfl, iteE (uw_in u) ?_⟩⟩
      have k0 := same_new (o := .tup [.str "order", .str "other", .str "both", .str "race"]) hw1
      generalize upd H w1 (.tup [.str "order", .str "other", .str "both", .str "race"]) = Hb at *
      replace S := Q7.sqT_same k0 S
      refine ⟨_, rfl, a, _, 0, _, rfl, rfl, S, at0, rfl, _, rfl, iteE (uw_watch' u) ?_⟩
      have fin : ∀ (st q l : Addr) (ks : List V) (H1 H2 H3 : Hp), ks.length ≤ 1 → Same H H1 → H1 st = none → H2 = upd H1 st (.tup ks) → H2 q = none → H3 = upd H2 q (.tup [.ref st, x]) → H3 l = none → Q (.ref l) (upd H3 l (.lst [.ref q])) := fun st q l ks H1 H2 H3 kl z0 h1 e2 h2 e3 h3 => by
        subst e2
        subst e3
        have s1 := same_new (o := .tup ks) h1
        have s2 := same_new (o := .tup [.ref st, x]) h2
        have s3 := same_new (o := .lst [.ref q]) h3
        refine hQ l [.ref q] _ (((z0.trans s1).trans s2).trans s3) (none_same ((z0.trans s1).trans s2) h3) upd_same (.cons ⟨q, st, x, ks, rfl, sqT_of (s3 _ _ upd_same), sqT_of (s3 _ _ (s2 _ _ upd_same)), kl, P⟩ .nil)
      refine ⟨_, rfl, a, _, 0, _, rfl, rfl, S, at0, rfl, _, rfl, ?_⟩
      by_cases hu : decide (V.str u.word = V.str "again") = true
      · refine iteT' hu ⟨one_le, fun st hst => ?_⟩
        refine ⟨_, rfl, _, rfl, a, _, _, _, rfl, rfl, Q7.sqT_same (same_new hst) S, at_last _ _ _, two_le, fun q hq => ⟨one_le, fun l hl => ?_⟩⟩
        exact fin st q l [.int 0] Hb _ _ (Nat.le_refl _) k0 hst rfl hq rfl hl
      · refine iteE (by simpa using hu) ⟨Nat.zero_le _, fun st hst => ?_⟩
        refine ⟨_, rfl, _, rfl, a, _, _, _, rfl, rfl, Q7.sqT_same (same_new hst) S, at_last _ _ _, two_le, fun q hq => ⟨one_le, fun l hl => ?_⟩⟩
        exact fin st q l [] Hb _ _ (Nat.zero_le _) k0 hst rfl hq rfl hl
    | @watch a l x y s p S0 P1 P2 =>
      have S := Q7.sqT_same s0 S0
      refine ⟨_, rfl, a, _, 0, _, rfl, rfl, S, at0, rfl, _, rfl, iteE (by decide +kernel) ?_⟩
      refine ⟨_, rfl, a, _, 0, _, rfl, rfl, S, at0, four_le, fun w1 hw1 => ⟨w1, _, rfl, .inr (sqT_of upd_same), rfl, by decide, _, rfl, iteE (by decide +kernel) ?_⟩⟩
      have k0 := same_new (o := .tup [.str "order", .str "other", .str "both", .str "race"]) hw1
      generalize upd H w1 (.tup [.str "order", .str "other", .str "both", .str "race"]) = Hb at *
      replace S := Q7.sqT_same k0 S
      refine ⟨_, rfl, a, _, 0, _, rfl, rfl, S, at0, rfl, _, rfl, iteT' (by decide +kernel) ?_⟩
      refine ⟨one_le, fun st hst => ⟨_, rfl, a, _, 2, _, rfl, rfl, Q7.sqT_same (same_new hst) S, at2, two_le, fun q hq => ?_⟩⟩
      have s1 := same_new (o := .tup [.int 0]) hst
      have A1 := upd_same (H := Hb) (a := st) (o := .tup [.int 0])
      generalize upd Hb st (.tup [.int 0]) = H1 at *
      have s2 := same_new (o := .tup [.ref st, x]) hq
      have A2 := upd_same (H := H1) (a := q) (o := .tup [.ref st, x])
      generalize upd H1 q (.tup [.ref st, x]) = H2 at *
      have s12 := s1.trans s2
      refine ⟨one_le, fun st2 hst2 => ⟨_, rfl, a, _, 3, _, rfl, rfl, Q7.sqT_same (s12.trans (same_new hst2)) S, at3, two_le, fun q2 hq2 => ?_⟩⟩
      have s3 := same_new (o := .tup [.int 1]) hst2
      have A3 := upd_same (H := H2) (a := st2) (o := .tup [.int 1])
      generalize upd H2 st2 (.tup [.int 1]) = H3 at *
      have s4 := same_new (o := .tup [.ref st2, y]) hq2
      have A4 := upd_same (H := H3) (a := q2) (o := .tup [.ref st2, y])
      generalize upd H3 q2 (.tup [.ref st2, y]) = H4 at *
      refine ⟨two_le, fun l' hl => ?_⟩
      have s5 := same_new (o := .lst [.ref q, .ref q2]) hl
      have s34 := s3.trans s4
      have sA := k0.trans ((s12.trans s34).trans s5)
      exact hQ l' _ _ sA (none_same (k0.trans (s12.trans s34)) hl) upd_same (.cons ⟨q, st, x, _, rfl, sqT_of (s5 _ _ (s34 _ _ A2)), sqT_of (s5 _ _ (s34 _ _ (s2 _ _ A1))), Nat.le_refl _, P1⟩ (.cons ⟨q2, st2, y, _, rfl, sqT_of (s5 _ _ A4), sqT_of (s5 _ _ (s4 _ _ A3)), Nat.le_refl _, P2⟩ .nil))
end
end L10
set_option maxRecDepth 100000
set_option maxHeartbeats 4000000
namespace L10
open PySem PySem.Spec PyProof.Rows L2 Q7
section
variable {P : Program} {w : World} {K : PySem.W.Frag} {mg : Str → Option Value} {base : Heap}
/-! ### the law's size -/
theorem sum_nonneg {f : PlanD → Int} : ∀ {ps : List PlanD}, (∀ q ∈ ps, 0 ≤ f q) → 0 ≤ (ps.map f).sum
  | [], _ => Int.le_refl _
  | q :: r, h => by
    have h1 := h q List.mem_cons_self
    have h2 := sum_nonneg (f := f) (ps := r) fun x hx => h x (List.mem_cons_of_mem _ hx)
    rw [List.map_cons, List.sum_cons]
    omega
theorem ok__law_size (T : Txt w K mg) : ∀ d, FnOk P w K mg base CX0 (d + 2) (He.ga K "_law_size") T.fd__law_size ["tree"] (spSize K d)
  | 0 => ⟨fun vs H Q E h => by
      obtain ⟨v, p, N, H0, ns, rfl, _⟩ := h
      rfl, fun A outer s H args us vs Q E hr e0 hb hv h => by
      obtain ⟨v, p, N, H0, ns, rfl, _, _, _, _, dp, _⟩ := h
      have := p.deep_pos
      omega⟩
  | d + 1 => by
    have ih := ok__law_size T d
    refine T.F__law_size.ok sc__law_size (fun vs H Q E h => ?_) (fun cdv A outer s H vs Q E hr h => ⟨_, PSs.nox
      (pss_cons (ps_set (i := 1) sc__law_size.nd rfl (.inl rfl) (pe_callB (cr_sum rfl) (by rfl) T.m_sum (by decide +kernel) (pa_cons (pe_lc (own := [("step", 2), ("part", 3)]) rfl sc__law_size.nd (pi_list (pe_call (ok__law_inner T) (hr.mono (by omega)) (by rfl) T.g__law_inner T.F__law_inner.kp T.b__law_inner .nil pass0 (pa_cons (pv 0) pa_nil))) (blkOk_by (N := ["tree", "total", "step", "part"]) (sc := defScope s__law_size) (by decide +kernel)) (fun _ _ _ _ _ => (show PG _ _ (gTup K 2 (gCons (gName 2) (gCons (gName 3) gNil))) from pg_tup rfl (pgs_cons (pg_name (i := 2) sc__law_size.nd rfl (.inl rfl) (hf := .inr rfl)) (pgs_cons (pg_name (i := 3) sc__law_size.nd rfl (.inl rfl) (hf := .inr rfl)) pgs_nil)))) (fun _ _ _ _ _ => pts_nil) (fun _ _ _ _ _ => (pe_call ih (hr.mono (by omega)) (by rfl) T.g__law_size T.F__law_size.kp T.b__law_size .nil pass0 (pa_cons (pv 3) pa_nil)))) pa_nil)))
      (pss_one (ps_ret (pe_op op_add pe_int (pe_op op_mulW (pv 1) (pe_ifExp (pt_cmpR op_eq (pe_ix ix_tup (pv 0) pe_int (fun _ _ => rfl)) pe_str (nomark _)) (pe_ix ix_tup (pv 0) pe_int (fun _ _ => rfl)) pe_int)))))), ?_⟩)
    · obtain ⟨v, p, N, H0, ns, rfl, _⟩ := h
      rfl
    · obtain ⟨v, p, N, H0, ns, rfl, s0, PV, ok, cnt, dp, d9, hQ⟩ := h
      have l64 := line64
      obtain ⟨z0, z1⟩ := size_le ok
      have zb := pow_big cnt d9
      refine ⟨_, rfl, v, p, N, H0, rfl, s0, PV, cnt, fun l xs H1 s1 hl hxs P1 => ⟨l, rfl, ⟨_, sqL_of hxs⟩, fun D hD => ?_⟩⟩
      have xl : xs.length = p.kids.length := pLen P1
      have kn := kids_len p
      refine lc_list (xs := xs) (fun i H' => Same H1 H' ∧ H' D = some (.lst (((p.kids.take i).map PlanD.size).map V.int))) ⟨same_new hD, upd_same⟩ (fun i H' _ r => sqL_of (r.1 _ _ hxs)) ?_ ?_
      · rintro i v' H' hv ⟨sm, hd⟩
        obtain ⟨c, hc, a', st, y, js, rfl, A1, A2, jl, PY⟩ := pGet P1 hv
        have hi := (List.getElem?_eq_some_iff.mp hv).1
        have hcm := List.mem_of_getElem? hc
        have dc := PlanD.deep_kid hcm
        have cc := count_kid hcm
        have A1' := Q7.sqT_same sm A1
        refine ⟨a', _, rfl, A1', rfl, _, _, rfl, _, _, rfl, rfl, rfl, ?_⟩
        refine ⟨_, rfl, y, c, N, H0, ns, rfl, (s0.trans s1).trans sm, PY, PlanD.ok_kid ok hcm, by omega, by omega, by omega, fun H4 s4 => ?_⟩
        refine ⟨_, s4 _ _ hd, by rw [List.length_map, List.length_map, List.length_take]; omega, same_mut (sm.trans s4) hD, ?_⟩
        rw [upd_same, List.take_succ, hc, List.map_append, List.map_append]
        rfl
      · rintro H4 ⟨sm, hd⟩
        rw [xl, List.take_length] at hd
        have sQ := s1.trans sm
        obtain ⟨a, x, rest, rfl, S0, hc⟩ := planV_head PV
        have S := Q7.sqT_same (s0.trans sQ) S0
        refine ⟨D, _, rfl, sqL_of hd, _, rfl, _, rfl, a, _, 0, _, rfl, rfl, S, at0, rfl, _, rfl, ?_⟩
        rcases hc with ⟨rfl, n, d', q, z, rfl, rfl, Pz⟩ | ⟨hx, hp⟩
        · have hd2 : q.deep < PlanD.deep (.one (.again n d') q) := PlanD.deep_kid (List.mem_singleton.mpr rfl)
          have hcq : q.count < PlanD.count (.one (.again n d') q) := count_kid (List.mem_singleton.mpr rfl)
          have hr1 := ok.1 (n, (1, 20)) (by simp [UW.nums, UW.bounds])
          have n0 : 1 ≤ n := hr1.1
          have n1 : n ≤ 20 := hr1.2
          obtain ⟨y0, y1⟩ := size_le ok.2
          have yb := pow_big (p := q) (by omega) (by omega)
          have e1 : ((PlanD.kids (.one (.again n d') q)).map PlanD.size).sum = q.size := by
            show q.size + 0 = q.size
            omega
          refine iteT' (decide_eq_true rfl) ⟨_, rfl, a, _, 1, _, rfl, rfl, S, at1, _, _, rfl, rfl, ?_, _, _, rfl, rfl, ?_⟩
          · rw [e1]
            exact mulW (small_BN y0 (by omega)) (small_BN (by omega) (by omega))
          · have h := hQ _ sQ
            have e2 : PlanD.size (.one (.again n d') q) = 1 + ((PlanD.kids (.one (.again n d') q)).map PlanD.size).sum * n := by
              rw [e1, Int.mul_comm]
              rfl
            rw [e2] at h
            exact h
        · have e := size_kids p hp
          have sn := sum_nonneg (f := PlanD.size) (ps := p.kids) fun q hq => (size_le (PlanD.ok_kid ok hq)).1
          refine iteE hx ⟨_, _, rfl, rfl, mulW (small_BN (x := (p.kids.map PlanD.size).sum) sn (by omega)) (small_BN (by decide) (by decide)), _, _, rfl, rfl, ?_⟩
          have h := hQ _ sQ
          rw [e] at h
          dsimp only
          rw [Int.mul_one]
          exact h
end
end L10
set_option maxRecDepth 100000
set_option maxHeartbeats 4000000
namespace L10
open PySem PySem.Spec PyProof.Rows L2 Q7
section
variable {P : Program} {w : World} {K : PySem.W.Frag} {mg : Str → Option Value} {base : Heap}
/-! ### the law's span -/
theorem last_max {t : TaskD} (g : GoodT t) {m : Int} (h1 : m ∈ t.ends.map (·.1)) (h2 : ∀ y, y ∈ t.ends.map (·.1) → y ≤ m) : ∀ e, t.ends.getLast? = some e → e.1 = m := fun e he => by
  have hm : e ∈ t.ends := List.mem_of_getLast? he
  have a := h2 e.1 (List.mem_map.mpr ⟨e, hm, rfl⟩)
  obtain ⟨e', he', rfl⟩ := List.mem_map.mp h1
  have b : endK e' ≤ endK e := by
    obtain ⟨k, hk, e2⟩ := List.getElem_of_mem he'
    rw [List.getLast?_eq_getElem?] at he
    obtain ⟨hl, e3⟩ := List.getElem?_eq_some_iff.mp he
    by_cases c : k < t.ends.length - 1
    · have := List.pairwise_iff_getElem.mp g.asc k (t.ends.length - 1) (by rw [List.length_map]; exact hk) (by rw [List.length_map]; exact hl) c
      simp only [List.getElem_map, e2, e3] at this
      omega
    · have : k = t.ends.length - 1 := by omega
      subst this
      rw [e2] at e3
      rw [e3]
      exact Int.le_refl _
  unfold endK at b
  split at b <;> split at b <;> omega
theorem planV_shape {H : Hp} {N : Addr → Prop} {v : V} {p : PlanD} (h : PlanV K H N v p) : ∃ a x rest, v = .ref a ∧ SqT K H a (.str x :: rest) ∧
    ((x = "task" ∧ ∃ n, p = .task n ∧ rest = [.str n]) ∨ (∃ w l ps, p = .many w ps ∧ x = w.word ∧ rest = [.ref l]) ∨ (∃ u z q, p = .one u q ∧ x = u.word ∧ rest = u.nums.map V.int ++ [z]) ∨ (x = "watch" ∧ ∃ l y z s q, p = .watch l s q ∧ rest = [.int l, y, z])) := by
  cases h with
  | @task a n S => exact ⟨a, "task", _, rfl, S, .inl ⟨rfl, n, rfl, rfl⟩⟩
  | @many a l wd xs ps S n L P => exact ⟨a, wd.word, _, rfl, S, .inr (.inl ⟨wd, l, ps, rfl, rfl, rfl⟩)⟩
  | @one a u x p S P => exact ⟨a, u.word, _, rfl, S, .inr (.inr (.inl ⟨u, x, p, rfl, rfl, rfl⟩))⟩
  | @watch a l x y s p S P1 P2 => exact ⟨a, "watch", _, rfl, S, .inr (.inr (.inr ⟨rfl, l, x, y, s, p, rfl, rfl⟩))⟩
theorem spanM_all {t : Str → Int} {ps : PlanL} (h0 : ∀ q ∈ ps.list, 0 ≤ q.span t) {m : Int} (h1 : m ∈ ps.list.map (PlanD.span t) ++ [0]) (h2 : ∀ y ∈ ps.list.map (PlanD.span t) ++ [0], y ≤ m) : ps.spanM t = m := by
  obtain ⟨i1, i2⟩ := spanM_max h0
  have m0 : 0 ≤ m := h2 0 (List.mem_append_right _ (List.mem_singleton.mpr rfl))
  rcases List.mem_append.mp h1 with h | h
  · exact i2 m h fun y hy => h2 y (List.mem_append_left _ hy)
  · have e := List.mem_singleton.mp h
    subst e
    by_cases hl : ps.list = []
    · exact i1 hl
    · obtain ⟨q, r, e⟩ := List.exists_cons_of_ne_nil hl
      have hq : q ∈ ps.list := by rw [e]; exact List.mem_cons_self
      have hz : q.span t = 0 := by
        have := h0 q hq
        have := h2 (q.span t) (List.mem_append_left _ (List.mem_map.mpr ⟨q, hq, rfl⟩))
        omega
      exact i2 0 (List.mem_map.mpr ⟨q, hq, hz⟩) fun y hy => h2 y (List.mem_append_left _ hy)
theorem ok__law_span (T : Txt w K mg) : ∀ d, FnOk P w K mg base CX0 (d + 2) (He.ga K "_law_span") T.fd__law_span ["some", "tree"] (spSpan K d)
  | 0 => ⟨fun vs H Q E h => by
      obtain ⟨td, v, p, N, H0, ts, rfl, _⟩ := h
      rfl, fun A outer s H args us vs Q E hr e0 hb hv h => by
      obtain ⟨td, v, p, N, H0, ts, rfl, _, _, _, _, _, _, dp, _⟩ := h
      have := p.deep_pos
      omega⟩
  | d + 1 => by
    have ih := ok__law_span T d
    refine T.F__law_span.ok sc__law_span (fun vs H Q E h => ?_) (fun cdv A outer s H vs Q E hr h => ⟨_, PSs.nox
      (pss_cons (ps_par (i := 2) (j := 3) rfl sc__law_span.nd rfl rfl (by decide) rfl rfl (pa_cons (pe_ix ix_tup (pv 1) pe_int (fun _ _ => rfl)) (pa_cons (pe_lc (own := [("step", 4), ("part", 5)]) rfl sc__law_span.nd (pi_list (pe_call (ok__law_inner T) (hr.mono (by omega)) (by rfl) T.g__law_inner T.F__law_inner.kp T.b__law_inner .nil pass0 (pa_cons (pv 1) pa_nil))) (blkOk_by (N := ["some", "tree", "word", "spans", "step", "part", "end"]) (sc := defScope s__law_span) (by decide +kernel)) (fun _ _ _ _ _ => (show PG _ _ (gTup K 2 (gCons (gName 4) (gCons (gName 5) gNil))) from pg_tup rfl (pgs_cons (pg_name (i := 4) sc__law_span.nd rfl (.inl rfl) (hf := .inr rfl)) (pgs_cons (pg_name (i := 5) sc__law_span.nd rfl (.inl rfl) (hf := .inr rfl)) pgs_nil)))) (fun _ _ _ _ _ => pts_nil) (fun _ _ _ _ _ => (pe_call ih (hr.mono (by omega)) (by rfl) T.g__law_span T.F__law_span.kp T.b__law_span .nil pass0 (pa_cons (pv 0) (pa_cons (pv 5) pa_nil))))) pa_nil)) (by rfl))
      (pss_cons (ps_if (pt_cmpR op_eq (pv 2) pe_str (nomark _)) (pss_one (ps_ret (pe_callB (cr_max rfl) (by rfl) T.m_max (by decide +kernel) (pa_cons (pe_lc (own := [("end", 6)]) rfl sc__law_span.nd (pi_list (pe_ix ix_tup (pe_dget (hu_of hr) (pv 0) (pe_ix ix_tup (pv 1) pe_int (fun _ _ => rfl)) (fun _ _ => rfl)) pe_int (fun _ _ => rfl))) (blkOk_by (N := ["some", "tree", "word", "spans", "step", "part", "end"]) (sc := defScope s__law_span) (by decide +kernel)) (fun _ _ _ _ _ => (pg_name (i := 6) sc__law_span.nd rfl (.inl rfl) (hf := .inr rfl))) (fun _ _ _ _ _ => pts_nil) (fun _ _ _ _ _ => (pe_ix (show IxR _ (rIxT K) from ix_tup) (pv 6) pe_int (fun _ _ => rfl)))) pa_nil)))) pss_nil)
      (pss_cons (ps_if (pt_cmpR op_in_seq (pv 2) (pe_tup (pa_cons pe_str (pa_cons pe_str (pa_cons pe_str pa_nil)))) rfl) (pss_one (ps_ret (pe_op op_add (pe_callB (cr_sum rfl) (by rfl) T.m_sum (by decide +kernel) (pa_cons (pv 3) pa_nil)) (pe_ifExp (pt_cmpR op_eq (pv 2) pe_str (nomark _)) (pe_ix ix_tup (pv 1) pe_int (fun _ _ => rfl)) pe_int)))) pss_nil)
      (pss_cons (ps_if (pt_cmpR op_in_seq (pv 2) (pe_tup (pa_cons pe_str (pa_cons pe_str pa_nil))) rfl) (pss_one (ps_ret (pe_callB (cr_max rfl) (by rfl) T.m_max (by decide +kernel) (pa_cons (pe_op op_cat (pv 3) (pe_lst (pa_cons pe_int pa_nil))) pa_nil)))) pss_nil)
      (pss_cons (ps_if (pt_cmpR op_eq (pv 2) pe_str (nomark _)) (pss_one (ps_ret (pe_op op_add (pe_op op_mulW (pe_ix ix_tup (pv 1) pe_int (fun _ _ => rfl)) (pe_ix ix_list (pv 3) pe_int (fun _ _ => rfl))) (pe_op op_mulW (pe_ix ix_tup (pv 1) pe_int (fun _ _ => rfl)) (pe_op op_sub (pe_ix ix_tup (pv 1) pe_int (fun _ _ => rfl)) pe_int))))) pss_nil)
      (pss_cons (ps_if (pt_cmpR op_eq (pv 2) pe_str (nomark _)) (pss_one (ps_ret (pe_callB (call_min2 rfl) (by rfl) T.m_min (by decide +kernel) (pa_cons (pe_ix ix_list (pv 3) pe_int (fun _ _ => rfl)) (pa_cons (pe_ix ix_tup (pv 1) pe_int (fun _ _ => rfl)) pa_nil))))) pss_nil)
      (pss_one (ps_ret (pe_ifExp (pt_cmpR op_eq (pv 2) pe_str (nomark _)) (pe_callB (call_max2 rfl) (by rfl) T.m_max (by decide +kernel) (pa_cons (pe_op op_add (pe_ix ix_tup (pv 1) pe_int (fun _ _ => rfl)) (pe_ix ix_list (pv 3) pe_int (fun _ _ => rfl))) (pa_cons (pe_ix ix_list (pv 3) pe_int (fun _ _ => rfl)) pa_nil))) (pe_ix ix_list (pv 3) pe_int (fun _ _ => rfl))))))))))), ?_⟩)
    · obtain ⟨td, v, p, N, H0, ts, rfl, _⟩ := h
      rfl
    · obtain ⟨td, v, p, N, H0, ts, rfl, s0, TV, g, PV, ok, cnt, dp, d9, hQ⟩ := h
      have l64 := line64
      have ht := lastT_le g
      obtain ⟨z0, z1⟩ := span_le ht ok
      have zb := pow_big cnt d9
      obtain ⟨a, x, rest, rfl, S0, hcx⟩ := planV_shape PV
      have S := Q7.sqT_same s0 S0
      refine ⟨_, rfl, a, _, 0, _, rfl, rfl, S, at0, ?_⟩
      refine ⟨_, rfl, _, p, N, H0, rfl, s0, PV, cnt, fun l xs H1 s1 hl hxs P1 => ⟨l, rfl, ⟨_, sqL_of hxs⟩, fun D hD => ?_⟩⟩
      have xl : xs.length = p.kids.length := pLen P1
      have kn := kids_len p
      refine lc_list (xs := xs) (fun i H' => Same H1 H' ∧ H' D = some (.lst (((p.kids.take i).map (PlanD.span (lastT ts))).map V.int))) ⟨same_new hD, upd_same⟩ (fun i H' _ r => sqL_of (r.1 _ _ hxs)) ?_ ?_
      · rintro i v' H' hv ⟨sm, hd⟩
        obtain ⟨c, hc, a', st, y, js, rfl, A1, A2, jl, PY⟩ := pGet P1 hv
        have hi := (List.getElem?_eq_some_iff.mp hv).1
        have hcm := List.mem_of_getElem? hc
        have dc := PlanD.deep_kid hcm
        have cc := count_kid hcm
        have A1' := Q7.sqT_same sm A1
        refine ⟨a', _, rfl, A1', rfl, _, _, rfl, _, _, rfl, rfl, rfl, ?_⟩
        refine ⟨_, rfl, _, rfl, td, y, c, N, H0, ts, rfl, (s0.trans s1).trans sm, TV, g, PY, PlanD.ok_kid ok hcm, by omega, by omega, by omega, fun H4 s4 => ?_⟩
        refine ⟨_, s4 _ _ hd, by rw [List.length_map, List.length_map, List.length_take]; omega, same_mut (sm.trans s4) hD, ?_⟩
        rw [upd_same, List.take_succ, hc, List.map_append, List.map_append]
        rfl
      rintro H4 ⟨sm, hd⟩
      rw [xl, List.take_length] at hd
      have sQ := s1.trans sm
      clear P1 hxs xl sm hD
      refine ⟨_, _, rfl, ?_⟩
      have S := Q7.sqT_same (s0.trans sQ) S0
      rcases hcx with ⟨rfl, n, rfl, rfl⟩ | ⟨wd, l0, ps, rfl, rfl, rfl⟩ | ⟨u, z, q, rfl, rfl, rfl⟩ | ⟨rfl, l0, y, z, s', q, rfl, rfl⟩
      · obtain ⟨kvs, hd0, P0⟩ := id TV
        obtain ⟨⟨n', t⟩, hm, e⟩ := List.mem_map.mp ok
        simp only at e
        subst e
        obtain ⟨x, hx, tx⟩ := tsP_get (tsP_same P0 (s0.trans sQ)) g.nd hm
        have gt : GoodT t := g.tk _ hm
        obtain ⟨pt, l', xs', rfl, St, Lt, Pt⟩ := tx
        have xl' : xs'.length = t.ends.length := pLen Pt
        have el : t.ends.length ≤ 8 := gt.l1
        refine ⟨_, rfl, rfl, _, rfl, iteT' (by decide +kernel) ?_⟩
        refine ⟨_, rfl, _, rfl, a, _, 1, _, rfl, rfl, S, at1, td, _, rfl, dget_at ((s0.trans sQ) _ _ hd0) hx, pt, _, _, _, rfl, rfl, St, rfl, l', rfl, ⟨_, sqL_of Lt⟩, fun D2 hD2 => ?_⟩
        refine lc_list (xs := xs') (fun k H' => Same H4 H' ∧ H' D2 = some (.lst (((t.ends.take k).map (·.1)).map V.int))) ⟨same_new hD2, upd_same⟩ (fun k H' _ r => sqL_of (r.1 _ _ Lt)) ?_ ?_
        · rintro k y H' hy ⟨sm2, hw⟩
          obtain ⟨e, he, fx⟩ := pGet Pt hy
          have hk := (List.getElem?_eq_some_iff.mp hy).1
          obtain ⟨pe, f, rfl, Se, F⟩ := endV_new fx sm2
          refine ⟨rfl, _, rfl, pe, _, 0, _, rfl, rfl, Se, rfl, ?_⟩
          refine ⟨_, hw, by rw [List.length_map, List.length_map, List.length_take]; omega, same_mut sm2 hD2, ?_⟩
          rw [upd_same, List.take_succ, he, List.map_append, List.map_append]
          rfl
        · rintro H5 ⟨sm2, hw⟩
          rw [xl', List.take_length] at hw
          refine ⟨D2, t.ends.map (·.1), rfl, sqL_of hw, by rw [List.length_map]; exact List.length_pos_iff.mpr gt.l0, fun m hm1 hm2 => ?_⟩
          obtain ⟨e, he⟩ : ∃ e, t.ends.getLast? = some e := ⟨_, List.getLast?_eq_some_getLast gt.l0⟩
          have h := hQ _ (sQ.trans sm2)
          have e2 : PlanD.span (lastT ts) (.task n') = m := (lastT_at g.nd hm he).trans (last_max gt hm1 hm2 e he)
          rw [e2] at h
          exact h
      · refine ⟨_, rfl, rfl, _, rfl, iteE (lw_task wd) ?_⟩
        cases wd with
        | order =>
          refine ⟨_, rfl, three_le, fun w1 hw1 => ⟨w1, _, rfl, .inr (sqT_of upd_same), rfl, by decide, _, rfl, iteT' (by decide +kernel : inV (V.str ("order" : Str)) [V.str "order", V.str "other", V.str "later"] = true) ?_⟩⟩
          have kw1 := same_new (o := .tup [.str "order", .str "other", .str "later"]) hw1
          generalize upd H4 w1 (.tup [.str "order", .str "other", .str "later"]) = H5 at *
          replace hd := kw1 _ _ hd
          replace sQ := sQ.trans kw1
          refine ⟨_, rfl, D, _, rfl, sqL_of hd, _, rfl, rfl, _, rfl, iteE (by decide +kernel : decide (V.str ("order" : Str) = V.str "later") = false) ⟨_, _, rfl, rfl, ?_⟩⟩
          dsimp only
          rw [Int.add_zero]
          have h := hQ _ sQ
          have e2 : PlanD.span (lastT ts) (.many .order ps) = ((PlanD.kids (.many .order ps)).map (PlanD.span (lastT ts))).sum := PlanL.spanS_eq _ ps
          rw [e2] at h
          exact h
        | other =>
          refine ⟨_, rfl, three_le, fun w1 hw1 => ⟨w1, _, rfl, .inr (sqT_of upd_same), rfl, by decide, _, rfl, iteT' (by decide +kernel : inV (V.str ("other" : Str)) [V.str "order", V.str "other", V.str "later"] = true) ?_⟩⟩
          have kw1 := same_new (o := .tup [.str "order", .str "other", .str "later"]) hw1
          generalize upd H4 w1 (.tup [.str "order", .str "other", .str "later"]) = H5 at *
          replace hd := kw1 _ _ hd
          replace sQ := sQ.trans kw1
          refine ⟨_, rfl, D, _, rfl, sqL_of hd, _, rfl, rfl, _, rfl, iteE (by decide +kernel : decide (V.str ("other" : Str) = V.str "later") = false) ⟨_, _, rfl, rfl, ?_⟩⟩
          dsimp only
          rw [Int.add_zero]
          have h := hQ _ sQ
          have e2 : PlanD.span (lastT ts) (.many .other ps) = ((PlanD.kids (.many .other ps)).map (PlanD.span (lastT ts))).sum := PlanL.spanS_eq _ ps
          rw [e2] at h
          exact h
        | both =>
          refine ⟨_, rfl, three_le, fun w1 hw1 => ⟨w1, _, rfl, .inr (sqT_of upd_same), rfl, by decide, _, rfl, iteE (by decide +kernel : inV (V.str ("both" : Str)) [V.str "order", V.str "other", V.str "later"] = false) ?_⟩⟩
          have kw1 := same_new (o := .tup [.str "order", .str "other", .str "later"]) hw1
          generalize upd H4 w1 (.tup [.str "order", .str "other", .str "later"]) = H5 at *
          replace hd := kw1 _ _ hd
          replace sQ := sQ.trans kw1
          refine ⟨_, rfl, two_le, fun w2 hw2 => ⟨w2, _, rfl, .inr (sqT_of upd_same), rfl, by decide, _, rfl, iteT' (by decide +kernel : inV (V.str ("both" : Str)) [V.str "both", V.str "race"] = true) ?_⟩⟩
          have kw2 := same_new (o := .tup [.str "both", .str "race"]) hw2
          generalize upd H5 w2 (.tup [.str "both", .str "race"]) = H6 at *
          replace hd := kw2 _ _ hd
          replace sQ := sQ.trans kw2
          refine ⟨_, rfl, one_le, fun z hz => ?_⟩
          have kz := same_new (o := .lst [.int 0]) hz
          have Az := upd_same (H := H6) (a := z) (o := .lst [.int 0])
          generalize upd H6 z (.lst [.int 0]) = H7 at *
          refine ⟨D, z, _, _, rfl, rfl, kz _ _ hd, Az, by rw [List.length_map, List.length_map]; show _ + 1 ≤ _; omega, fun c hc => ?_⟩
          have kc := same_new (o := .lst (((PlanD.kids (.many .both ps)).map (PlanD.span (lastT ts))).map V.int ++ [.int 0])) hc
          refine ⟨c, ((PlanD.kids (.many .both ps)).map (PlanD.span (lastT ts))) ++ [0], rfl, sqL_of (by rw [upd_same, List.map_append]; rfl), by rw [List.length_append]; exact Nat.succ_pos _, fun m hm1 hm2 => ?_⟩
          have h := hQ _ (sQ.trans (kz.trans kc))
          have e2 : PlanD.span (lastT ts) (.many .both ps) = m := spanM_all (fun q hq => (span_le ht (PlanD.ok_kid (p := .many .both ps) ok hq)).1) hm1 hm2
          rw [e2] at h
          exact h
        | race =>
          refine ⟨_, rfl, three_le, fun w1 hw1 => ⟨w1, _, rfl, .inr (sqT_of upd_same), rfl, by decide, _, rfl, iteE (by decide +kernel : inV (V.str ("race" : Str)) [V.str "order", V.str "other", V.str "later"] = false) ?_⟩⟩
          have kw1 := same_new (o := .tup [.str "order", .str "other", .str "later"]) hw1
          generalize upd H4 w1 (.tup [.str "order", .str "other", .str "later"]) = H5 at *
          replace hd := kw1 _ _ hd
          replace sQ := sQ.trans kw1
          refine ⟨_, rfl, two_le, fun w2 hw2 => ⟨w2, _, rfl, .inr (sqT_of upd_same), rfl, by decide, _, rfl, iteT' (by decide +kernel : inV (V.str ("race" : Str)) [V.str "both", V.str "race"] = true) ?_⟩⟩
          have kw2 := same_new (o := .tup [.str "both", .str "race"]) hw2
          generalize upd H5 w2 (.tup [.str "both", .str "race"]) = H6 at *
          replace hd := kw2 _ _ hd
          replace sQ := sQ.trans kw2
          refine ⟨_, rfl, one_le, fun z hz => ?_⟩
          have kz := same_new (o := .lst [.int 0]) hz
          have Az := upd_same (H := H6) (a := z) (o := .lst [.int 0])
          generalize upd H6 z (.lst [.int 0]) = H7 at *
          refine ⟨D, z, _, _, rfl, rfl, kz _ _ hd, Az, by rw [List.length_map, List.length_map]; show _ + 1 ≤ _; omega, fun c hc => ?_⟩
          have kc := same_new (o := .lst (((PlanD.kids (.many .race ps)).map (PlanD.span (lastT ts))).map V.int ++ [.int 0])) hc
          refine ⟨c, ((PlanD.kids (.many .race ps)).map (PlanD.span (lastT ts))) ++ [0], rfl, sqL_of (by rw [upd_same, List.map_append]; rfl), by rw [List.length_append]; exact Nat.succ_pos _, fun m hm1 hm2 => ?_⟩
          have h := hQ _ (sQ.trans (kz.trans kc))
          have e2 : PlanD.span (lastT ts) (.many .race ps) = m := spanM_all (fun q hq => (span_le ht (PlanD.ok_kid (p := .many .race ps) ok hq)).1) hm1 hm2
          rw [e2] at h
          exact h
      · have hcm : q ∈ PlanD.kids (.one u q) := List.mem_singleton.mpr rfl
        have dc := PlanD.deep_kid hcm
        have cc := count_kid hcm
        obtain ⟨y0, y1⟩ := span_le ht ok.2
        have yb := pow_big (p := q) (by omega) (by omega)
        refine ⟨_, rfl, rfl, _, rfl, iteE (uw_task u) ?_⟩
        cases u with
        | again n d' =>
          refine ⟨_, rfl, three_le, fun w1 hw1 => ⟨w1, _, rfl, .inr (sqT_of upd_same), rfl, by decide, _, rfl, iteE (by decide +kernel : inV (V.str ("again" : Str)) [V.str "order", V.str "other", V.str "later"] = false) ?_⟩⟩
          have kw1 := same_new (o := .tup [.str "order", .str "other", .str "later"]) hw1
          generalize upd H4 w1 (.tup [.str "order", .str "other", .str "later"]) = H5 at *
          replace hd := kw1 _ _ hd
          replace sQ := sQ.trans kw1
          refine ⟨_, rfl, two_le, fun w2 hw2 => ⟨w2, _, rfl, .inr (sqT_of upd_same), rfl, by decide, _, rfl, iteE (by decide +kernel : inV (V.str ("again" : Str)) [V.str "both", V.str "race"] = false) ?_⟩⟩
          have kw2 := same_new (o := .tup [.str "both", .str "race"]) hw2
          generalize upd H5 w2 (.tup [.str "both", .str "race"]) = H6 at *
          replace hd := kw2 _ _ hd
          replace sQ := sQ.trans kw2
          have hr1 := ok.1 (n, (1, 20)) (by simp [UW.nums, UW.bounds])
          have hr2 := ok.1 (d', (0, 100)) (by simp [UW.nums, UW.bounds])
          have n0 : 1 ≤ n := hr1.1
          have n1 : n ≤ 20 := hr1.2
          have d0 : 0 ≤ d' := hr2.1
          have d1 : d' ≤ 100 := hr2.2
          refine ⟨_, rfl, rfl, _, rfl, iteT' (by decide +kernel : decide (V.str ("again" : Str) = V.str "again") = true) ?_⟩
          refine ⟨_, rfl, a, _, 1, _, rfl, rfl, (Q7.sqT_same (s0.trans sQ) S0), at1, _, rfl, D, _, 0, _, rfl, rfl, sqL_of hd, at0, _, _, rfl, rfl, mulW (small_60 (by omega) (by omega)) (small_60 y0 (by omega)), _, rfl, a, _, 2, _, rfl, rfl, (Q7.sqT_same (s0.trans sQ) S0), at2, _, rfl, a, _, 1, _, rfl, rfl, (Q7.sqT_same (s0.trans sQ) S0), at1, _, _, rfl, rfl, _, _, rfl, rfl, mulW (small_60 d0 (by omega)) (small_60 (show 0 ≤ n - 1 by omega) (show n - 1 < _ by omega)), _, _, rfl, rfl, ?_⟩
          have h := hQ _ sQ
          have e2 : PlanD.span (lastT ts) (.one (.again n d') q) = n * q.span (lastT ts) + d' * (n - 1) := by
            rw [Int.mul_comm d' (n - 1)]
            rfl
          rw [e2] at h
          exact h
        | within l1 =>
          refine ⟨_, rfl, three_le, fun w1 hw1 => ⟨w1, _, rfl, .inr (sqT_of upd_same), rfl, by decide, _, rfl, iteE (by decide +kernel : inV (V.str ("within" : Str)) [V.str "order", V.str "other", V.str "later"] = false) ?_⟩⟩
          have kw1 := same_new (o := .tup [.str "order", .str "other", .str "later"]) hw1
          generalize upd H4 w1 (.tup [.str "order", .str "other", .str "later"]) = H5 at *
          replace hd := kw1 _ _ hd
          replace sQ := sQ.trans kw1
          refine ⟨_, rfl, two_le, fun w2 hw2 => ⟨w2, _, rfl, .inr (sqT_of upd_same), rfl, by decide, _, rfl, iteE (by decide +kernel : inV (V.str ("within" : Str)) [V.str "both", V.str "race"] = false) ?_⟩⟩
          have kw2 := same_new (o := .tup [.str "both", .str "race"]) hw2
          generalize upd H5 w2 (.tup [.str "both", .str "race"]) = H6 at *
          replace hd := kw2 _ _ hd
          replace sQ := sQ.trans kw2
          refine ⟨_, rfl, rfl, _, rfl, iteE (by decide +kernel : decide (V.str ("within" : Str) = V.str "again") = false) ?_⟩
          refine ⟨_, rfl, rfl, _, rfl, iteT' (by decide +kernel : decide (V.str ("within" : Str) = V.str "within") = true) ?_⟩
          refine ⟨_, rfl, D, _, 0, _, rfl, rfl, sqL_of hd, at0, _, rfl, a, _, 1, _, rfl, rfl, (Q7.sqT_same (s0.trans sQ) S0), at1, q.span (lastT ts), l1, rfl, ?_⟩
          have h := hQ _ sQ
          have e2 : PlanD.span (lastT ts) (.one (.within l1) q) = (if l1 < PlanD.span (lastT ts) q then l1 else PlanD.span (lastT ts) q) := by
            show min l1 (PlanD.span (lastT ts) q) = _
            split <;> omega
          rw [e2] at h
          exact h
        | later d' =>
          refine ⟨_, rfl, three_le, fun w1 hw1 => ⟨w1, _, rfl, .inr (sqT_of upd_same), rfl, by decide, _, rfl, iteT' (by decide +kernel : inV (V.str ("later" : Str)) [V.str "order", V.str "other", V.str "later"] = true) ?_⟩⟩
          have kw1 := same_new (o := .tup [.str "order", .str "other", .str "later"]) hw1
          generalize upd H4 w1 (.tup [.str "order", .str "other", .str "later"]) = H5 at *
          replace hd := kw1 _ _ hd
          replace sQ := sQ.trans kw1
          refine ⟨_, rfl, D, _, rfl, sqL_of hd, _, rfl, rfl, _, rfl, iteT' (by decide +kernel : decide (V.str ("later" : Str) = V.str "later") = true) ⟨_, rfl, a, _, 1, _, rfl, rfl, (Q7.sqT_same (s0.trans sQ) S0), at1, _, _, rfl, rfl, ?_⟩⟩
          have h := hQ _ sQ
          have e2 : PlanD.span (lastT ts) (.one (.later d') q) = ((PlanD.kids (.one (.later d') q)).map (PlanD.span (lastT ts))).sum + d' := by
            show d' + q.span (lastT ts) = q.span (lastT ts) + 0 + d'
            omega
          rw [e2] at h
          exact h
        | keep =>
          refine ⟨_, rfl, three_le, fun w1 hw1 => ⟨w1, _, rfl, .inr (sqT_of upd_same), rfl, by decide, _, rfl, iteE (by decide +kernel : inV (V.str ("keep" : Str)) [V.str "order", V.str "other", V.str "later"] = false) ?_⟩⟩
          have kw1 := same_new (o := .tup [.str "order", .str "other", .str "later"]) hw1
          generalize upd H4 w1 (.tup [.str "order", .str "other", .str "later"]) = H5 at *
          replace hd := kw1 _ _ hd
          replace sQ := sQ.trans kw1
          refine ⟨_, rfl, two_le, fun w2 hw2 => ⟨w2, _, rfl, .inr (sqT_of upd_same), rfl, by decide, _, rfl, iteE (by decide +kernel : inV (V.str ("keep" : Str)) [V.str "both", V.str "race"] = false) ?_⟩⟩
          have kw2 := same_new (o := .tup [.str "both", .str "race"]) hw2
          generalize upd H5 w2 (.tup [.str "both", .str "race"]) = H6 at *
          replace hd := kw2 _ _ hd
          replace sQ := sQ.trans kw2
          refine ⟨_, rfl, rfl, _, rfl, iteE (by decide +kernel : decide (V.str ("keep" : Str) = V.str "again") = false) ?_⟩
          refine ⟨_, rfl, rfl, _, rfl, iteE (by decide +kernel : decide (V.str ("keep" : Str) = V.str "within") = false) ?_⟩
          refine ⟨_, rfl, rfl, _, rfl, iteE (by decide +kernel : decide (V.str ("keep" : Str) = V.str "watch") = false) ?_⟩
          exact ⟨_, rfl, D, _, 0, _, rfl, rfl, sqL_of hd, at0, hQ _ sQ⟩
        | easy =>
          refine ⟨_, rfl, three_le, fun w1 hw1 => ⟨w1, _, rfl, .inr (sqT_of upd_same), rfl, by decide, _, rfl, iteE (by decide +kernel : inV (V.str ("easy" : Str)) [V.str "order", V.str "other", V.str "later"] = false) ?_⟩⟩
          have kw1 := same_new (o := .tup [.str "order", .str "other", .str "later"]) hw1
          generalize upd H4 w1 (.tup [.str "order", .str "other", .str "later"]) = H5 at *
          replace hd := kw1 _ _ hd
          replace sQ := sQ.trans kw1
          refine ⟨_, rfl, two_le, fun w2 hw2 => ⟨w2, _, rfl, .inr (sqT_of upd_same), rfl, by decide, _, rfl, iteE (by decide +kernel : inV (V.str ("easy" : Str)) [V.str "both", V.str "race"] = false) ?_⟩⟩
          have kw2 := same_new (o := .tup [.str "both", .str "race"]) hw2
          generalize upd H5 w2 (.tup [.str "both", .str "race"]) = H6 at *
          replace hd := kw2 _ _ hd
          replace sQ := sQ.trans kw2
          refine ⟨_, rfl, rfl, _, rfl, iteE (by decide +kernel : decide (V.str ("easy" : Str) = V.str "again") = false) ?_⟩
          refine ⟨_, rfl, rfl, _, rfl, iteE (by decide +kernel : decide (V.str ("easy" : Str) = V.str "within") = false) ?_⟩
          refine ⟨_, rfl, rfl, _, rfl, iteE (by decide +kernel : decide (V.str ("easy" : Str) = V.str "watch") = false) ?_⟩
          exact ⟨_, rfl, D, _, 0, _, rfl, rfl, sqL_of hd, at0, hQ _ sQ⟩
        | back m1 =>
          refine ⟨_, rfl, three_le, fun w1 hw1 => ⟨w1, _, rfl, .inr (sqT_of upd_same), rfl, by decide, _, rfl, iteE (by decide +kernel : inV (V.str ("back" : Str)) [V.str "order", V.str "other", V.str "later"] = false) ?_⟩⟩
          have kw1 := same_new (o := .tup [.str "order", .str "other", .str "later"]) hw1
          generalize upd H4 w1 (.tup [.str "order", .str "other", .str "later"]) = H5 at *
          replace hd := kw1 _ _ hd
          replace sQ := sQ.trans kw1
          refine ⟨_, rfl, two_le, fun w2 hw2 => ⟨w2, _, rfl, .inr (sqT_of upd_same), rfl, by decide, _, rfl, iteE (by decide +kernel : inV (V.str ("back" : Str)) [V.str "both", V.str "race"] = false) ?_⟩⟩
          have kw2 := same_new (o := .tup [.str "both", .str "race"]) hw2
          generalize upd H5 w2 (.tup [.str "both", .str "race"]) = H6 at *
          replace hd := kw2 _ _ hd
          replace sQ := sQ.trans kw2
          refine ⟨_, rfl, rfl, _, rfl, iteE (by decide +kernel : decide (V.str ("back" : Str) = V.str "again") = false) ?_⟩
          refine ⟨_, rfl, rfl, _, rfl, iteE (by decide +kernel : decide (V.str ("back" : Str) = V.str "within") = false) ?_⟩
          refine ⟨_, rfl, rfl, _, rfl, iteE (by decide +kernel : decide (V.str ("back" : Str) = V.str "watch") = false) ?_⟩
          exact ⟨_, rfl, D, _, 0, _, rfl, rfl, sqL_of hd, at0, hQ _ sQ⟩
      · refine ⟨_, rfl, rfl, _, rfl, iteE (by decide +kernel) ?_⟩
        refine ⟨_, rfl, three_le, fun w1 hw1 => ⟨w1, _, rfl, .inr (sqT_of upd_same), rfl, by decide, _, rfl, iteE (by decide +kernel : inV (V.str ("watch" : Str)) [V.str "order", V.str "other", V.str "later"] = false) ?_⟩⟩
        have kw1 := same_new (o := .tup [.str "order", .str "other", .str "later"]) hw1
        generalize upd H4 w1 (.tup [.str "order", .str "other", .str "later"]) = H5 at *
        replace hd := kw1 _ _ hd
        replace sQ := sQ.trans kw1
        refine ⟨_, rfl, two_le, fun w2 hw2 => ⟨w2, _, rfl, .inr (sqT_of upd_same), rfl, by decide, _, rfl, iteE (by decide +kernel : inV (V.str ("watch" : Str)) [V.str "both", V.str "race"] = false) ?_⟩⟩
        have kw2 := same_new (o := .tup [.str "both", .str "race"]) hw2
        generalize upd H5 w2 (.tup [.str "both", .str "race"]) = H6 at *
        replace hd := kw2 _ _ hd
        replace sQ := sQ.trans kw2
        refine ⟨_, rfl, rfl, _, rfl, iteE (by decide +kernel) ?_⟩
        refine ⟨_, rfl, rfl, _, rfl, iteE (by decide +kernel) ?_⟩
        refine ⟨_, rfl, rfl, _, rfl, iteT' (by decide +kernel) ?_⟩
        refine ⟨_, rfl, a, _, 1, _, rfl, rfl, (Q7.sqT_same (s0.trans sQ) S0), at1, _, rfl, D, _, 0, _, rfl, rfl, sqL_of hd, at0, _, _, rfl, rfl, _, rfl, D, _, 1, _, rfl, rfl, sqL_of hd, at1, l0 + s'.span (lastT ts), q.span (lastT ts), rfl, ?_⟩
        have h := hQ _ sQ
        have e2 : PlanD.span (lastT ts) (.watch l0 s' q) = (if PlanD.span (lastT ts) q > l0 + PlanD.span (lastT ts) s' then PlanD.span (lastT ts) q else l0 + PlanD.span (lastT ts) s') := by
          show max (PlanD.span (lastT ts) q) (l0 + PlanD.span (lastT ts) s') = _
          split <;> omega
        rw [e2] at h
        exact h
end
end L10
set_option maxRecDepth 100000
set_option maxHeartbeats 4000000
namespace L10
open PySem PySem.Spec PyProof.Rows L2 Q7
section
variable {P : Program} {w : World} {K : PySem.W.Frag} {mg : Str → Option Value} {base : Heap}
/-! ### the law's excess and text -/
def spExcess (K : PySem.W.Frag) : Sp := fun vs H Q _ => ∃ td v p N H0 ts, vs = [.ref td, v] ∧ Same H0 H ∧ TasksV K H0 td ts ∧ GoodTs ts ∧ PlanV K H0 N v p ∧ p.ok (ts.map (·.1)) ∧ p.count ≤ 40 ∧ p.deep ≤ 8 ∧ ∀ (e : Int) H', Same H H' → (e = 0 → p.size ≤ 400 ∧ p.span (lastT ts) ≤ 400) → Q (.int e) H'
def keep4 (is : List Int) : List Int := is.filter fun i => decide (400 < i)
theorem ok__law_excess (T : Txt w K mg) : FnOk P w K mg base CX0 11 (He.ga K "_law_excess") T.fd__law_excess ["some", "tree"] (spExcess K) := by
  refine T.F__law_excess.ok sc__law_excess (fun vs H Q E h => ?_) (fun cdv A outer s H vs Q E hr h => ⟨_, PSs.nox
    (pss_one (ps_ret (pe_ix ix_list (pe_op op_cat (pe_lc (own := [("number", 2)]) rfl sc__law_excess.nd (pi_tup (pe_tup (pa_cons (pe_call (ok__law_size T 8) (hr.mono (by decide)) (by rfl) T.g__law_size T.F__law_size.kp T.b__law_size .nil pass0 (pa_cons (pv 1) pa_nil)) (pa_cons (pe_call (ok__law_span T 8) (hr.mono (by decide)) (by rfl) T.g__law_span T.F__law_span.kp T.b__law_span .nil pass0 (pa_cons (pv 0) (pa_cons (pv 1) pa_nil))) pa_nil)))) (blkOk_by (N := ["some", "tree", "number"]) (sc := defScope s__law_excess) (by decide +kernel)) (fun _ _ _ _ _ => (pg_name (i := 2) sc__law_excess.nd rfl (.inl rfl) (hf := .inr rfl))) (fun _ _ _ _ _ => (pts_one (pt_cmpR op_gt (pv 2) pe_int (nomark _)))) (fun _ _ _ _ _ => (pv 2))) (pe_lst (pa_cons pe_int pa_nil))) pe_int (fun _ _ => rfl)))), ?_⟩)
  · obtain ⟨td, v, p, N, H0, ts, rfl, _⟩ := h
    rfl
  · obtain ⟨td, v, p, N, H0, ts, rfl, s0, TV, g, PV, ok, cnt, dp, hQ⟩ := h
    have l64 := line64
    refine ⟨_, rfl, v, p, N, H0, _, rfl, s0, PV, ok, by omega, by omega, by omega, fun H1 s1 => ?_⟩
    refine ⟨_, rfl, _, rfl, td, v, p, N, H0, ts, rfl, s0.trans s1, TV, g, PV, ok, by omega, by omega, by omega, fun H2 s2 => ⟨two_le, fun t ht => ?_⟩⟩
    have k3 := same_new (o := .tup [.int p.size, .int (p.span (lastT ts))]) ht
    have St := sqT_of (K := K) (upd_same (H := H2) (a := t) (o := .tup [.int p.size, .int (p.span (lastT ts))]))
    generalize upd H2 t (.tup [.int p.size, .int (p.span (lastT ts))]) = H3 at *
    refine ⟨t, rfl, ⟨_, St⟩, fun D hD => ?_⟩
    have s3 := (s1.trans s2).trans k3
    refine lc_tup (xs := [p.size, p.span (lastT ts)].map V.int) (fun i H' => Same H3 H' ∧ H' D = some (.lst ((keep4 ([p.size, p.span (lastT ts)].take i)).map V.int))) ⟨same_new hD, upd_same⟩ (fun i H' _ r => Q7.sqT_same r.1 St) ?_ ?_
    · rintro i x H' hv ⟨sm, hd⟩
      rw [List.getElem?_map] at hv
      obtain ⟨j, hj, rfl⟩ := Option.map_eq_some_iff.mp hv
      have hi := (List.getElem?_eq_some_iff.mp hj).1
      have hi2 : i < 2 := hi
      refine ⟨rfl, _, rfl, _, _, rfl, rfl, _, rfl, ?_⟩
      have hk : keep4 ([p.size, p.span (lastT ts)].take (i + 1)) = keep4 ([p.size, p.span (lastT ts)].take i) ++ (if 400 < j then [j] else []) := by
        rw [List.take_succ, hj]
        unfold keep4
        rw [List.filter_append]
        by_cases h : 400 < j <;> simp [h]
      have hkl : (keep4 ([p.size, p.span (lastT ts)].take i)).length ≤ 2 := Nat.le_trans (List.length_filter_le _ _) (by rw [List.length_take]; exact Nat.min_le_right _ _)
      by_cases h4 : 400 < j
      · refine iteT' (decide_eq_true h4) ⟨_, rfl, _, hd, by rw [List.length_map]; omega, same_mut sm hD, ?_⟩
        rw [upd_same, hk, if_pos h4, List.map_append]
        rfl
      · refine iteE (decide_eq_false h4) ⟨sm, ?_⟩
        rw [hk, if_neg h4, List.append_nil]
        exact hd
    · rintro H4 ⟨s4, hd4⟩
      have hd4' : H4 D = some (.lst ((keep4 [p.size, p.span (lastT ts)]).map V.int)) := hd4
      have hkl : (keep4 [p.size, p.span (lastT ts)]).length ≤ 2 := List.length_filter_le _ _
      refine ⟨one_le, fun z hz => ?_⟩
      have k5 := same_new (o := .lst [.int 0]) hz
      have Lz := upd_same (H := H4) (a := z) (o := .lst [.int 0])
      generalize upd H4 z (.lst [.int 0]) = H5 at *
      refine ⟨D, z, _, _, rfl, rfl, k5 _ _ hd4', Lz, by simp only [List.length_map, List.length_cons, List.length_nil]; omega, fun F hF => ?_⟩
      have s6 := ((s3.trans s4).trans k5).trans (same_new (o := .lst ((keep4 [p.size, p.span (lastT ts)]).map V.int ++ [.int 0])) hF)
      cases hke : keep4 [p.size, p.span (lastT ts)] with
      | nil =>
        rw [hke] at s6
        refine ⟨F, _, 0, _, rfl, rfl, sqL_of upd_same, at0, hQ 0 _ s6 fun _ => ?_⟩
        have h1 : ∀ i ∈ [p.size, p.span (lastT ts)], ¬ 400 < i := fun i hi h => by
          have : i ∈ keep4 [p.size, p.span (lastT ts)] := List.mem_filter.mpr ⟨hi, decide_eq_true h⟩
          rw [hke] at this
          cases this
        exact ⟨Int.not_lt.mp (h1 _ (by simp)), Int.not_lt.mp (h1 _ (by simp))⟩
      | cons e r =>
        rw [hke] at s6
        refine ⟨F, _, 0, _, rfl, rfl, sqL_of upd_same, at0, hQ e _ s6 fun e0 => ?_⟩
        have : e ∈ keep4 [p.size, p.span (lastT ts)] := by rw [hke]; simp
        have := of_decide_eq_true (List.mem_filter.mp this).2
        omega
end
end L10
set_option maxRecDepth 100000
set_option maxHeartbeats 4000000
namespace L10
open PySem PySem.Spec PyProof.Rows L2 Q7
section
variable {P : Program} {w : World} {K : PySem.W.Frag} {mg : Str → Option Value} {base : Heap}
/-! ### steps and roads -/
def stepsD : PlanD → List (List Int × PlanD)
  | .task _ => []
  | .many _ ps => ps.list.zipIdx.map fun q => ([(q.2 : Int)], q.1)
  | .one (.again _ _) p => [([0], p)]
  | .one (.within _) p => [([], p)]
  | .one (.later _) p => [([], p)]
  | .one .keep p => [([], p)]
  | .one .easy p => [([], p)]
  | .one (.back _) p => [([], p)]
  | .watch _ s p => [([0], s), ([1], p)]
theorem steps_many {w : LW} {ps : PlanL} {i : Nat} {p : PlanD} (h : ps.list[i]? = some p) : (stepsD (.many w ps))[i]? = some ([(i : Int)], p) := by
  show (ps.list.zipIdx.map fun q => ([(q.2 : Int)], q.1))[i]? = _
  rw [List.getElem?_map, List.getElem?_zipIdx, h]
  simp
theorem steps_len (p : PlanD) : (stepsD p).length = p.kids.length := by
  cases p with
  | task n => rfl
  | many w ps => simp [stepsD, PlanD.kids]
  | one u p => cases u <;> rfl
  | watch l s p => rfl
theorem steps_kid {p : PlanD} {q : List Int × PlanD} (h : q ∈ stepsD p) : q.2 ∈ p.kids := by
  cases p with
  | task n => cases h
  | many w ps =>
    obtain ⟨z, hz, rfl⟩ := List.mem_map.mp h
    exact List.fst_mem_of_mem_zipIdx hz
  | one u p =>
    have : q.2 = p := by cases u <;> (rw [List.mem_singleton.mp h])
    exact List.mem_singleton.mpr this
  | watch l s p =>
    rcases List.mem_cons.mp h with rfl | h
    · exact List.mem_cons_self
    · rw [List.mem_singleton.mp h]
      exact List.mem_cons_of_mem _ List.mem_cons_self
theorem step_again {u : UW} {p : PlanD} (h : decide (V.str u.word = V.str "again") = true) : stepsD (.one u p) = [([0], p)] := by
  cases u with
  | again n d => rfl
  | within l => exact Bool.noConfusion (h.symm.trans (by decide +kernel : decide (V.str ("within" : Str) = V.str "again") = false))
  | later l => exact Bool.noConfusion (h.symm.trans (by decide +kernel : decide (V.str ("later" : Str) = V.str "again") = false))
  | keep => exact Bool.noConfusion (h.symm.trans (by decide +kernel : decide (V.str ("keep" : Str) = V.str "again") = false))
  | easy => exact Bool.noConfusion (h.symm.trans (by decide +kernel : decide (V.str ("easy" : Str) = V.str "again") = false))
  | back l => exact Bool.noConfusion (h.symm.trans (by decide +kernel : decide (V.str ("back" : Str) = V.str "again") = false))
theorem step_other {u : UW} {p : PlanD} (h : decide (V.str u.word = V.str "again") = false) : stepsD (.one u p) = [([], p)] := by
  cases u with
  | again n d => exact Bool.noConfusion (h.symm.trans (by decide +kernel : decide (V.str ("again" : Str) = V.str "again") = true))
  | within l => rfl
  | later l => rfl
  | keep => rfl
  | easy => rfl
  | back l => rfl
/-- tuples stay, and in their own places -/
structure TB (H H' : Hp) : Prop where
  tk : TK H H'
  ex : ∀ a xs, H a = some (.tup xs) → H' a = some (.tup xs)
theorem TB.trans {A B C : Hp} (x : TB A B) (y : TB B C) : TB A C := ⟨x.tk.trans y.tk, fun a xs e => y.ex _ _ (x.ex _ _ e)⟩
theorem same_tb {H H' : Hp} (s : Same H H') : TB H H' := ⟨same_tk s, fun _ _ e => s _ _ e⟩
theorem tb_lst {H : Hp} {D : Addr} {xs ys : List V} (e : H D = some (.lst xs)) : TB H (upd H D (.lst ys)) := ⟨tk_lst e, fun a zs h => by
  have : a ≠ D := fun z => by
    rw [z, e] at h
    cases h
  rw [upd_ne this]
  exact h⟩
def StepK (K : PySem.W.Frag) (H0 H : Hp) (N : Addr → Prop) (v : V) (q : List Int × PlanD) : Prop := ∃ a st x, v = .ref a ∧ SqT K H a [.ref st, x] ∧ H st = some (.tup (q.1.map V.int)) ∧ PlanV K H0 N x q.2
theorem stepK_tk {N : Addr → Prop} {H0 H H' : Hp} {v : V} {q : List Int × PlanD} (h : StepK K H0 H N v q) (s : TB H H') : StepK K H0 H' N v q := by
  obtain ⟨a, st, x, e, S1, S2, P⟩ := h
  exact ⟨a, st, x, e, sqT_tk S1 s.tk, s.ex _ _ S2, P⟩
def spStepsK (K : PySem.W.Frag) : Sp := fun vs H Q _ => ∃ v p N H0, vs = [v] ∧ Same H0 H ∧ PlanV K H0 N v p ∧ p.count ≤ 60 ∧ ∀ l xs H', Same H H' → H l = none → H' l = some (.lst xs) → Paired (StepK K H0 H' N) xs (stepsD p) → Q (.ref l) H'
theorem ok_steps_of_S (T : Txt w K mg) : FnOk P w K mg base CX0 1 (He.ga K "steps_of") T.fd_steps_of ["plan"] (spStepsK K) := by
  refine T.F_steps_of.ok sc_steps_of (fun vs H Q E h => ?_) (fun cdv A outer s H vs Q E hr h => ⟨_, PSs.nox
    (pss_cons (ps_set (i := 1) sc_steps_of.nd rfl (.inl rfl) (pe_ix ix_tup (pv 0) pe_int (fun _ _ => rfl)))
      (pss_cons (ps_if (pt_cmpR op_eq (pv 1) pe_str (nomark _)) (pss_one (ps_ret (pe_lst pa_nil))) pss_nil)
      (pss_cons (ps_if (pt_cmpR op_in_seq (pv 1) (pe_glob (v := V.ref (He.ga K "LIST_WORDS")) rfl T.g_LIST_WORDS rfl) rfl) (pss_one (ps_ret (pe_lc (own := [("index", 2), ("part", 3)]) rfl sc_steps_of.nd (pi_enum (by rfl) T.m_enumerate (pa_cons (pe_ix ix_tup (pv 0) pe_int (fun _ _ => rfl)) pa_nil)) (blkOk_by (N := ["plan", "word", "index", "part"]) (sc := defScope s_steps_of) (by decide +kernel)) (fun _ _ _ _ _ => (show PG _ _ (gTup K 2 (gCons (gName 2) (gCons (gName 3) gNil))) from pg_tup rfl (pgs_cons (pg_name (i := 2) sc_steps_of.nd rfl (.inl rfl) (hf := .inr rfl)) (pgs_cons (pg_name (i := 3) sc_steps_of.nd rfl (.inl rfl) (hf := .inr rfl)) pgs_nil)))) (fun _ _ _ _ _ => pts_nil) (fun _ _ _ _ _ => (pe_tup (pa_cons (pe_tup (pa_cons (pv 2) pa_nil)) (pa_cons (pv 3) pa_nil))))))) pss_nil)
      (pss_cons (ps_if (pt_cmpR op_eq (pv 1) pe_str (nomark _)) (pss_one (ps_ret (pe_lst (pa_cons (pe_tup (pa_cons (pe_tup (pa_cons pe_int pa_nil)) (pa_cons (pe_ix ix_tup (pv 0) pe_int (fun _ _ => rfl)) pa_nil))) pa_nil)))) pss_nil)
      (pss_cons (ps_if (pt_cmpR op_eq (pv 1) pe_str (nomark _)) (pss_one (ps_ret (pe_lst (pa_cons (pe_tup (pa_cons (pe_tup (pa_cons pe_int pa_nil)) (pa_cons (pe_ix ix_tup (pv 0) pe_int (fun _ _ => rfl)) pa_nil))) (pa_cons (pe_tup (pa_cons (pe_tup (pa_cons pe_int pa_nil)) (pa_cons (pe_ix ix_tup (pv 0) pe_int (fun _ _ => rfl)) pa_nil))) pa_nil))))) pss_nil)
      (pss_one (ps_ret (pe_lst (pa_cons (pe_tup (pa_cons (pe_tup pa_nil) (pa_cons (pe_ix ix_tup (pv 0) (pe_un un_neg pe_int) (fun _ _ => rfl)) pa_nil))) pa_nil))))))))), ?_⟩)
  · obtain ⟨v, p, N, H0, rfl, _⟩ := h
    rfl
  · obtain ⟨v, p, N, H0, rfl, s0, PV, cnt, hQ⟩ := h
    have l64 := line64
    cases PV with
    | @task a n S0 =>
      have S := Q7.sqT_same s0 S0
      refine ⟨_, rfl, a, _, 0, _, rfl, rfl, S, at0, ?_⟩
      refine ⟨_, rfl, rfl, _, rfl, iteT' (by decide +kernel) ?_⟩
      exact ⟨Nat.zero_le _, fun l hl => hQ l [] _ (same_new hl) hl upd_same .nil⟩
    | @many a l wd xs ps S0 n L0 P =>
      have S := Q7.sqT_same s0 S0
      have L := s0 _ _ L0
      refine ⟨_, rfl, a, _, 0, _, rfl, rfl, S, at0, ?_⟩
      refine ⟨_, rfl, rfl, _, rfl, iteE (lw_task wd) ?_⟩
      refine ⟨_, rfl, _, _, rfl, .inr (T.t_LIST_WORDS H), rfl, by decide, _, rfl, iteT' (lw_in wd) ?_⟩
      refine ⟨_, rfl, a, _, 1, _, rfl, rfl, S, at1, l, xs, rfl, sqL_of L, fun D hD => ?_⟩
      have xl := planVs_len P
      have kl := kids_len (.many wd ps)
      refine lc_it (walk_enum (K := K) (a := l) (xs := xs)) (fun i H' => Same H H' ∧ ∃ zs, H' D = some (.lst zs) ∧ Paired (StepK K H0 H' N) zs ((stepsD (.many wd ps)).take i)) ⟨same_new hD, [], upd_same, .nil⟩ (fun i H' _ r => sqL_of (r.1 _ _ L)) ?_ ?_
      · rintro i v H' H'' hi ⟨sm, zs, hd, PP⟩ ⟨TT, x, y, rfl, hT, rfl, hx, hy⟩
        cases hx
        obtain ⟨p, hp, Py⟩ := planVs_get P hy
        refine ⟨TT, _, rfl, sqT_of upd_same, rfl, _, _, rfl, _, _, rfl, rfl, rfl, ?_⟩
        have k1 := same_new (o := .tup [.int (i : Nat), y]) hT
        generalize upd H' TT (.tup [.int (i : Nat), y]) = H1 at *
        refine ⟨_, rfl, one_le, fun st hst => ⟨_, rfl, two_le, fun q hq => ?_⟩⟩
        have S2 := upd_same (H := H1) (a := st) (o := .tup [.int (i : Nat)])
        have k2 := k1.trans (same_new (o := .tup [.int (i : Nat)]) hst)
        generalize upd H1 st (.tup [.int (i : Nat)]) = H2 at *
        have S3 := upd_same (H := H2) (a := q) (o := .tup [.ref st, y])
        have k2' := same_new (o := .tup [.ref st, y]) hq
        have k3 := k2.trans k2'
        generalize upd H2 q (.tup [.ref st, y]) = H3 at *
        have zl := pLen PP
        have hd3 := k3 _ _ hd
        have tk : TB H3 (upd H3 D (.lst (zs ++ [.ref q]))) := tb_lst hd3
        refine ⟨zs, hd3, by rw [zl, List.length_take, steps_len]; omega, same_mut (sm.trans k3) hD, _, upd_same, ?_⟩
        rw [List.take_succ, steps_many hp]
        exact pApp (pImp (fun _ _ z => stepK_tk z ((same_tb k3).trans tk)) PP) (.cons (stepK_tk ⟨q, st, y, rfl, sqT_of S3, k2' _ _ S2, Py⟩ tk) .nil)
      · rintro H' ⟨sm, zs, hd, PP⟩
        rw [show xs.length = (stepsD (.many wd ps)).length from by rw [steps_len]; exact xl, List.take_length] at PP
        exact hQ D zs H' sm hD hd PP
    | @one a u x p S0 P =>
      have S := Q7.sqT_same s0 S0
      refine ⟨_, rfl, a, _, 0, _, rfl, rfl, S, at0, ?_⟩
      refine ⟨_, rfl, rfl, _, rfl, iteE (uw_task u) ?_⟩
      refine ⟨_, rfl, _, _, rfl, .inr (T.t_LIST_WORDS H), rfl, by decide, _, rfl, iteE (uw_in u) ?_⟩
      have fin : ∀ (st q l : Addr) (ks : List Int) (H1 H2 H3 : Hp), stepsD (.one u p) = [(ks, p)] → Same H H1 → H1 st = none → H2 = upd H1 st (.tup (ks.map V.int)) → H2 q = none → H3 = upd H2 q (.tup [.ref st, x]) → H3 l = none → Q (.ref l) (upd H3 l (.lst [.ref q])) := fun st q l ks H1 H2 H3 kl z0 h1 e2 h2 e3 h3 => by
        subst e2
        subst e3
        have s1 := same_new (o := .tup (ks.map V.int)) h1
        have s2 := same_new (o := .tup [.ref st, x]) h2
        have s3 := same_new (o := .lst [.ref q]) h3
        refine hQ l [.ref q] _ (((z0.trans s1).trans s2).trans s3) (none_same ((z0.trans s1).trans s2) h3) upd_same (by rw [kl]; exact .cons ⟨q, st, x, rfl, sqT_of (s3 _ _ upd_same), s3 _ _ (s2 _ _ upd_same), P⟩ .nil)
      cases u with
      | again n d =>
        refine ⟨_, rfl, rfl, _, rfl, iteT' (by decide +kernel : decide (V.str ("again" : Str) = V.str "again") = true) ?_⟩
        refine ⟨one_le, fun st hst => ⟨_, rfl, a, _, 3, _, rfl, rfl, Q7.sqT_same (same_new hst) S, at3, two_le, fun q hq => ⟨one_le, fun l hl => ?_⟩⟩⟩
        exact fin st q l [0] H _ _ rfl (Same.refl _) hst rfl hq rfl hl
      | within l =>
        refine ⟨_, rfl, rfl, _, rfl, iteE (by decide +kernel : decide (V.str ("within" : Str) = V.str "again") = false) ?_⟩
        refine ⟨_, rfl, rfl, _, rfl, iteE (by decide +kernel : decide (V.str ("within" : Str) = V.str "watch") = false) ?_⟩
        refine ⟨Nat.zero_le _, fun st hst => ?_⟩
        refine ⟨_, rfl, _, rfl, a, _, _, _, rfl, rfl, Q7.sqT_same (same_new hst) S, at_last _ _ _, two_le, fun q hq => ⟨one_le, fun l hl => ?_⟩⟩
        exact fin st q l [] H _ _ rfl (Same.refl _) hst rfl hq rfl hl
      | later l =>
        refine ⟨_, rfl, rfl, _, rfl, iteE (by decide +kernel : decide (V.str ("later" : Str) = V.str "again") = false) ?_⟩
        refine ⟨_, rfl, rfl, _, rfl, iteE (by decide +kernel : decide (V.str ("later" : Str) = V.str "watch") = false) ?_⟩
        refine ⟨Nat.zero_le _, fun st hst => ?_⟩
        refine ⟨_, rfl, _, rfl, a, _, _, _, rfl, rfl, Q7.sqT_same (same_new hst) S, at_last _ _ _, two_le, fun q hq => ⟨one_le, fun l hl => ?_⟩⟩
        exact fin st q l [] H _ _ rfl (Same.refl _) hst rfl hq rfl hl
      | keep =>
        refine ⟨_, rfl, rfl, _, rfl, iteE (by decide +kernel : decide (V.str ("keep" : Str) = V.str "again") = false) ?_⟩
        refine ⟨_, rfl, rfl, _, rfl, iteE (by decide +kernel : decide (V.str ("keep" : Str) = V.str "watch") = false) ?_⟩
        refine ⟨Nat.zero_le _, fun st hst => ?_⟩
        refine ⟨_, rfl, _, rfl, a, _, _, _, rfl, rfl, Q7.sqT_same (same_new hst) S, at_last _ _ _, two_le, fun q hq => ⟨one_le, fun l hl => ?_⟩⟩
        exact fin st q l [] H _ _ rfl (Same.refl _) hst rfl hq rfl hl
      | easy =>
        refine ⟨_, rfl, rfl, _, rfl, iteE (by decide +kernel : decide (V.str ("easy" : Str) = V.str "again") = false) ?_⟩
        refine ⟨_, rfl, rfl, _, rfl, iteE (by decide +kernel : decide (V.str ("easy" : Str) = V.str "watch") = false) ?_⟩
        refine ⟨Nat.zero_le _, fun st hst => ?_⟩
        refine ⟨_, rfl, _, rfl, a, _, _, _, rfl, rfl, Q7.sqT_same (same_new hst) S, at_last _ _ _, two_le, fun q hq => ⟨one_le, fun l hl => ?_⟩⟩
        exact fin st q l [] H _ _ rfl (Same.refl _) hst rfl hq rfl hl
      | back l =>
        refine ⟨_, rfl, rfl, _, rfl, iteE (by decide +kernel : decide (V.str ("back" : Str) = V.str "again") = false) ?_⟩
        refine ⟨_, rfl, rfl, _, rfl, iteE (by decide +kernel : decide (V.str ("back" : Str) = V.str "watch") = false) ?_⟩
        refine ⟨Nat.zero_le _, fun st hst => ?_⟩
        refine ⟨_, rfl, _, rfl, a, _, _, _, rfl, rfl, Q7.sqT_same (same_new hst) S, at_last _ _ _, two_le, fun q hq => ⟨one_le, fun l hl => ?_⟩⟩
        exact fin st q l [] H _ _ rfl (Same.refl _) hst rfl hq rfl hl
    | @watch a l x y s p S0 P1 P2 =>
      have S := Q7.sqT_same s0 S0
      refine ⟨_, rfl, a, _, 0, _, rfl, rfl, S, at0, ?_⟩
      refine ⟨_, rfl, rfl, _, rfl, iteE (by decide +kernel) ?_⟩
      refine ⟨_, rfl, _, _, rfl, .inr (T.t_LIST_WORDS H), rfl, by decide, _, rfl, iteE (by decide +kernel) ?_⟩
      refine ⟨_, rfl, rfl, _, rfl, iteE (by decide +kernel) ?_⟩
      refine ⟨_, rfl, rfl, _, rfl, iteT' (by decide +kernel) ?_⟩
      refine ⟨one_le, fun st hst => ⟨_, rfl, a, _, 2, _, rfl, rfl, Q7.sqT_same (same_new hst) S, at2, two_le, fun q hq => ?_⟩⟩
      have s1 := same_new (o := .tup [.int 0]) hst
      have A1 := upd_same (H := H) (a := st) (o := .tup [.int 0])
      generalize upd H st (.tup [.int 0]) = H1 at *
      have s2 := same_new (o := .tup [.ref st, x]) hq
      have A2 := upd_same (H := H1) (a := q) (o := .tup [.ref st, x])
      generalize upd H1 q (.tup [.ref st, x]) = H2 at *
      have s12 := s1.trans s2
      refine ⟨one_le, fun st2 hst2 => ⟨_, rfl, a, _, 3, _, rfl, rfl, Q7.sqT_same (s12.trans (same_new hst2)) S, at3, two_le, fun q2 hq2 => ?_⟩⟩
      have s3 := same_new (o := .tup [.int 1]) hst2
      have A3 := upd_same (H := H2) (a := st2) (o := .tup [.int 1])
      generalize upd H2 st2 (.tup [.int 1]) = H3 at *
      have s4 := same_new (o := .tup [.ref st2, y]) hq2
      have A4 := upd_same (H := H3) (a := q2) (o := .tup [.ref st2, y])
      generalize upd H3 q2 (.tup [.ref st2, y]) = H4 at *
      refine ⟨two_le, fun l' hl => ?_⟩
      have s5 := same_new (o := .lst [.ref q, .ref q2]) hl
      have s34 := s3.trans s4
      have sA := (s12.trans s34).trans s5
      exact hQ l' _ _ sA (none_same (s12.trans s34) hl) upd_same (.cons ⟨q, st, x, rfl, sqT_of (s5 _ _ (s34 _ _ A2)), s5 _ _ (s34 _ _ (s2 _ _ A1)), P1⟩ (.cons ⟨q2, st2, y, rfl, sqT_of (s5 _ _ A4), s5 _ _ (s4 _ _ A3), P2⟩ .nil))
def stepsA : PlanD → List (List Int × PlanD)
  | .one (.again n _) p => (List.range n.toNat).map fun (i : Nat) => ([(i : Int)], p)
  | p => stepsD p
/-- the roads to the tasks, and their names -/
def ahead (k : List Int) (r : List Int × Str) : List Int × Str := (k ++ r.1, r.2)
mutual
def paths : PlanD → List (List Int × Str)
  | .task n => [([], n)]
  | .many _ ps => pathsL 0 ps
  | .one (.again n _) p => (List.range n.toNat).flatMap fun (i : Nat) => (paths p).map (ahead [(i : Int)])
  | .one (.within _) p => paths p
  | .one (.later _) p => paths p
  | .one .keep p => paths p
  | .one .easy p => paths p
  | .one (.back _) p => paths p
  | .watch _ s p => (paths s).map (ahead [0]) ++ (paths p).map (ahead [1])
def pathsL : Nat → PlanL → List (List Int × Str)
  | _, .nil => []
  | k, .cons p ps => (paths p).map (ahead [(k : Int)]) ++ pathsL (k + 1) ps
end
theorem ahead_nil (l : List (List Int × Str)) : l.map (ahead []) = l := by
  rw [show ahead [] = id from rfl, List.map_id]
theorem pathsL_eq : ∀ (ps : PlanL) (k : Nat), pathsL k ps = (ps.list.zipIdx k).flatMap fun q => (paths q.1).map (ahead [(q.2 : Int)])
  | .nil, _ => rfl
  | .cons p ps, k => by
    show (paths p).map (ahead [(k : Int)]) ++ pathsL (k + 1) ps = _
    rw [pathsL_eq ps (k + 1)]
    rfl
theorem paths_steps {p : PlanD} (h : ∀ n, p ≠ .task n) : paths p = (stepsA p).flatMap fun q => (paths q.2).map (ahead q.1) := by
  cases p with
  | task n => exact absurd rfl (h n)
  | many w ps =>
    show pathsL 0 ps = (ps.list.zipIdx.map fun q => ([(q.2 : Int)], q.1)).flatMap _
    rw [pathsL_eq, List.flatMap_map]
  | one u p =>
    cases u with
    | again n d =>
      show (List.range n.toNat).flatMap _ = ((List.range n.toNat).map _).flatMap _
      rw [List.flatMap_map]
    | within l => show paths p = (paths p).map (ahead []) ++ []; rw [ahead_nil, List.append_nil]
    | later l => show paths p = (paths p).map (ahead []) ++ []; rw [ahead_nil, List.append_nil]
    | keep => show paths p = (paths p).map (ahead []) ++ []; rw [ahead_nil, List.append_nil]
    | easy => show paths p = (paths p).map (ahead []) ++ []; rw [ahead_nil, List.append_nil]
    | back l => show paths p = (paths p).map (ahead []) ++ []; rw [ahead_nil, List.append_nil]
  | watch l s p => show _ ++ _ = _ ++ (_ ++ []); rw [List.append_nil]
mutual
theorem paths_len (ns : List Str) : ∀ p : PlanD, p.ok ns → (((paths p).length : Nat) : Int) ≤ p.size
  | .task n, _ => Int.le_refl _
  | .many w ps, ok => by
    have := pathsL_len ns ps 0 ok
    show ((pathsL 0 ps).length : Int) ≤ 1 + ps.size
    omega
  | .one (.again n d) p, ok => by
    have h := paths_len ns p ok.2
    have h1 : 1 ≤ n ∧ n ≤ 20 := ok.1 (n, (1, 20)) (by simp [UW.nums, UW.bounds])
    show (((List.range n.toNat).flatMap fun (i : Nat) => (paths p).map (ahead [(i : Int)])).length : Int) ≤ 1 + n * p.size
    have e : ((List.range n.toNat).flatMap fun (i : Nat) => (paths p).map (ahead [(i : Int)])).length = n.toNat * (paths p).length := by
      simp [List.length_flatMap, List.map_const', List.sum_replicate_nat]
    rw [e]
    have h2 : n * ((paths p).length : Int) ≤ n * p.size := Int.mul_le_mul_of_nonneg_left h (by omega)
    have h3 : ((n.toNat * (paths p).length : Nat) : Int) = n * ((paths p).length : Int) := by rw [Int.natCast_mul, Int.toNat_of_nonneg (by omega)]
    omega
  | .one (.within _) p, ok => by have := paths_len ns p ok.2; show ((paths p).length : Int) ≤ 1 + p.size; omega
  | .one (.later _) p, ok => by have := paths_len ns p ok.2; show ((paths p).length : Int) ≤ 1 + p.size; omega
  | .one .keep p, ok => by have := paths_len ns p ok.2; show ((paths p).length : Int) ≤ 1 + p.size; omega
  | .one .easy p, ok => by have := paths_len ns p ok.2; show ((paths p).length : Int) ≤ 1 + p.size; omega
  | .one (.back _) p, ok => by have := paths_len ns p ok.2; show ((paths p).length : Int) ≤ 1 + p.size; omega
  | .watch l s p, ok => by
    have := paths_len ns s ok.2.2.1
    have := paths_len ns p ok.2.2.2
    show (((paths s).map (ahead [0]) ++ (paths p).map (ahead [1])).length : Int) ≤ 1 + (s.size + p.size)
    simp only [List.length_append, List.length_map]
    omega
theorem pathsL_len (ns : List Str) : ∀ (ps : PlanL) (k : Nat), ps.ok ns → (((pathsL k ps).length : Nat) : Int) ≤ ps.size
  | .nil, _, _ => Int.le_refl _
  | .cons p ps, k, ok => by
    have := paths_len ns p ok.1
    have := pathsL_len ns ps (k + 1) ok.2
    show (((paths p).map (ahead [(k : Int)]) ++ pathsL (k + 1) ps).length : Int) ≤ p.size + ps.size
    simp only [List.length_append, List.length_map]
    omega
end
end
end L10
set_option maxRecDepth 100000
set_option maxHeartbeats 4000000
namespace L10
open PySem PySem.Spec PyProof.Rows L2 Q7
section
variable {P : Program} {w : World} {K : PySem.W.Frag} {mg : Str → Option Value} {base : Heap}
theorem stepsA_kid {p : PlanD} {q : List Int × PlanD} (h : q ∈ stepsA p) : q.2 ∈ p.kids := by
  cases p with
  | one u p =>
    cases u with
    | again n d =>
      obtain ⟨z, hz, rfl⟩ := List.mem_map.mp h
      exact List.mem_cons_self
    | within l => exact steps_kid h
    | later l => exact steps_kid h
    | keep => exact steps_kid h
    | easy => exact steps_kid h
    | back l => exact steps_kid h
  | task n => exact steps_kid h
  | many w ps => exact steps_kid h
  | watch l s p => exact steps_kid h
def spAllK (K : PySem.W.Frag) : Sp := fun vs H Q _ => ∃ v p N H0 ns, vs = [v] ∧ Same H0 H ∧ PlanV K H0 N v p ∧ p.ok ns ∧ p.count ≤ 60 ∧ ∀ l xs H', Same H H' → H l = none → H' l = some (.lst xs) → Paired (StepK K H0 H' N) xs (stepsA p) → Q (.ref l) H'
theorem ok_all_steps_of (T : Txt w K mg) : FnOk P w K mg base CX0 2 (He.ga K "all_steps_of") T.fd_all_steps_of ["plan"] (spAllK K) := by
  refine T.F_all_steps_of.ok sc_all_steps_of (fun vs H Q E h => ?_) (fun cdv A outer s H vs Q E hr h => ⟨_, PSs.nox
    (pss_cons (ps_if (pt_cmpR op_eq (pe_ix ix_tup (pv 0) pe_int (fun _ _ => rfl)) pe_str (nomark _)) (pss_one (ps_ret (pe_lc (own := [("index", 1)]) rfl sc_all_steps_of.nd (pi_range1 (by rfl) T.m_range (pa_cons (pe_ix ix_tup (pv 0) pe_int (fun _ _ => rfl)) pa_nil)) (blkOk_by (N := ["plan", "index"]) (sc := defScope s_all_steps_of) (by decide +kernel)) (fun _ _ _ _ _ => (pg_name (i := 1) sc_all_steps_of.nd rfl (.inl rfl) (hf := .inr rfl))) (fun _ _ _ _ _ => pts_nil) (fun _ _ _ _ _ => (pe_tup (pa_cons (pe_tup (pa_cons (pv 1) pa_nil)) (pa_cons (pe_ix (show IxR _ (rIxT K) from ix_tup) (pv 0) pe_int (fun _ _ => rfl)) pa_nil))))))) pss_nil)
      (pss_one (ps_ret (pe_call (ok_steps_of_S T) (hr.mono (by omega)) (by rfl) T.g_steps_of T.F_steps_of.kp T.b_steps_of .nil pass0 (pa_cons (pv 0) pa_nil))))), ?_⟩)
  · obtain ⟨v, p, N, H0, ns, rfl, _⟩ := h
    rfl
  · obtain ⟨v, p, N, H0, ns, rfl, s0, PV, ok, cnt, hQ⟩ := h
    have l64 := line64
    have fin : ∀ (hst : stepsA p = stepsD p) (l : Addr) (xs : List V) (H' : Hp), Same H H' → H l = none → H' l = some (.lst xs) → Paired (StepK K H0 H' N) xs (stepsD p) → Q (.ref l) H' := fun e l xs H' s1 nl L P => hQ l xs H' s1 nl L (by rw [e]; exact P)
    have PV0 := PV
    cases PV with
    | @task a n S0 =>
      have S := Q7.sqT_same s0 S0
      exact ⟨_, rfl, a, _, 0, _, rfl, rfl, S, at0, rfl, _, rfl, iteE (by decide +kernel) ⟨_, rfl, _, _, N, H0, rfl, s0, PV0, cnt, fin rfl⟩⟩
    | @many a l wd xs ps S0 n L0 P =>
      have S := Q7.sqT_same s0 S0
      exact ⟨_, rfl, a, _, 0, _, rfl, rfl, S, at0, rfl, _, rfl, iteE (by cases wd <;> decide +kernel) ⟨_, rfl, _, _, N, H0, rfl, s0, PV0, cnt, fin rfl⟩⟩
    | @watch a l x y s p S0 P1 P2 =>
      have S := Q7.sqT_same s0 S0
      exact ⟨_, rfl, a, _, 0, _, rfl, rfl, S, at0, rfl, _, rfl, iteE (by decide +kernel) ⟨_, rfl, _, _, N, H0, rfl, s0, PV0, cnt, fin rfl⟩⟩
    | @one a u x p S0 P =>
      have S := Q7.sqT_same s0 S0
      by_cases hu : decide (V.str u.word = V.str "again") = true
      · refine ⟨_, rfl, a, _, 0, _, rfl, rfl, S, at0, rfl, _, rfl, iteT' hu ?_⟩
        obtain ⟨n, d, rfl⟩ : ∃ n d, u = .again n d := by
          cases u with
          | again n d => exact ⟨n, d, rfl⟩
          | within l => exact Bool.noConfusion (hu.symm.trans (by decide +kernel : decide (V.str ("within" : Str) = V.str "again") = false))
          | later l => exact Bool.noConfusion (hu.symm.trans (by decide +kernel : decide (V.str ("later" : Str) = V.str "again") = false))
          | keep => exact Bool.noConfusion (hu.symm.trans (by decide +kernel : decide (V.str ("keep" : Str) = V.str "again") = false))
          | easy => exact Bool.noConfusion (hu.symm.trans (by decide +kernel : decide (V.str ("easy" : Str) = V.str "again") = false))
          | back l => exact Bool.noConfusion (hu.symm.trans (by decide +kernel : decide (V.str ("back" : Str) = V.str "again") = false))
        have h1 : 1 ≤ n ∧ n ≤ 20 := ok.1 (n, (1, 20)) (by simp [UW.nums, UW.bounds])
        refine ⟨_, rfl, a, _, 1, _, rfl, rfl, S, at1, ?_⟩
        refine ⟨n, rfl, by omega, by omega, fun D hD => ?_⟩
        have e : ∀ k : Nat, k < n.toNat → (stepsA (.one (.again n d) p))[k]? = some ([(k : Int)], p) := fun k hk => by
          show ((List.range n.toNat).map fun (i : Nat) => ([(i : Int)], p))[k]? = _
          rw [List.getElem?_map, List.getElem?_range hk]
          rfl
        have el : (stepsA (.one (.again n d) p)).length = n.toNat := by
          show ((List.range n.toNat).map fun (i : Nat) => ([(i : Int)], p)).length = _
          rw [List.length_map, List.length_range]
        refine lc_range (lo := 0) (n := n.toNat) (fun i H' => Same H H' ∧ ∃ zs, H' D = some (.lst zs) ∧ Paired (StepK K H0 H' N) zs ((stepsA (.one (.again n d) p)).take i)) ⟨same_new hD, [], upd_same, .nil⟩ ?_ ?_
        · rintro i H' hi ⟨sm, zs, hd, PP⟩
          refine ⟨rfl, _, rfl, one_le, fun st hst => ⟨_, rfl, a, _, 3, _, rfl, rfl, Q7.sqT_same (sm.trans (same_new hst)) S, at3, two_le, fun q hq => ?_⟩⟩
          have S2 := upd_same (H := H') (a := st) (o := .tup [.int (0 + (i : Int))])
          have k2 := same_new (o := .tup [.int (0 + (i : Int))]) hst
          generalize upd H' st (.tup [.int (0 + (i : Int))]) = H2 at *
          have S3 := upd_same (H := H2) (a := q) (o := .tup [.ref st, x])
          have k2' := same_new (o := .tup [.ref st, x]) hq
          have k3 := k2.trans k2'
          generalize upd H2 q (.tup [.ref st, x]) = H3 at *
          have zl := pLen PP
          have hd3 := k3 _ _ hd
          have tk : TB H3 (upd H3 D (.lst (zs ++ [.ref q]))) := tb_lst hd3
          refine ⟨zs, hd3, by rw [zl, List.length_take, el]; omega, same_mut (sm.trans k3) hD, _, upd_same, ?_⟩
          rw [List.take_succ, e i hi]
          rw [Int.zero_add] at S2
          exact pApp (pImp (fun _ _ z => stepK_tk z ((same_tb k3).trans tk)) PP) (.cons (stepK_tk ⟨q, st, x, rfl, sqT_of S3, k2' _ _ S2, P⟩ tk) .nil)
        · rintro H' ⟨sm, zs, hd, PP⟩
          rw [← el, List.take_length] at PP
          exact hQ D zs H' sm hD hd PP
      · have hu : decide (V.str u.word = V.str "again") = false := by simpa using hu
        exact ⟨_, rfl, a, _, 0, _, rfl, rfl, S, at0, rfl, _, rfl, iteE hu ⟨_, rfl, _, _, N, H0, rfl, s0, PV0, cnt, fin (by
          cases u with
          | again n d => exact Bool.noConfusion (hu.symm.trans (by decide +kernel : decide (V.str ("again" : Str) = V.str "again") = true))
          | within l => rfl
          | later l => rfl
          | keep => rfl
          | easy => rfl
          | back l => rfl)⟩⟩
/-! ### the roads of a plan -/
def RoadB (K : PySem.W.Frag) (H : Hp) (v : V) (r : List Int × Str) : Prop := ∃ a t, v = .ref a ∧ SqT K H a [.ref t, .str r.2] ∧ H t = some (.tup (r.1.map V.int))
theorem roadB_tk {H H' : Hp} {v : V} {r : List Int × Str} (h : RoadB K H v r) (s : TB H H') : RoadB K H' v r := by
  obtain ⟨a, t, e, S1, S2⟩ := h
  exact ⟨a, t, e, sqT_tk S1 s.tk, s.ex _ _ S2⟩
theorem cat_road {K : PySem.W.Frag} {a b : Addr} {ks js : List Int} {H : Hp} {Q : VK} (S1 : H a = some (.tup (ks.map V.int))) (S2 : H b = some (.tup (js.map V.int))) (l : ks.length + js.length ≤ sizeLine)
    (h : ∀ r H', Same H H' → H' r = some (.tup ((ks ++ js).map V.int)) → Q (.ref r) H') : rCatA K (.ref a) (.ref b) H Q := by
  refine ⟨a, b, _, _, rfl, rfl, sqT_of S1, sqT_of S2, by simpa using l, fun e => ?_, fun _ e => ?_, fun _ _ z hz => ?_⟩
  · refine h b H (Same.refl _) ?_
    rw [List.map_append, e]
    exact S2
  · refine h a H (Same.refl _) ?_
    rw [List.map_append, e, List.append_nil]
    exact S1
  · refine h z _ (same_new hz) ?_
    rw [List.map_append]
    exact upd_same
def spNamed (K : PySem.W.Frag) (d : Nat) : Sp := fun vs H Q _ => ∃ v p N H0 ns, vs = [v] ∧ Same H0 H ∧ PlanV K H0 N v p ∧ p.ok ns ∧ p.count ≤ 60 ∧ p.size ≤ 400 ∧ p.deep ≤ d ∧ p.deep ≤ 8 ∧ ∀ l xs H', Same H H' → H l = none → H' l = some (.lst xs) → Paired (RoadB K H') xs (paths p) → Q (.ref l) H'
theorem size_mem {q : PlanD} : ∀ {l : List PlanD}, (∀ z ∈ l, 0 ≤ z.size) → q ∈ l → q.size ≤ (l.map PlanD.size).sum
  | [], _, h => by cases h
  | z :: l, g, h => by
    have hz := g z List.mem_cons_self
    have hl : ∀ l : List PlanD, (∀ y ∈ l, 0 ≤ y.size) → 0 ≤ (l.map PlanD.size).sum := by
      intro l
      induction l with
      | nil => intro _; exact Int.le_refl _
      | cons y l ih =>
        intro g
        have := ih fun x hx => g x (List.mem_cons_of_mem _ hx)
        have := g y List.mem_cons_self
        rw [List.map_cons, List.sum_cons]
        omega
    have h0 := hl l fun y hy => g y (List.mem_cons_of_mem _ hy)
    rw [List.map_cons, List.sum_cons]
    rcases List.mem_cons.mp h with rfl | h
    · omega
    · have := size_mem (fun y hy => g y (List.mem_cons_of_mem _ hy)) h
      omega
theorem size_kid {ns : List Str} {p q : PlanD} (ok : p.ok ns) (h : q ∈ p.kids) : q.size < p.size := by
  have g : ∀ z ∈ p.kids, 0 ≤ z.size := fun z hz => (size_le (PlanD.ok_kid ok hz)).1
  by_cases e : ∃ n d z, p = .one (.again n d) z
  · obtain ⟨n, d, z, rfl⟩ := e
    have h1 : 1 ≤ n ∧ n ≤ 20 := ok.1 (n, (1, 20)) (by simp [UW.nums, UW.bounds])
    have hz := g z List.mem_cons_self
    rw [show q = z from List.mem_singleton.mp h]
    show z.size < 1 + n * z.size
    have := Int.mul_le_mul_of_nonneg_right h1.1 hz
    omega
  · have := size_kids p fun n d z hz => e ⟨n, d, z, hz⟩
    have := size_mem g h
    omega
theorem steps_one {p : PlanD} {q : List Int × PlanD} (h : q ∈ stepsD p) : q.1.length ≤ 1 := by
  cases p with
  | task n => cases h
  | many w ps =>
    obtain ⟨z, hz, rfl⟩ := List.mem_map.mp h
    exact Nat.le_refl _
  | one u p => cases u <;> (rw [List.mem_singleton.mp h]; simp)
  | watch l s p =>
    rcases List.mem_cons.mp h with rfl | h
    · exact Nat.le_refl _
    · rw [List.mem_singleton.mp h]
      exact Nat.le_refl _
theorem stepsA_one {p : PlanD} {q : List Int × PlanD} (h : q ∈ stepsA p) : q.1.length ≤ 1 := by
  cases p with
  | one u p =>
    cases u with
    | again n d =>
      obtain ⟨z, hz, rfl⟩ := List.mem_map.mp h
      exact Nat.le_refl _
    | within l => exact steps_one (p := .one (.within l) p) h
    | later l => exact steps_one (p := .one (.later l) p) h
    | keep => exact steps_one (p := .one .keep p) h
    | easy => exact steps_one (p := .one .easy p) h
    | back l => exact steps_one (p := .one (.back l) p) h
  | task n => exact steps_one (p := .task n) h
  | many w ps => exact steps_one (p := .many w ps) h
  | watch l s p => exact steps_one (p := .watch l s p) h
theorem road_len {p : PlanD} {r : List Int × Str} (h : r ∈ paths p) : r.1.length < p.deep := by
  by_cases ht : ∃ n, p = .task n
  · obtain ⟨n, rfl⟩ := ht
    rw [List.mem_singleton.mp h]
    exact Nat.zero_lt_one
  · rw [paths_steps fun n e => ht ⟨n, e⟩] at h
    obtain ⟨q, hq, h⟩ := List.mem_flatMap.mp h
    obtain ⟨r', hr, rfl⟩ := List.mem_map.mp h
    have hk := stepsA_kid hq
    have := PlanD.deep_kid hk
    have := stepsA_one hq
    have := road_len hr
    show (q.1 ++ r'.1).length < p.deep
    rw [List.length_append]
    omega
termination_by p.deep
theorem line400 : 401 < sizeLine := by decide
theorem flat_take {α β : Type} (f : α → List β) {l : List α} {i : Nat} {x : α} (h : l[i]? = some x) : (l.take (i + 1)).flatMap f = (l.take i).flatMap f ++ f x := by
  rw [List.take_succ, h]
  simp
theorem flat_le {α β : Type} (f : α → List β) (l : List α) (i : Nat) : ((l.take i).flatMap f).length ≤ (l.flatMap f).length := by
  have : l.flatMap f = (l.take i).flatMap f ++ (l.drop i).flatMap f := by rw [← List.flatMap_append, List.take_append_drop]
  rw [this, List.length_append]
  omega
theorem ok_named_paths (T : Txt w K mg) : ∀ d, FnOk P w K mg base CX0 (d + 3) (He.ga K "named_paths") T.fd_named_paths ["plan"] (spNamed K d)
  | 0 => ⟨fun vs H Q E h => by
      obtain ⟨v, p, N, H0, ns, rfl, _⟩ := h
      rfl, fun A outer s H args us vs Q E hr e0 hb hv h => by
      obtain ⟨v, p, N, H0, ns, rfl, _, _, _, _, _, dp, _⟩ := h
      have := p.deep_pos
      omega⟩
  | d + 1 => by
    have ih := ok_named_paths T d
    refine T.F_named_paths.ok sc_named_paths (fun vs H Q E h => ?_) (fun cdv A outer s H vs Q E hr h => ⟨_, PSs.nox
      (pss_cons (ps_if (pt_cmpR op_eq (pe_ix ix_tup (pv 0) pe_int (fun _ _ => rfl)) pe_str (nomark _)) (pss_one (ps_ret (pe_lst (pa_cons (pe_tup (pa_cons (pe_tup pa_nil) (pa_cons (pe_ix ix_tup (pv 0) pe_int (fun _ _ => rfl)) pa_nil))) pa_nil)))) pss_nil)
      (pss_one (ps_ret (pe_lc2 (own := [("step", 1), ("part", 2), ("path", 3), ("name", 4)]) (vs1 := [3, 4]) rfl sc_named_paths.nd (pi_list (pe_call (ok_all_steps_of T) (hr.mono (by omega)) (by rfl) T.g_all_steps_of T.F_all_steps_of.kp T.b_all_steps_of .nil pass0 (pa_cons (pv 0) pa_nil))) (blkOk_by (N := ["plan", "step", "part", "path", "name"]) (sc := defScope s_named_paths) (by decide +kernel)) (by decide) (fun _ _ _ _ _ => (show PG _ _ (gTup K 2 (gCons (gName 1) (gCons (gName 2) gNil))) from pg_tup rfl (pgs_cons (pg_name (i := 1) sc_named_paths.nd rfl (.inl rfl) (hf := .inr rfl)) (pgs_cons (pg_name (i := 2) sc_named_paths.nd rfl (.inl rfl) (hf := .inr rfl)) pgs_nil)))) (fun _ _ _ _ _ => pts_nil) (fun _ _ _ _ _ => (show PI _ _ _ (iList K (tCall (spNamed K d) [] E0 (tCons (tVar 2) tNil))) from (pi_list (pe_call ih (hr.mono (by omega)) (by rfl) T.g_named_paths T.F_named_paths.kp T.b_named_paths .nil pass0 (pa_cons (pv 2) pa_nil))))) (fun _ _ _ _ _ => (show PG _ _ (gTup K 2 (gCons (gName 3) (gCons (gName 4) gNil))) from pg_tup rfl (pgs_cons (pg_name (i := 3) sc_named_paths.nd rfl (.inl rfl) (hf := .inr rfl)) (pgs_cons (pg_name (i := 4) sc_named_paths.nd rfl (.inl rfl) (hf := .inr rfl)) pgs_nil)))) (fun _ _ _ _ _ => pts_nil) (fun _ _ _ _ _ => (pe_tup (pa_cons (pe_op (show OpR _ _ (rCatA K) from op_catA) (pv 1) (pv 3)) (pa_cons (pv 4) pa_nil)))))))), ?_⟩)
    · obtain ⟨v, p, N, H0, ns, rfl, _⟩ := h
      rfl
    · obtain ⟨v, p, N, H0, ns, rfl, s0, PV, ok, cnt, sz, dp, d8, hQ⟩ := h
      have l64 := line64
      by_cases ht : ∃ n, p = .task n
      · obtain ⟨n, rfl⟩ := ht
        cases PV with
        | @task a n S0 =>
          have S := Q7.sqT_same s0 S0
          refine ⟨_, rfl, a, _, 0, _, rfl, rfl, S, at0, rfl, _, rfl, iteT' (by decide +kernel) ?_⟩
          refine ⟨Nat.zero_le _, fun e he => ⟨_, rfl, a, _, 1, _, rfl, rfl, Q7.sqT_same (same_new he) S, at1, two_le, fun t ht => ⟨one_le, fun l hl => ?_⟩⟩⟩
          have k1 := same_new (o := .tup []) he
          have A1 := upd_same (H := H) (a := e) (o := .tup [])
          generalize upd H e (.tup []) = H1 at *
          have k2 := same_new (o := .tup [.ref e, .str n]) ht
          have A2 := upd_same (H := H1) (a := t) (o := .tup [.ref e, .str n])
          generalize upd H1 t (.tup [.ref e, .str n]) = H2 at *
          have k3 := same_new (o := .lst [.ref t]) hl
          exact hQ l [.ref t] _ ((k1.trans k2).trans k3) (none_same (k1.trans k2) hl) upd_same (.cons ⟨t, e, rfl, sqT_of (k3 _ _ A2), k3 _ _ (k2 _ _ A1)⟩ .nil)
      have nt : ∀ n, p ≠ .task n := fun n e => ht ⟨n, e⟩
      obtain ⟨a, x, xs0, rfl, S0, hx⟩ : ∃ a x xs0, v = .ref a ∧ SqT K H0 a (.str x :: xs0) ∧ decide (V.str x = V.str "task") = false := by
        cases PV with
        | task S => exact absurd rfl (nt _)
        | many S => exact ⟨_, _, _, rfl, S, lw_task _⟩
        | one S => exact ⟨_, _, _, rfl, S, uw_task _⟩
        | watch S => exact ⟨_, _, _, rfl, S, by decide +kernel⟩
      refine ⟨_, rfl, a, _, 0, _, rfl, rfl, Q7.sqT_same s0 S0, at0, rfl, _, rfl, iteE hx ?_⟩
      refine ⟨_, rfl, .ref a, p, N, H0, ns, rfl, s0, PV, ok, cnt, fun l xs H1 s1 nl L1 PP => ⟨l, rfl, ⟨_, sqL_of L1⟩, fun D hD => ?_⟩⟩
      have hD0 : H D = none := none_same s1 hD
      have xl := pLen PP
      have ps := paths_steps nt
      have pl := paths_len ns p ok
      refine turn_list (xs := xs) (fun σ2 H3 Nx => _) (fun i H' => Same H1 H' ∧ ∃ zs, H' D = some (.lst zs) ∧ Paired (RoadB K H') zs (((stepsA p).take i).flatMap fun q => (paths q.2).map (ahead q.1))) ⟨same_new hD, [], upd_same, .nil⟩ (fun i H' _ r => sqL_of (r.1 _ _ L1)) ?_ ?_
      · rintro i v H' hv ⟨sm, zs, hd, PR⟩
        obtain ⟨⟨ks, q⟩, hq, t, st, y, rfl, S1, S2, Py⟩ := pGet PP hv
        have hqm : q ∈ p.kids := stepsA_kid (List.mem_of_getElem? hq)
        have hdq := PlanD.deep_kid hqm
        have hcq := count_kid hqm
        have hsq := size_kid ok hqm
        refine ⟨t, _, rfl, Q7.sqT_same sm S1, rfl, _, _, rfl, _, _, rfl, rfl, rfl, ?_⟩
        refine ⟨_, rfl, y, q, N, H0, ns, rfl, (s0.trans s1).trans sm, Py, PlanD.ok_kid ok hqm, by omega, by omega, by omega, by omega, fun l2 ys H2 s2 nl2 L2 P2 => ⟨l2, rfl, ⟨_, sqL_of L2⟩, ?_⟩⟩
        have ne2 : D ≠ l2 := fun e => by
          subst e
          rw [hd] at nl2
          cases nl2
        have yl := pLen P2
        have h1 := flat_take (fun q : List Int × PlanD => (paths q.2).map (ahead q.1)) hq
        have h2 := flat_le (fun q : List Int × PlanD => (paths q.2).map (ahead q.1)) (stepsA p) (i + 1)
        rw [h1, ← ps, List.length_append, List.length_map] at h2
        dsimp only at h2
        refine turn_list (xs := ys) (fun σ2 H3 Nx => _) (fun j H3 => Same H1 H3 ∧ TB H2 H3 ∧ H3 l2 = some (.lst ys) ∧ Paired (RoadB K H3) ys (paths q) ∧ ∃ zs, H3 D = some (.lst zs) ∧
          Paired (RoadB K H3) zs (((stepsA p).take i).flatMap (fun q => (paths q.2).map (ahead q.1)) ++ ((paths q).take j).map (ahead ks))) ⟨sm.trans s2, same_tb (Same.refl _), L2, P2, zs, s2 _ _ hd, by rw [List.take_zero, List.map_nil, List.append_nil]; exact pImp (fun _ _ z => roadB_tk z (same_tb s2)) PR⟩ (fun j H3 _ r => sqL_of r.2.2.1) ?_ ?_
        · rintro j v H3 hv2 ⟨sm3, tk3, L3, P3, zs3, hd3, PR3⟩
          obtain ⟨r, hr, b, t2, rfl, B1, B2⟩ := pGet P3 hv2
          have hj := (List.getElem?_eq_some_iff.mp hv2).1
          have hrm : ahead ks r ∈ paths p := by
            rw [ps]
            exact List.mem_flatMap.mpr ⟨(ks, q), List.mem_of_getElem? hq, List.mem_map.mpr ⟨r, List.mem_of_getElem? hr, rfl⟩⟩
          have rl : (ks ++ r.1).length < p.deep := road_len hrm
          rw [List.length_append] at rl
          have l4 := line400
          refine ⟨b, _, rfl, B1, rfl, _, _, rfl, _, _, rfl, rfl, rfl, ?_⟩
          refine ⟨_, rfl, _, rfl, cat_road (ks := ks) (((same_tb (sm.trans s2)).trans tk3).ex _ _ S2) B2 (by omega) fun z H4 s4 S4 => ?_⟩
          refine ⟨_, rfl, two_le, fun c hc => ?_⟩
          have k5 := same_new (o := .tup [.ref z, .str r.2]) hc
          have A5 := upd_same (H := H4) (a := c) (o := .tup [.ref z, .str r.2])
          have hd5 := k5 _ _ (s4 _ _ hd3)
          have L5 := k5 _ _ (s4 _ _ L3)
          have tk5 := (same_tb s4).trans (same_tb k5)
          replace S4 := k5 _ _ S4
          have sm5 := (sm3.trans s4).trans k5
          generalize upd H4 c (.tup [.ref z, .str r.2]) = H5 at *
          have tk : TB H5 (upd H5 D (.lst (zs3 ++ [.ref c]))) := tb_lst hd5
          have zl := pLen PR3
          simp only [List.length_append, List.length_map, List.length_take] at zl
          refine ⟨zs3, hd5, by omega, same_mut sm5 hD, (tk3.trans tk5).trans tk, by rw [upd_ne ne2.symm]; exact L5, pImp (fun _ _ z => roadB_tk z (tk5.trans tk)) P3, zs3 ++ [.ref c], upd_same, ?_⟩
          rw [List.take_succ, hr, List.map_append, ← List.append_assoc]
          exact pApp (pImp (fun _ _ z => roadB_tk z (tk5.trans tk)) PR3) (.cons ⟨c, z, rfl, sqT_tk (sqT_of A5) tk.tk, tk.ex _ _ S4⟩ .nil)
        · rintro H3 ⟨sm3, tk3, L3, P3, zs3, hd3, PR3⟩
          refine ⟨sm3, zs3, hd3, ?_⟩
          rw [yl, List.take_length] at PR3
          rw [h1]
          exact PR3
      · rintro H3 ⟨sm3, zs, hd3, PR⟩
        rw [xl, List.take_length, ← ps] at PR
        exact hQ D zs H3 (s1.trans sm3) hD0 hd3 PR
end
end L10
set_option maxRecDepth 100000
set_option maxHeartbeats 4000000
namespace Q7
open PySem PySem.Spec PyProof.Rows L2
/-! ### {k: v for .. in ..}, the keys tuples -/
/-- a turn's reading: D the dict -/
def TurnK (D : Addr) (g : TG) (tt : TT) (tk te : TE) (vs : List Nat) (σ : L2.St) (Nx : Hp → Prop) (x : V) (H' : Hp) : Prop :=
  g x (wipe σ vs) H' fun σ2 H2 => wipe σ2 vs = wipe σ vs ∧ tt σ2 H2 fun b H3 =>
    if b = true then tk σ2 H3 fun y H4 => te σ2 H4 fun z H5 => ∃ (a : Addr) (k : List Key) (kvs : List (List Key × V)), y = .ref a ∧ H5 a = some (.tup (k.map kV)) ∧ H5 D = some (.dT kvs) ∧ kvs.length < sizeLine ∧ Nx (upd H5 D (.dT (putK kvs k z))) else Nx H3
def tDictT (wi : TI) (g : TG) (tt : TT) (tk te : TE) (vs : List Nat) : TE := fun σ H Q => wi σ H fun J H1 => ∀ D, H1 D = none → ∃ W : Nat → Nat → Hp → Prop, (∃ m, W 0 m (upd H1 D (.dT []))) ∧ ∀ i m H, W i m H →
  (J.stop i H ∧ Q (.ref D) H) ∨ (J.go i H ∧ ∃ Nx : Hp → Prop, (∀ H', Nx H' → ∃ m', m' < m ∧ W (i + 1) m' H') ∧ ∀ x H', J.yld i H x H' → TurnK D g tt tk te vs σ Nx x H')
theorem dictT_set {X : Cx} {pins : List (Addr × Obj)} {σ : L2.St} {H : Hp} {s : Shared} {E : Value → Shared → Prop} {D a : Addr} {kvs : List (List Key × V)} {k : List Key} {v : V} {u r : Value} {Q : Unit → Shared → Prop} (hu : X.A.units + 1 < cLine) (I : Inv X pins σ H s) (hD : H D = some (.dT kvs)) (room : kvs.length < sizeLine)
    (ha : H a = some (.tup (k.map kV))) (ru : RelV (.ref a) u) (rv : RelV v r) (h : ∀ s', Inv X pins σ (upd H D (.dT (putK kvs k v))) s' → Q () s') : wpAny (model X.prog X.w) X.A (dictSet D u r) Q E s := by
  obtain rfl : u = Value.ref a := ru
  obtain ⟨size_, notSys, items, rel, here⟩ := dt_of I.hok hD
  have few : items.length ≤ sizeLine := by
    rw [← Paired.length rel]
    exact size_
  have few2 : (putK kvs k v).length ≤ sizeLine := by
    have := length_putK kvs k v
    omega
  apply wpAny_dictSet_heap (hsz := few) (show X.A.units < cLine by omega) (key_of I.hok ha) here
  rintro h2 ⟨o, es, ep, e, p1, p2, p3, _, p4⟩ sb
  apply h
  refine d_write I (by rw [hD]; trivial) sb ⟨o, e⟩ ⟨few2, notSys, _, (rel.put k ha rv).keeps (fun c ys ec => ?_), o, es, ep, e, p1, p2, p3, p4⟩
  have other : c ≠ D := fun z => by
    rw [z, hD] at ec
    cases ec
  rw [upd_ne other]
  exact ec
section
variable {X : Cx} {kx elt tg iter : Expr} {ifs : List Expr} {scope : Scope} {own : List (PySem.Str × Nat)} {pos : Pos} {wi : TI} {g : TG} {tt : TT} {tk te : TE}
theorem dct_core {pins : List (Addr × Obj)} {s : Shared} {σ : L2.St} {H : Hp} {Q : VK} {pos' : Pos} {use : Option (Value → Sem Unit)} {Qf : Value → Shared → Prop} (hu : X.A.units + 1 < cLine) (calm : X.calm = true) (nd : X.N.Nodup) (hi : PI X tg iter wi) (blk : BlkOk X.N X.env.scope scope own)
    (rg : ∀ (s : Shared) (H : Hp) (C : Addr) (cl : List (PySem.Str × Addr)) (fp : List Addr), PG (X.blk s H scope (compEnvC scope cl C X.env) fp) tg g)
    (rt : ∀ (s : Shared) (H : Hp) (C : Addr) (cl : List (PySem.Str × Addr)) (fp : List Addr), PTs (X.blk s H scope (compEnvC scope cl C X.env) fp) ifs tt)
    (rk : ∀ (s : Shared) (H : Hp) (C : Addr) (cl : List (PySem.Str × Addr)) (fp : List Addr), PE (X.blk s H scope (compEnvC scope cl C X.env) fp) kx tk)
    (re : ∀ (s : Shared) (H : Hp) (C : Addr) (cl : List (PySem.Str × Addr)) (fp : List Addr), PE (X.blk s H scope (compEnvC scope cl C X.env) fp) elt te) (hs : ∀ x, foldedSetIterable iter X.env x = pure x)
    (I : Inv X pins σ H s) (h : tDictT wi g tt tk te (own.map (·.2)) σ H Q)
    (after : ∀ D C s' m H', Inv X pins σ H' s' → Q (.ref D) H' → s'.heap.Ns C m → FpOk X pins H' C → compPost (model X.prog X.w) X.A X.xe use Qf (.ref D) C (.ok .next) s') :
    wpAny (model X.prog X.w) X.A (comprehension (.DictComp kx elt [⟨tg, iter, ifs, 0⟩] scope pos) scope X.env pos' newDict false (eval iter X.env) use) Qf X.xe s := by
  have captured : ∀ y ∈ scope.names, y.2 = .free → ∃ c, X.env.cells.lookup y.1 = some c := by
    intro y hy e
    exact (blk.free y hy e).elim (fun k => I.ok.has _ (.inl k)) fun k => I.ok.has _ (.inr k)
  apply wpAny_comprehension_free rfl hs (closure_ok captured) blk.kind
  · intro y hy e
    rw [blk.uniq y hy, e]
  apply thn (hi.run pins s σ H _ I h)
  intro xv s1 reading
  apply thn reading
  rintro itv s2 ⟨it, fp, tn, J, H2, rfl, I2, T, st2, f2, q⟩
  refine wpAny_newObj_type ?_
  obtain ⟨s3, name3⟩ : ∃ s3 : Shared, s3 = { s2 with heap := s2.heap.push ({ cls := .type "dict", data := .dict #[] } : Obj) } := ⟨_, rfl⟩
  change wpAny _ _ _ _ _ { s2 with heap := s2.heap.push ({ cls := .type "dict", data := .dict #[] } : Obj) }
  rw [← name3]
  have e3 : s3.heap = s2.heap.push ({ cls := .type "dict", data := .dict #[] } : Obj) := by rw [name3]
  apply newEnv_comp
  have free_ : H2 s2.heap.objs.size = none := I2.hok.fresh (Nat.le_refl _)
  obtain ⟨W, ⟨m0, w0⟩, turn⟩ := q _ free_
  have grown : ∀ b o, s2.heap.get? b = some o → s3.heap.get? b = some o := fun b o e => by
    rw [e3]
    exact Heap.get?_push_of_some _ e
  have I3 : Inv X pins σ (upd H2 s2.heap.objs.size (.dT [])) s3 := by
    rw [name3]
    exact I2.laid (t' := s2.toks) (fun b o e => Heap.get?_push_of_some _ e) (Nat.le_refl _) (dt_empty s2.heap I2.big)
  have f3 : ∀ b ∈ fp, FpOk X pins (upd H2 s2.heap.objs.size (.dT [])) b ∧ b < s3.heap.objs.size := by
    intro b hb
    have lt := Heap.lt_size (T.obj _ _ st2 b hb).choose_spec.1
    refine ⟨⟨(upd_ne (Nat.ne_of_lt lt)).trans (f2 b hb).1, (f2 b hb).2⟩, ?_⟩
    rw [e3, Heap.size_push]
    exact Nat.lt_succ_of_lt lt
  have st3 : tn 0 s3.heap := T.keep _ _ _ st2 fun b _ o e => grown b o e
  generalize upd H2 s2.heap.objs.size (.dT []) = H3 at w0 I3 f3
  generalize s2.heap.objs.size = D at turn ⊢
  have I4 := block_start I3 blk nd f3
  have tgt := rg s3 H3 s3.heap.objs.size (cellsFrom (s3.heap.objs.size + 1) scope.names (cloFrom X.env.cells scope.names [])) fp
  have tests := rt s3 H3 s3.heap.objs.size (cellsFrom (s3.heap.objs.size + 1) scope.names (cloFrom X.env.cells scope.names [])) fp
  have keys := rk s3 H3 s3.heap.objs.size (cellsFrom (s3.heap.objs.size + 1) scope.names (cloFrom X.env.cells scope.names [])) fp
  have elem := re s3 H3 s3.heap.objs.size (cellsFrom (s3.heap.objs.size + 1) scope.names (cloFrom X.env.cells scope.names [])) fp
  have st4 : tn 0 (pushCells (s3.heap.push { cls := .type "dict", data := .dict #[] }) scope.names) := T.keep _ _ _ st3 fun b _ o e => pushCells_keeps _ _ _ _ (Heap.get?_push_of_some _ e)
  change codeAny _ _ (.compStart (.DictComp kx elt [⟨tg, iter, ifs, 0⟩] scope pos) 0 (.ref it) (.ref D) (compEnvC scope (cellsFrom (s3.heap.objs.size + 1) scope.names (cloFrom X.env.cells scope.names [])) s3.heap.objs.size X.env))
    (compPost (model X.prog X.w) X.A X.xe use Qf (.ref D) s3.heap.objs.size) { s3 with heap := pushCells (s3.heap.push { cls := .type "dict", data := .dict #[] }) scope.names }
  have place : (compEnvC scope (cellsFrom (s3.heap.objs.size + 1) scope.names (cloFrom X.env.cells scope.names [])) s3.heap.objs.size X.env).locals = s3.heap.objs.size := rfl
  generalize compEnvC scope (cellsFrom (s3.heap.objs.size + 1) scope.names (cloFrom X.env.cells scope.names [])) s3.heap.objs.size X.env = env at place I4 tgt tests keys elem ⊢
  obtain ⟨s4, name4⟩ : ∃ s4 : Shared, s4 = { s3 with heap := pushCells (s3.heap.push { cls := .type "dict", data := .dict #[] }) scope.names } := ⟨_, rfl⟩
  rw [← name4] at I4 ⊢
  have st4 : tn 0 s4.heap := by
    rw [name4]
    exact st4
  -- between the turns
  let At : Nat → Shared → Prop := fun n s' => ∃ i H', Inv (X.blk s3 H3 scope env fp) [] (wipe σ (own.map (·.2))) H' s' ∧ tn i s'.heap ∧ (∀ b ∈ fp, H' b = none) ∧ W i n H'
  have still : ∀ {σ' : L2.St} {H' : Hp} {s' : Shared}, Inv (X.blk s3 H3 scope env fp) [] σ' H' s' → (∀ b ∈ fp, H' b = none) → ∀ b ∈ fp, FpOk (X.blk s3 H3 scope env fp) [] H' b := by
    intro σ' H' s' I' no b hb
    have outer_ := I'.ok.exf b hb
    exact ⟨no b hb, outer_.1, I'.ok.exfs b hb, .inl hb, fun x c e => outer_.2 x c e, fun p hp => nomatch (show p ∈ ([] : List (Addr × Obj)) from hp)⟩
  have turns : codeAny (model X.prog X.w) X.A (.compLoop (.DictComp kx elt [⟨tg, iter, ifs, 0⟩] scope pos) 0 (.ref it) (.ref D) env) (compPost (model X.prog X.w) X.A X.xe use Qf (.ref D) s3.heap.objs.size) s4 := by
    refine compLoop_anyD At ?_ m0 ⟨0, H3, I4, st4, fun b hb => (f3 b hb).1.1, w0⟩
    rintro n s5 ⟨i, H5, I5, st5, n5, w5⟩
    cases turn i n H5 w5 with
    | inl last_ =>
      obtain ⟨stop, qq⟩ := last_
      apply thnF (T.done (X.blk s3 H3 scope env fp) rfl rfl rfl calm i [] s5 _ H5 (fun _ _ => False) I5 (still I5 n5) st5 stop)
      rintro r s6 ⟨rfl, I6⟩
      have I7 : Inv X pins σ H5 s6 := I3.call' (ch := fp) I6.os I6.base I6.hok I6.bare fun b hb => by
        obtain ⟨_, p1, p2, p3, p4, p5⟩ := (f3 b hb).1
        exact ⟨p3, p1, p4, p5⟩
      obtain ⟨m, named, _⟩ := I6.loc
      have named : s6.heap.Ns env.locals m := named
      have noC : H5 env.locals = none := I6.free
      rw [place] at named noC
      exact after D _ s6 m H5 I7 qq named (I3.fpOk (Nat.le_refl _) noC)
    | inr more_ =>
      obtain ⟨go, Nx, hNx, step⟩ := more_
      apply thnF (T.item (X.blk s3 H3 scope env fp) rfl rfl rfl calm i [] s5 _ H5 (fun _ _ => False) I5 (still I5 n5) st5 go)
      rintro r s6 ⟨u, rfl, h6⟩
      apply thnF h6
      rintro _ s7 ⟨x, H7, I7, r7, y7, st7, n7⟩
      have pinned_ := I7.pinned (still I7 n7) (T.obj _ _ st7)
      apply thnF (tgt.run _ s7 _ H7 x u _ pinned_ r7 (step x H7 y7))
      rintro _ s8 ⟨σ8, H8, I8, wiped, q8⟩
      apply thnF (tests.run _ s8 σ8 H8 _ I8 q8)
      rintro b s9 ⟨H9, I9, q9⟩
      have onward : ∀ {s' : Shared} {H' : Hp}, Inv (X.blk s3 H3 scope env fp) ([] ++ pinsAt fp s7.heap) σ8 H' s' → Nx H' → ∃ m, m < n ∧ At m s' := by
        intro s' H' I' nx
        obtain ⟨m1, less, w1⟩ := hNx H' nx
        have same_ : ∀ b ∈ fp, ∀ o, s7.heap.get? b = some o → s'.heap.get? b = some o ∧ H' b = none := by
          intro b hb o e
          have z := I'.pin (b, o) (List.mem_append_right _ (List.mem_append_right _ (mem_pinsAt hb e)))
          exact ⟨z.1, z.2.1⟩
        refine ⟨m1, less, i + 1, H', (I'.unpinned (pins := [])).weak ?_ (fun j v e => ?_), T.keep _ _ _ st7 (fun b hb o e => (same_ b hb o e).1), fun b hb => ?_, w1⟩
        · rw [← wiped, wipe_length]
        · rw [← wiped] at e
          exact (wipe_some e).1
        · obtain ⟨o, e, _⟩ := T.obj _ _ st7 b hb
          exact (same_ b hb o e).2
      cases b with
      | false => exact onward I9 q9
      | true =>
        apply thnF (keys.run _ s9 σ8 H9 _ I9 q9)
        rintro y s10 ⟨yk, H10, I10, r10, q10⟩
        apply thnF (elem.run _ s10 σ8 H10 _ I10 q10)
        rintro z s11 ⟨yv, H11, I11, r11, a, k, kvs, rfl, ha, hD, room, nx⟩
        exact dictT_set (X := X.blk s3 H3 scope env fp) hu I11 hD room ha r10 r11 fun s12 I12 => onward I12 nx
  exact codeAny_compStart_dict turns (T.self X.A 0 _ _ _ st4 turns)
theorem pe_dct (hu : X.A.units + 1 < cLine) (calm : X.calm = true) (nd : X.N.Nodup) (hi : PI X tg iter wi) (blk : BlkOk X.N X.env.scope scope own)
    (rg : ∀ (s : Shared) (H : Hp) (C : Addr) (cl : List (PySem.Str × Addr)) (fp : List Addr), PG (X.blk s H scope (compEnvC scope cl C X.env) fp) tg g)
    (rt : ∀ (s : Shared) (H : Hp) (C : Addr) (cl : List (PySem.Str × Addr)) (fp : List Addr), PTs (X.blk s H scope (compEnvC scope cl C X.env) fp) ifs tt)
    (rk : ∀ (s : Shared) (H : Hp) (C : Addr) (cl : List (PySem.Str × Addr)) (fp : List Addr), PE (X.blk s H scope (compEnvC scope cl C X.env) fp) kx tk)
    (re : ∀ (s : Shared) (H : Hp) (C : Addr) (cl : List (PySem.Str × Addr)) (fp : List Addr), PE (X.blk s H scope (compEnvC scope cl C X.env) fp) elt te) (hs : ∀ x, foldedSetIterable iter X.env x = pure x := by intro _; rfl) :
    PE X (.DictComp kx elt [⟨tg, iter, ifs, 0⟩] scope pos) (tDictT wi g tt tk te (own.map (·.2))) := by
  constructor
  intro pins s σ H Q I h
  rw [arm_eval_DictComp]
  apply dct_core hu calm nd hi blk rg rt rk re hs I h
  rintro D C s' m H' I' q named ⟨c0, c1, c2, c3, c4, c5⟩
  refine ⟨m, named, fun h2 sb => ?_⟩
  exact ⟨.ref D, H', I'.turned (t' := s'.toks) (fun b o ne e => (sb.2 b ne).trans e) c0 c1 c3 c4 c5, rfl, q⟩
/-- name = {k: v for ..}, the name a local -/
theorem ps_setDct {i : Nat} {y : PySem.Str} {py spos : Pos} (hu : X.A.units + 1 < cLine) (calm : X.calm = true) (nd : X.N.Nodup) (hi : PI X tg iter wi) (blk : BlkOk X.N X.env.scope scope own)
    (rg : ∀ (s : Shared) (H : Hp) (C : Addr) (cl : List (PySem.Str × Addr)) (fp : List Addr), PG (X.blk s H scope (compEnvC scope cl C X.env) fp) tg g)
    (rt : ∀ (s : Shared) (H : Hp) (C : Addr) (cl : List (PySem.Str × Addr)) (fp : List Addr), PTs (X.blk s H scope (compEnvC scope cl C X.env) fp) ifs tt)
    (rk : ∀ (s : Shared) (H : Hp) (C : Addr) (cl : List (PySem.Str × Addr)) (fp : List Addr), PE (X.blk s H scope (compEnvC scope cl C X.env) fp) kx tk)
    (re : ∀ (s : Shared) (H : Hp) (C : Addr) (cl : List (PySem.Str × Addr)) (fp : List Addr), PE (X.blk s H scope (compEnvC scope cl C X.env) fp) elt te) (hy : X.N[i]? = some y) (loc : X.env.scope.names.lookup y = some .local)
    (sw : swapsWith (.DictComp kx elt [⟨tg, iter, ifs, 0⟩] scope pos) (some (.Name y py)) spos.line X.env = pure true) (hs : ∀ x, foldedSetIterable iter X.env x = pure x := by intro _; rfl) :
    PS X (.Assign [.Name y py] (.DictComp kx elt [⟨tg, iter, ifs, 0⟩] scope pos) spos) (tAsg (tDictT wi g tt tk te (own.map (·.2))) (gName i)) := by
  constructor
  intro pins s σ H D I h
  rw [exec_Assign_Name_used _ _ _ _ sw]
  apply wpAny_bind
  apply wpAny_standAt
  apply wpAny_bind
  change wpAny _ X.A (do let _ ← comprehension (.DictComp kx elt [⟨tg, iter, ifs, 0⟩] scope pos) scope X.env (firstIterPos [⟨tg, iter, ifs, 0⟩] pos) newDict false (eval iter X.env) (some (assign (.Name y py) X.env))) _ _ s
  have h : tDictT wi g tt tk te (own.map (·.2)) σ H (fun x H1 => gName i x σ H1 D.nx) := h
  apply wpAny_bind
  refine thn (dct_core (Qf := fun _ s' => SP X pins D .next s') hu calm nd hi blk rg rt rk re hs I h ?_) fun _ s' q => wpAny_pure (wpAny_pure q)
  rintro L C s' m H' I' q named ⟨c0, c1, c2, c3, c4, c5⟩
  change wpAny _ _ (assign (.Name y py) X.env (.ref L)) _ _ _
  refine wpAny_assign_Name (store_ok2 (v := V.ref L) I' nd hy (.inl loc) rfl ?_ (.inr loc))
  rintro s2 I2 ⟨a, sb, ha⟩
  have away : C ≠ a := by
    rcases ha with z | z
    · rw [z]
      exact c1
    · intro e
      exact c4 y a z e.symm
  refine ⟨m, named.sameBut sb away, fun h3 sb3 => ?_⟩
  exact ⟨_, H', I2.turned (t' := s2.toks) (fun b o ne e => (sb3.2 b ne).trans e) c0 c1 c3 c4 c5, q⟩
end
/-- over a list that the block leaves as it is -/
theorem dct_list {K : PySem.W.Frag} {a : Addr} {xs : List V} {g : TG} {tt : TT} {tk te : TE} {vs : List Nat} {σ : L2.St} {H1 : Hp} {D : Addr} {Qd : Hp → Prop} (Pv : Nat → Hp → Prop) (h0 : Pv 0 (upd H1 D (.dT []))) (hl : ∀ i H, i ≤ xs.length → Pv i H → SqL K H a xs)
    (hs : ∀ i x H, xs[i]? = some x → Pv i H → TurnK D g tt tk te vs σ (Pv (i + 1)) x H) (hd : ∀ H, Pv xs.length H → Qd H) :
    ∃ W : Nat → Nat → Hp → Prop, (∃ m, W 0 m (upd H1 D (.dT []))) ∧ ∀ i m H, W i m H →
      ((Itl K a).stop i H ∧ Qd H) ∨ ((Itl K a).go i H ∧ ∃ Nx : Hp → Prop, (∀ H', Nx H' → ∃ m', m' < m ∧ W (i + 1) m' H') ∧ ∀ x H', (Itl K a).yld i H x H' → TurnK D g tt tk te vs σ Nx x H') := by
  refine ⟨fun i m H => m + i = xs.length ∧ Pv i H, ⟨xs.length, rfl, h0⟩, ?_⟩
  rintro i m H ⟨sum, p⟩
  have here := hl i H (by omega) p
  cases m with
  | zero =>
    have e : i = xs.length := by omega
    subst e
    exact .inl ⟨⟨xs, here, Nat.le_refl _⟩, hd H p⟩
  | succ m =>
    have lt : i < xs.length := by omega
    refine .inr ⟨⟨xs, xs[i], here, List.getElem?_eq_getElem lt⟩, Pv (i + 1), fun H' p' => ⟨m, Nat.lt_succ_self m, by omega, p'⟩, ?_⟩
    rintro x H' ⟨rfl, yl⟩
    exact hs i x _ (yl xs here) p
end Q7
set_option maxRecDepth 100000
set_option maxHeartbeats 4000000
namespace L10
open PySem PySem.Spec PyProof.Rows L2 Q7
section
variable {P : Program} {w : World} {K : PySem.W.Frag} {mg : Str → Option Value} {base : Heap}
/-! ### any path -/
def spWholeA (K : PySem.W.Frag) : Sp := fun vs H Q _ => ∃ v t, vs = [v] ∧ Ki K H v t ∧ Q (.bl (t == "int")) H
theorem ok_is_whole_A (T : Txt w K mg) : FnOk P w K mg base CX0 1 (He.ga K "is_whole") T.fd_is_whole ["value"] (spWholeA K) := by
  refine T.F_is_whole.ok sc_is_whole (fun vs H Q E h => ?_) (fun cdv A outer s H vs Q E hr h => ⟨_, PSs.nox
    (pss_one (ps_ret (pe_and (pe_callB call_isi (by rfl) T.m_isinstance (by decide +kernel) (pa_cons (pv 0) (pa_cons (pe_bltn rfl T.m_int (v := .ty "int") (u := .type "int") (by decide +kernel) rfl) pa_nil))) (pe_one (pe_not (pe_callB call_isi (by rfl) T.m_isinstance (by decide +kernel) (pa_cons (pv 0) (pa_cons (pe_bltn rfl T.m_bool (v := .ty "bool") (u := .type "bool") (by decide +kernel) rfl) pa_nil)))))))), ?_⟩)
  · obtain ⟨v, t, rfl, _⟩ := h
    rfl
  · obtain ⟨v, t, rfl, ⟨ty, mem⟩, hQ⟩ := h
    have kt := T.kit t mem
    refine ⟨_, rfl, _, _, _, _, _, rfl, .ty _, ty, kt.int, _, rfl, ?_⟩
    by_cases e : t = "int"
    · subst e
      exact iteT ⟨_, rfl, _, _, _, _, _, rfl, .ty _, ty, kt.bool, _, rfl, hQ⟩
    · by_cases e2 : t = "bool"
      · subst e2
        exact iteT ⟨_, rfl, _, _, _, _, _, rfl, .ty _, ty, kt.bool, _, rfl, hQ⟩
      · have z1 : (t == "int") = false := by simpa using e
        have z2 : (t == "bool") = false := by simpa using e2
        rw [z1] at hQ
        rw [z1, z2]
        exact iteF hQ
inductive PathV (K : PySem.W.Frag) (H : Hp) : V → Option (List Int) → Prop where
  | road {a : Addr} {ks : List Int} : H a = some (.tup (ks.map V.int)) → ks.length < 64 → PathV K H (.ref a) (some ks)
  | kind {v : V} {t : String} : Ki K H v t → t ≠ "tuple" → PathV K H v none
  | odd {a : Addr} {xs : List V} {ts : List String} : H a = some (.tup xs) → Paired (fun x t => Ki K H x t) xs ts → ts.all (· == "int") = false → xs.length < 64 → PathV K H (.ref a) none
theorem pathV_same {H H' : Hp} {v : V} {o : Option (List Int)} (h : PathV K H v o) (s : Same H H') : PathV K H' v o := by
  cases h with
  | road e l => exact .road (s _ _ e) l
  | kind k n => exact .kind (ki_same s k) n
  | odd e p n l => exact .odd (s _ _ e) (pImp (fun _ _ z => ki_same s z) p) n l
theorem ints_ki {K : PySem.W.Frag} {H : Hp} : ∀ ks : List Int, Paired (fun x t => Ki K H x t) (ks.map V.int) (ks.map fun _ => "int")
  | [] => .nil
  | k :: ks => .cons (ki_int k) (ints_ki ks)
def spPath (K : PySem.W.Frag) : Sp := fun vs H Q _ => ∃ v o, vs = [v] ∧ PathV K H v o ∧ ∀ H', Same H H' → Q (.bl o.isSome) H'
theorem ok_is_path (T : Txt w K mg) : FnOk P w K mg base CX0 2 (He.ga K "is_path") T.fd_is_path ["value"] (spPath K) := by
  refine T.F_is_path.ok sc_is_path (fun vs H Q E h => ?_) (fun cdv A outer s H vs Q E hr h => ⟨_, PSs.nox
    (pss_one (ps_ret (pe_and (pe_callB call_isi (by rfl) T.m_isinstance (by decide +kernel) (pa_cons (pv 0) (pa_cons (pe_bltn rfl T.m_tuple (v := .ty "tuple") (u := .type "tuple") (by decide +kernel) rfl) pa_nil))) (pe_one (pe_callB (cr_all rfl) (by rfl) T.m_all (by decide +kernel) (pa_cons (pe_lc (own := [("index", 1)]) rfl sc_is_path.nd (pi_tup (pv 0)) (blkOk_by (N := ["value", "index"]) (sc := defScope s_is_path) (by decide +kernel)) (fun _ _ _ _ _ => (pg_name (i := 1) sc_is_path.nd rfl (.inl rfl) (hf := .inr rfl))) (fun _ _ _ _ _ => pts_nil) (fun _ _ _ _ _ => (pe_call (ok_is_whole_A T) (hr.mono (by decide)) (by rfl) T.g_is_whole T.F_is_whole.kp T.b_is_whole .nil pass0 (pa_cons (pv 1) pa_nil)))) pa_nil)))))), ?_⟩)
  · obtain ⟨v, o, rfl, _⟩ := h
    rfl
  · obtain ⟨v, o, rfl, PV, hQ⟩ := h
    have l64 := line64
    have hh : (∃ t, Ki K H v t ∧ t ≠ "tuple" ∧ o = none) ∨ ∃ a xs ts, v = .ref a ∧ H a = some (.tup xs) ∧ Paired (fun x t => Ki K H x t) xs ts ∧ ts.all (· == "int") = o.isSome ∧ xs.length < 64 := by
      cases PV with
      | kind k ne => exact .inl ⟨_, k, ne, rfl⟩
      | @road a ks e l => exact .inr ⟨a, _, ks.map fun _ => "int", rfl, e, ints_ki ks, by simp, by rw [List.length_map]; exact l⟩
      | odd e p n l => exact .inr ⟨_, _, _, rfl, e, p, n, l⟩
    rcases hh with ⟨t, ⟨ty, mem⟩, ne, rfl⟩ | ⟨a, xs, ts, rfl, e, p, eo, fx⟩
    · have kt := T.kit _ mem
      refine ⟨_, rfl, _, _, _, _, _, rfl, .ty _, ty, kt.tup, _, rfl, iteE (by simpa using ne) ?_⟩
      exact hQ _ (Same.refl _)
    have kt := T.kit "tuple" (by decide)
    have xl := pLen p
    refine ⟨_, rfl, _, _, _, _, _, rfl, .ty _, (ki_tup (sqT_of e)).1, kt.tup, _, rfl, iteT' rfl ?_⟩
    refine ⟨_, rfl, a, rfl, ⟨_, sqT_of e⟩, fun D hD => ?_⟩
    refine lc_tup (xs := xs) (fun i H' => Same H H' ∧ H' D = some (.lst (((ts.take i).map (· == "int")).map V.bl))) ⟨same_new hD, upd_same⟩ (fun i H' _ r => Q7.sqT_same r.1 (sqT_of e)) ?_ ?_
    · rintro i x H' hx ⟨sm, hd⟩
      obtain ⟨t, ht, k⟩ := pGet p hx
      refine ⟨rfl, _, rfl, x, t, rfl, ki_same sm k, _, hd, by simp only [List.length_map, List.length_take]; omega, same_mut sm hD, ?_⟩
      rw [upd_same, List.take_succ, ht]
      simp
    · rintro H2 ⟨s2, hd2⟩
      rw [xl, List.take_length] at hd2
      refine ⟨D, _, rfl, sqL_of hd2, ?_⟩
      have hE := hQ _ s2
      rw [← eo] at hE
      show Q (.bl _) H2
      rw [show ((ts.map (· == "int")).all id) = ts.all (· == "int") by rw [List.all_map]; rfl]
      exact hE
/-! ### the doors -/
theorem nodup_le : ∀ {L ns : List Str}, L.Nodup → (∀ x ∈ L, x ∈ ns) → L.length ≤ ns.length
  | [], _, _, _ => Nat.zero_le _
  | x :: L, ns, nd, h => by
    obtain ⟨no, nd⟩ := List.nodup_cons.mp nd
    have hx := h x List.mem_cons_self
    have := nodup_le (L := L) (ns := ns.erase x) nd fun y hy => (List.mem_erase_of_ne (fun e => no (by rw [← e]; exact hy))).mpr (h y (List.mem_cons_of_mem _ hy))
    rw [List.length_erase_of_mem hx] at this
    have := List.length_pos_of_mem hx
    show L.length + 1 ≤ ns.length
    omega
theorem road_name {ns : List Str} {p : PlanD} {r : List Int × Str} (ok : p.ok ns) (h : r ∈ paths p) : r.2 ∈ ns := by
  by_cases ht : ∃ n, p = .task n
  · obtain ⟨n, rfl⟩ := ht
    rw [List.mem_singleton.mp h]
    exact ok
  · rw [paths_steps fun n e => ht ⟨n, e⟩] at h
    obtain ⟨q, hq, h⟩ := List.mem_flatMap.mp h
    obtain ⟨r', hr, rfl⟩ := List.mem_map.mp h
    have hk := stepsA_kid hq
    have := PlanD.deep_kid hk
    exact (road_name (PlanD.ok_kid ok hk) hr : r'.2 ∈ ns)
termination_by p.deep
def namesOf (p : PlanD) : List Str := addAll [] ((paths p).map (·.2))
theorem namesOf_few {ns : List Str} {p : PlanD} (ok : p.ok ns) : (namesOf p).length ≤ ns.length := nodup_le (addAll_once _ _ List.nodup_nil) fun x hx => by
  rcases (addAll_mem _ _ _).mp hx with h | h
  · cases h
  · obtain ⟨r, hr, rfl⟩ := List.mem_map.mp h
    exact road_name ok hr
theorem paths_few {ns : List Str} {p : PlanD} (ok : p.ok ns) (sz : p.size ≤ 400) : (paths p).length ≤ 400 := by
  have := paths_len ns p ok
  omega
/-- what every door asks -/
structure Fit (K : PySem.W.Frag) (H : Hp) (td : Addr) (v : V) (ts : List (Str × TaskD)) (p : PlanD) (N : Addr → Prop) : Prop where
  tv : TasksV K H td ts
  g : GoodTs ts
  pv : PlanV K H N v p
  ok : p.ok (ts.map (·.1))
  cnt : p.count ≤ 40
  dp : p.deep ≤ 8
  sz : p.size ≤ 400
  sn : p.span (lastT ts) ≤ 400
def spPaths (K : PySem.W.Frag) : Sp := fun vs H Q _ => ∃ td v p ts N, vs = [.ref td, v] ∧ Fit K H td v ts p N ∧ ∀ l xs H', Same H H' → H l = none → H' l = some (.lst xs) → Paired (fun x (r : List Int × Str) => ∃ t, x = V.ref t ∧ H' t = some (.tup (r.1.map V.int))) xs (paths p) → Q (.ref l) H'
theorem ok_task_paths (T : Txt w K mg) : FnOk P w K mg base CX0 13 (He.ga K "task_paths") T.fd_task_paths ["tasks", "plan"] (spPaths K) := by
  refine T.F_task_paths.ok sc_task_paths (fun vs H Q E h => ?_) (fun cdv A outer s H vs Q E hr h => ⟨_, PSs.nox
    (pss_cons (ps_expr (pe_call (ok_check_plan T) (hr.mono (by decide)) (by rfl) T.g_check_plan T.F_check_plan.kp T.b_check_plan .nil pass0 (pa_cons (pv 0) (pa_cons (pv 1) pa_nil))))
      (pss_one (ps_ret (pe_lc (own := [("path", 2), ("_", 3)]) rfl sc_task_paths.nd (pi_list (pe_call (ok_named_paths T 8) (hr.mono (by decide)) (by rfl) T.g_named_paths T.F_named_paths.kp T.b_named_paths .nil pass0 (pa_cons (pv 1) pa_nil))) (blkOk_by (N := ["tasks", "plan", "path", "_"]) (sc := defScope s_task_paths) (by decide +kernel)) (fun _ _ _ _ _ => (show PG _ _ (gTup K 2 (gCons (gName 2) (gCons (gName 3) gNil))) from pg_tup rfl (pgs_cons (pg_name (i := 2) sc_task_paths.nd rfl (.inl rfl) (hf := .inr rfl)) (pgs_cons (pg_name (i := 3) sc_task_paths.nd rfl (.inl rfl) (hf := .inr rfl)) pgs_nil)))) (fun _ _ _ _ _ => pts_nil) (fun _ _ _ _ _ => (pv 2)))))), ?_⟩)
  · obtain ⟨td, v, p, ts, N, rfl, _⟩ := h
    rfl
  · obtain ⟨td, v, p, ts, N, rfl, F, hQ⟩ := h
    have l64 := line64
    have l4 := line400
    have dp := F.dp; have sz := F.sz; have cnt := F.cnt
    have pf := paths_few F.ok F.sz
    refine ⟨_, rfl, _, rfl, td, v, p, ts, N, rfl, F.tv, F.g, F.pv, F.ok, F.cnt, F.dp, F.sz, F.sn, fun H1 s1 => ?_⟩
    refine ⟨_, rfl, v, p, N, H, _, rfl, s1, F.pv, F.ok, by omega, by omega, by omega, by omega, fun l xs H2 s2 nl L2 P2 => ⟨l, rfl, ⟨_, sqL_of L2⟩, fun D hD => ?_⟩⟩
    have s12 := s1.trans s2
    have xl := pLen P2
    refine lc_list (xs := xs) (fun i H' => Same H2 H' ∧ ∃ zs, H' D = some (.lst zs) ∧ Paired (fun x (r : List Int × Str) => ∃ t, x = V.ref t ∧ H' t = some (.tup (r.1.map V.int))) zs ((paths p).take i)) ⟨same_new hD, [], upd_same, .nil⟩ (fun i H' _ r => sqL_of (r.1 _ _ L2)) ?_ ?_
    · rintro i x H' hx ⟨sm, zs, hd, PP⟩
      obtain ⟨r, hr, a, t, rfl, S1, S2⟩ := pGet P2 hx
      have zl := pLen PP
      rw [List.length_take] at zl
      refine ⟨a, _, rfl, Q7.sqT_same sm S1, rfl, _, _, rfl, _, _, rfl, rfl, rfl, ?_⟩
      have tk : TB H' (upd H' D (.lst (zs ++ [.ref t]))) := tb_lst hd
      refine ⟨_, rfl, zs, hd, by omega, same_mut sm hD, zs ++ [.ref t], upd_same, ?_⟩
      rw [List.take_succ, hr]
      exact pApp (pImp (fun _ _ ⟨t, e, z⟩ => ⟨t, e, tk.ex _ _ z⟩) PP) (.cons ⟨t, rfl, tk.ex _ _ (sm _ _ S2)⟩ .nil)
    · rintro H' ⟨sm, zs, hd, PP⟩
      rw [xl, List.take_length] at PP
      exact hQ D zs H' (s12.trans sm) (none_same s12 hD) hd PP
def spNamesIn (K : PySem.W.Frag) : Sp := fun vs H Q _ => ∃ td v p ts N, vs = [.ref td, v] ∧ Fit K H td v ts p N ∧ ∀ ys l H', Same H H' → H l = none → ys.Perm (namesOf p) → sortedS ys = true → H' l = some (.lst (ys.map V.str)) → Q (.ref l) H'
theorem ok_names_in (T : Txt w K mg) : FnOk P w K mg base CX0 13 (He.ga K "names_in") T.fd_names_in ["tasks", "plan"] (spNamesIn K) := by
  refine T.F_names_in.ok sc_names_in (fun vs H Q E h => ?_) (fun cdv A outer s H vs Q E hr h => ⟨_, PSs.nox
    (pss_cons (ps_expr (pe_call (ok_check_plan T) (hr.mono (by decide)) (by rfl) T.g_check_plan T.F_check_plan.kp T.b_check_plan .nil pass0 (pa_cons (pv 0) (pa_cons (pv 1) pa_nil))))
      (pss_one (ps_ret (pe_callB (call_sortedSS rfl) (by rfl) T.m_sorted (by decide +kernel) (pa_cons (pe_setc (own := [("_", 2), ("name", 3)]) rfl sc_names_in.nd (pi_list (pe_call (ok_named_paths T 8) (hr.mono (by decide)) (by rfl) T.g_named_paths T.F_named_paths.kp T.b_named_paths .nil pass0 (pa_cons (pv 1) pa_nil))) (blkOk_by (N := ["tasks", "plan", "_", "name"]) (sc := defScope s_names_in) (by decide +kernel)) (fun _ _ _ _ _ => (show PG _ _ (gTup K 2 (gCons (gName 2) (gCons (gName 3) gNil))) from pg_tup rfl (pgs_cons (pg_name (i := 2) sc_names_in.nd rfl (.inl rfl) (hf := .inr rfl)) (pgs_cons (pg_name (i := 3) sc_names_in.nd rfl (.inl rfl) (hf := .inr rfl)) pgs_nil)))) (fun _ _ _ _ _ => pts_nil) (fun _ _ _ _ _ => (pv 3))) pa_nil))))), ?_⟩)
  · obtain ⟨td, v, p, ts, N, rfl, _⟩ := h
    rfl
  · obtain ⟨td, v, p, ts, N, rfl, F, hQ⟩ := h
    have l64 := line64
    have l4 := line400
    have dp := F.dp; have sz := F.sz; have cnt := F.cnt
    have pf := paths_few F.ok F.sz
    have nf := namesOf_few F.ok
    have g1 := F.g.l1
    rw [List.length_map] at nf
    refine ⟨_, rfl, _, rfl, td, v, p, ts, N, rfl, F.tv, F.g, F.pv, F.ok, F.cnt, F.dp, F.sz, F.sn, fun H1 s1 => ?_⟩
    refine ⟨_, rfl, v, p, N, H, _, rfl, s1, F.pv, F.ok, by omega, by omega, by omega, by omega, fun l xs H2 s2 nl L2 P2 => ⟨l, rfl, ⟨_, sqL_of L2⟩, fun D hD => ?_⟩⟩
    have s12 := s1.trans s2
    have xl := pLen P2
    refine setc_list (xs := xs) (fun i H' => Same H2 H' ∧ H' D = some (SetSO w D (addAll [] (((paths p).take i).map (·.2))))) ⟨same_new hD, upd_same⟩ (fun i H' _ r => sqL_of (r.1 _ _ L2)) ?_ ?_
    · rintro i x H' hx ⟨sm, hd⟩
      obtain ⟨r, hr, a, t, rfl, S1, S2⟩ := pGet P2 hx
      have sb : 500 < scanBound := by decide
      have al := addAll_len (((paths p).take i).map (·.2)) []
      simp only [List.length_map, List.length_take, List.length_nil] at al
      refine ⟨a, _, rfl, Q7.sqT_same sm S1, rfl, _, _, rfl, _, _, rfl, rfl, rfl, ?_⟩
      refine ⟨_, rfl, r.2, _, rfl, hd, by omega, same_mut sm hD, ?_⟩
      rw [upd_same, List.take_succ, hr, List.map_append]
      exact congrArg (fun l => some (SetSO w D l)) (addAll_snoc _ _ _).symm
    · rintro H' ⟨sm, hd⟩
      rw [xl, List.take_length] at hd
      refine ⟨D, _, rfl, hd, ?_, fun ys q pm so hq => ?_⟩
      · show (namesOf p).length < 64
        omega
      · exact hQ ys q _ ((s12.trans sm).trans (same_new hq)) (none_same (s12.trans sm) hq) pm so upd_same
end
end L10
set_option maxRecDepth 100000
set_option maxHeartbeats 4000000
namespace L10
open PySem PySem.Spec PyProof.Rows L2 Q7
section
variable {P : Program} {w : World} {K : PySem.W.Frag} {mg : Str → Option Value} {base : Heap}
/-! ### the dict of the roads -/
def keyR (ks : List Int) : List Key := ks.map Sum.inl
theorem keyR_kV (ks : List Int) : (keyR ks).map kV = ks.map V.int := by
  unfold keyR
  rw [List.map_map]
  rfl
theorem keyR_inj : ∀ {a b : List Int}, keyR a = keyR b → a = b
  | [], [], _ => rfl
  | [], _ :: _, h => by cases h
  | _ :: _, [], h => by cases h
  | x :: a, y :: b, h => by
    obtain ⟨h1, h2⟩ := List.cons.inj h
    rw [Sum.inl.inj h1, keyR_inj h2]
def putR (kvs : List (List Key × V)) (r : List Int × Str) : List (List Key × V) := putK kvs (keyR r.1) (.str r.2)
def dictR (l : List (List Int × Str)) : List (List Key × V) := l.foldl putR []
theorem dictR_snoc (l : List (List Int × Str)) (r : List Int × Str) : dictR (l ++ [r]) = putR (dictR l) r := by
  unfold dictR
  rw [List.foldl_append]
  rfl
theorem fold_len : ∀ (l : List (List Int × Str)) (m : List (List Key × V)), (l.foldl putR m).length ≤ m.length + l.length
  | [], m => Nat.le_refl _
  | r :: l, m => by
    have := fold_len l (putR m r)
    have := length_putK m (keyR r.1) (.str r.2)
    have e : (putR m r).length = (putK m (keyR r.1) (.str r.2)).length := rfl
    show (l.foldl putR (putR m r)).length ≤ m.length + (l.length + 1)
    omega
theorem dictR_len (l : List (List Int × Str)) : (dictR l).length ≤ l.length := by
  have := fold_len l []
  simpa [dictR] using this
theorem val_no : ∀ (l : List (List Int × Str)) (m : List (List Key × V)) (ks : List Int), ks ∉ l.map (·.1) → valV (l.foldl putR m) (keyR ks) = valV m (keyR ks)
  | [], _, _, _ => rfl
  | r :: l, m, ks, h => by
    rw [List.map_cons, List.mem_cons, not_or] at h
    show valV (l.foldl putR (putR m r)) (keyR ks) = _
    rw [val_no l (putR m r) ks h.2]
    show valV (putK m (keyR r.1) (.str r.2)) (keyR ks) = _
    rw [valV_put, if_neg fun e => h.1 (keyR_inj e)]
theorem val_at : ∀ (l : List (List Int × Str)) (m : List (List Key × V)) (r : List Int × Str), (l.map (·.1)).Nodup → r ∈ l → valV (l.foldl putR m) (keyR r.1) = some (.str r.2)
  | [], _, _, _, h => by cases h
  | q :: l, m, r, nd, h => by
    rw [List.map_cons, List.nodup_cons] at nd
    rcases List.mem_cons.mp h with rfl | h
    · show valV (l.foldl putR (putR m r)) (keyR r.1) = _
      rw [val_no l _ _ nd.1]
      show valV (putK m (keyR r.1) (.str r.2)) (keyR r.1) = _
      rw [valV_put, if_pos rfl]
    · exact val_at l (putR m q) r nd.2 h
theorem dictR_at {l : List (List Int × Str)} {r : List Int × Str} (nd : (l.map (·.1)).Nodup) (h : r ∈ l) : valV (dictR l) (keyR r.1) = some (.str r.2) := val_at l [] r nd h
theorem dictR_no {l : List (List Int × Str)} {ks : List Int} (h : ks ∉ l.map (·.1)) : valV (dictR l) (keyR ks) = none := val_no l [] ks h
/-! each road stands once -/
theorem ahead_fst (k : List Int) (l : List (List Int × Str)) : (l.map (ahead k)).map (·.1) = (l.map (·.1)).map (k ++ ·) := by
  rw [List.map_map, List.map_map]
  rfl
theorem ahead_once {k : List Int} {l : List (List Int × Str)} (h : (l.map (·.1)).Nodup) : ((l.map (ahead k)).map (·.1)).Nodup := by
  rw [ahead_fst]
  exact List.pairwise_map.mpr (h.imp fun ne e => ne (List.append_cancel_left e))
theorem ahead_head {i : Int} {l : List (List Int × Str)} {ks : List Int} (h : ks ∈ (l.map (ahead [i])).map (·.1)) : ∃ t, ks = i :: t := by
  rw [ahead_fst] at h
  obtain ⟨t, _, rfl⟩ := List.mem_map.mp h
  exact ⟨t, rfl⟩
theorem rep_once {l : List (List Int × Str)} (h : (l.map (·.1)).Nodup) : ∀ n : Nat, (((List.range n).flatMap fun (i : Nat) => l.map (ahead [(i : Int)])).map (·.1)).Nodup ∧
    ∀ ks ∈ ((List.range n).flatMap fun (i : Nat) => l.map (ahead [(i : Int)])).map (·.1), ∃ (i : Nat) (t : List Int), i < n ∧ ks = (i : Int) :: t
  | 0 => ⟨List.nodup_nil, fun ks hk => by cases hk⟩
  | n + 1 => by
    obtain ⟨h1, h2⟩ := rep_once h n
    rw [List.range_succ, List.flatMap_append, List.map_append]
    have e : ((List.flatMap (fun (i : Nat) => l.map (ahead [(i : Int)])) [n]).map (·.1)) = (l.map (ahead [(n : Int)])).map (·.1) := by simp
    rw [e]
    refine ⟨List.nodup_append.mpr ⟨h1, ahead_once h, fun a ha b hb => ?_⟩, fun ks hk => ?_⟩
    · obtain ⟨i, t, hi, rfl⟩ := h2 a ha
      obtain ⟨t', rfl⟩ := ahead_head hb
      intro z
      have := (List.cons.inj z).1
      omega
    · rcases List.mem_append.mp hk with hk | hk
      · obtain ⟨i, t, hi, rfl⟩ := h2 ks hk
        exact ⟨i, t, by omega, rfl⟩
      · obtain ⟨t', rfl⟩ := ahead_head hk
        exact ⟨n, t', by omega, rfl⟩
mutual
theorem paths_once : ∀ p : PlanD, ((paths p).map (·.1)).Nodup
  | .task n => by simp [paths]
  | .many _ ps => (pathsL_once ps 0).1
  | .one (.again n _) p => (rep_once (paths_once p) n.toNat).1
  | .one (.within _) p => paths_once p
  | .one (.later _) p => paths_once p
  | .one .keep p => paths_once p
  | .one .easy p => paths_once p
  | .one (.back _) p => paths_once p
  | .watch _ s p => by
    show (((paths s).map (ahead [0]) ++ (paths p).map (ahead [1])).map (·.1)).Nodup
    rw [List.map_append]
    refine List.nodup_append.mpr ⟨ahead_once (paths_once s), ahead_once (paths_once p), fun a ha b hb => ?_⟩
    obtain ⟨t, rfl⟩ := ahead_head ha
    obtain ⟨t', rfl⟩ := ahead_head hb
    intro z
    have := (List.cons.inj z).1
    omega
theorem pathsL_once : ∀ (ps : PlanL) (k : Nat), ((pathsL k ps).map (·.1)).Nodup ∧ ∀ ks ∈ (pathsL k ps).map (·.1), ∃ (i : Nat) (t : List Int), k ≤ i ∧ ks = (i : Int) :: t
  | .nil, _ => ⟨List.nodup_nil, fun ks hk => by cases hk⟩
  | .cons p ps, k => by
    obtain ⟨h1, h2⟩ := pathsL_once ps (k + 1)
    have h0 := paths_once p
    show (((paths p).map (ahead [(k : Int)]) ++ pathsL (k + 1) ps).map (·.1)).Nodup ∧ ∀ ks ∈ ((paths p).map (ahead [(k : Int)]) ++ pathsL (k + 1) ps).map (·.1), _
    rw [List.map_append]
    refine ⟨List.nodup_append.mpr ⟨ahead_once h0, h1, fun a ha b hb => ?_⟩, fun ks hk => ?_⟩
    · obtain ⟨t', rfl⟩ := ahead_head ha
      obtain ⟨i, t, hi, rfl⟩ := h2 b hb
      intro z
      have := (List.cons.inj z).1
      omega
    · rcases List.mem_append.mp hk with hk | hk
      · obtain ⟨t', rfl⟩ := ahead_head hk
        exact ⟨k, t', Nat.le_refl _, rfl⟩
      · obtain ⟨i, t, hi, rfl⟩ := h2 ks hk
        exact ⟨i, t, by omega, rfl⟩
end
/-! ### the name at a path -/
def spNameAt (K : PySem.W.Frag) : Sp := fun vs H Q _ => ∃ td v a p ts N r, vs = [.ref td, v, .ref a] ∧ Fit K H td v ts p N ∧ H a = some (.tup (r.1.map V.int)) ∧ r ∈ paths p ∧ ∀ H', Same H H' → Q (.str r.2) H'
theorem ok_name_at (T : Txt w K mg) : FnOk P w K mg base CX0 13 (He.ga K "name_at") T.fd_name_at ["tasks", "plan", "path"] (spNameAt K) := by
  refine T.F_name_at.ok sc_name_at (fun vs H Q E h => ?_) (fun cdv A outer s H vs Q E hr h => ⟨_, PSs.nox
    (pss_cons (ps_expr (pe_call (ok_check_plan T) (hr.mono (by decide)) (by rfl) T.g_check_plan T.F_check_plan.kp T.b_check_plan .nil pass0 (pa_cons (pv 0) (pa_cons (pv 1) pa_nil))))
      (pss_cons (ps_setDct (i := 3) (own := [("one", 4), ("name", 5)]) (hu_of hr) rfl sc_name_at.nd (pi_list (pe_call (ok_named_paths T 8) (hr.mono (by decide)) (by rfl) T.g_named_paths T.F_named_paths.kp T.b_named_paths .nil pass0 (pa_cons (pv 1) pa_nil))) (blkOk_by (N := ["tasks", "plan", "path", "names", "one", "name"]) (sc := defScope s_name_at) (by decide +kernel)) (fun _ _ _ _ _ => (show PG _ _ (gTup K 2 (gCons (gName 4) (gCons (gName 5) gNil))) from pg_tup rfl (pgs_cons (pg_name (i := 4) sc_name_at.nd rfl (.inl rfl) (hf := .inr rfl)) (pgs_cons (pg_name (i := 5) sc_name_at.nd rfl (.inl rfl) (hf := .inr rfl)) pgs_nil)))) (fun _ _ _ _ _ => pts_nil) (fun _ _ _ _ _ => (pv 4)) (fun _ _ _ _ _ => (pv 5)) rfl rfl rfl)
      (pss_cons (ps_if (PW.pt (pw_or (pt_not (pt_val (pe_call (ok_is_path T) (hr.mono (by decide)) (by rfl) T.g_is_path T.F_is_path.kp T.b_is_path .nil pass0 (pa_cons (pv 2) pa_nil)))) (pw_or1 (pt_cmp (pc_dnotin (hu_of hr) (pv 2) (pv 3)))))) (pss_one ps_never) pss_nil)
      (pss_one (ps_ret (pe_dget (hu_of hr) (pv 3) (pv 2) (fun _ _ => rfl))))))), ?_⟩)
  · obtain ⟨td, v, a, p, ts, N, r, rfl, _⟩ := h
    rfl
  · obtain ⟨td, v, a, p, ts, N, r, rfl, F, ha, hr0, hQ⟩ := h
    have l64 := line64
    have l4 := line400
    have dp := F.dp; have sz := F.sz; have cnt := F.cnt
    have pf := paths_few F.ok F.sz
    refine ⟨_, rfl, _, rfl, td, v, p, ts, N, rfl, F.tv, F.g, F.pv, F.ok, F.cnt, F.dp, F.sz, F.sn, fun H1 s1 => ?_⟩
    refine ⟨_, rfl, v, p, N, H, _, rfl, s1, F.pv, F.ok, by omega, by omega, by omega, by omega, fun l xs H2 s2 nl L2 P2 => ⟨l, rfl, ⟨_, sqL_of L2⟩, fun D hD => ?_⟩⟩
    have s12 := s1.trans s2
    have xl := pLen P2
    refine dct_list (xs := xs) (fun i H' => Same H2 H' ∧ H' D = some (.dT (dictR ((paths p).take i)))) ⟨same_new hD, upd_same⟩ (fun i H' _ r => sqL_of (r.1 _ _ L2)) ?_ ?_
    · rintro i x H' hx ⟨sm, hd⟩
      obtain ⟨q, hq, b, t, rfl, S1, S2⟩ := pGet P2 hx
      have dl := dictR_len ((paths p).take i)
      rw [List.length_take] at dl
      refine ⟨b, _, rfl, Q7.sqT_same sm S1, rfl, _, _, rfl, _, _, rfl, rfl, rfl, ?_⟩
      refine ⟨_, rfl, _, rfl, t, keyR q.1, _, rfl, by rw [keyR_kV]; exact sm _ _ S2, hd, by omega, same_mut sm hD, ?_⟩
      rw [upd_same, List.take_succ, hq]
      exact congrArg (fun l => some (HO.dT l)) (dictR_snoc _ _).symm
    · rintro H' ⟨sm, hd⟩
      rw [xl, List.take_length] at hd
      have s3 := s12.trans sm
      have rl := road_len hr0
      refine ⟨_, rfl, .ref a, some r.1, rfl, .road (s3 _ _ ha) (by omega), fun H4 s4 => ?_⟩
      have s5 := s3.trans s4
      have hd4 := s4 _ _ hd
      have ha4 := s5 _ _ ha
      rw [← keyR_kV] at ha4
      have va := dictR_at (paths_once p) hr0
      have dg : DGet H4 D (.ref a) (some (.str r.2)) := by
        rw [← va]
        exact .t hd4 ha4
      refine ⟨_, rfl, iteF ⟨_, rfl, _, rfl, D, _, rfl, dg, _, rfl, iteF ?_⟩⟩
      exact ⟨_, rfl, _, rfl, D, _, rfl, dg, hQ _ s5⟩
def IP (K : PySem.W.Frag) : Addr := He.ga K "InvalidPath"
def spNameAtE (K : PySem.W.Frag) : Sp := fun vs H Q E => ∃ td v x p ts N o, vs = [.ref td, v, x] ∧ Fit K H td v ts p N ∧ PathV K H x o ∧
  ((∃ r, r ∈ paths p ∧ o = some r.1 ∧ ∀ H', Same H H' → Q (.str r.2) H') ∨ ((∀ r ∈ paths p, o ≠ some r.1) ∧ ∀ H', Same H H' → E (.ref (IP K)) none H'))
theorem ok_name_at_E (T : Txt w K mg) : FnOk P w K mg base (L2.CX P w) 13 (He.ga K "name_at") T.fd_name_at ["tasks", "plan", "path"] (spNameAtE K) := by
  refine T.F_name_at.ok sc_name_at (fun vs H Q E h => ?_) (fun cdv A outer s H vs Q E hr h => ⟨_,
    (pss_cons (ps_expr (pe_call (ok_check_plan T) (hr.mono (by decide)) (by rfl) T.g_check_plan T.F_check_plan.kp T.b_check_plan .nil pass0 (pa_cons (pv 0) (pa_cons (pv 1) pa_nil))))
      (pss_cons (ps_setDct (i := 3) (own := [("one", 4), ("name", 5)]) (hu_of hr) rfl sc_name_at.nd (pi_list (pe_call (ok_named_paths T 8) (hr.mono (by decide)) (by rfl) T.g_named_paths T.F_named_paths.kp T.b_named_paths .nil pass0 (pa_cons (pv 1) pa_nil))) (blkOk_by (N := ["tasks", "plan", "path", "names", "one", "name"]) (sc := defScope s_name_at) (by decide +kernel)) (fun _ _ _ _ _ => (show PG _ _ (gTup K 2 (gCons (gName 4) (gCons (gName 5) gNil))) from pg_tup rfl (pgs_cons (pg_name (i := 4) sc_name_at.nd rfl (.inl rfl) (hf := .inr rfl)) (pgs_cons (pg_name (i := 5) sc_name_at.nd rfl (.inl rfl) (hf := .inr rfl)) pgs_nil)))) (fun _ _ _ _ _ => pts_nil) (fun _ _ _ _ _ => (pv 4)) (fun _ _ _ _ _ => (pv 5)) rfl rfl rfl)
      (pss_cons (ps_if (PW.pt (pw_or (pt_not (pt_val (pe_call (ok_is_path T) (hr.mono (by decide)) (by rfl) T.g_is_path T.F_is_path.kp T.b_is_path .nil pass0 (pa_cons (pv 2) pa_nil)))) (pw_or1 (pt_cmp (pc_dnotin (hu_of hr) (pv 2) (pv 3)))))) (pss_one (ps_raise rfl (takes_of rfl rfl rfl rfl) (pmk_own PySem.F.excBase_ValueError T.x_IP T.g_InvalidPath T.k_IP (raises_own T.s_IP T.t_IP) (by rfl)))) pss_nil)
      (pss_one (ps_ret (pe_dget (hu_of hr) (pv 3) (pv 2) (fun _ _ => rfl))))))), ?_⟩)
  · obtain ⟨td, v, x, p, ts, N, o, rfl, _⟩ := h
    rfl
  · obtain ⟨td, v, x, p, ts, N, o, rfl, F, PV, hQ⟩ := h
    have l64 := line64
    have l4 := line400
    have dp := F.dp; have sz := F.sz; have cnt := F.cnt
    have pf := paths_few F.ok F.sz
    refine ⟨_, rfl, _, rfl, td, v, p, ts, N, rfl, F.tv, F.g, F.pv, F.ok, F.cnt, F.dp, F.sz, F.sn, fun H1 s1 => ?_⟩
    refine ⟨_, rfl, v, p, N, H, _, rfl, s1, F.pv, F.ok, by omega, by omega, by omega, by omega, fun l xs H2 s2 nl L2 P2 => ⟨l, rfl, ⟨_, sqL_of L2⟩, fun D hD => ?_⟩⟩
    have s12 := s1.trans s2
    have xl := pLen P2
    refine dct_list (xs := xs) (fun i H' => Same H2 H' ∧ H' D = some (.dT (dictR ((paths p).take i)))) ⟨same_new hD, upd_same⟩ (fun i H' _ r => sqL_of (r.1 _ _ L2)) ?_ ?_
    · rintro i x H' hx ⟨sm, hd⟩
      obtain ⟨q, hq, b, t, rfl, S1, S2⟩ := pGet P2 hx
      have dl := dictR_len ((paths p).take i)
      rw [List.length_take] at dl
      refine ⟨b, _, rfl, Q7.sqT_same sm S1, rfl, _, _, rfl, _, _, rfl, rfl, rfl, ?_⟩
      refine ⟨_, rfl, _, rfl, t, keyR q.1, _, rfl, by rw [keyR_kV]; exact sm _ _ S2, hd, by omega, same_mut sm hD, ?_⟩
      rw [upd_same, List.take_succ, hq]
      exact congrArg (fun l => some (HO.dT l)) (dictR_snoc _ _).symm
    · rintro H' ⟨sm, hd⟩
      rw [xl, List.take_length] at hd
      have s3 := s12.trans sm
      refine ⟨_, rfl, x, o, rfl, pathV_same PV s3, fun H4 s4 => ?_⟩
      have s5 := s3.trans s4
      have hd4 := s4 _ _ hd
      cases PV with
      | kind k ne =>
        rcases hQ with ⟨r, _, e, _⟩ | ⟨_, hE⟩
        · cases e
        · exact ⟨_, rfl, iteT (hE _ s5)⟩
      | odd e pp n l =>
        rcases hQ with ⟨r, _, e, _⟩ | ⟨_, hE⟩
        · cases e
        · exact ⟨_, rfl, iteT (hE _ s5)⟩
      | @road a ks e l =>
        have ha4 := s5 _ _ e
        rw [← keyR_kV] at ha4
        rcases hQ with ⟨r, hr0, e, hQ⟩ | ⟨no, hE⟩
        · cases e
          have dg : DGet H4 D (.ref a) (some (.str r.2)) := by
            rw [← dictR_at (paths_once p) hr0]
            exact .t hd4 ha4
          refine ⟨_, rfl, iteF ⟨_, rfl, _, rfl, D, _, rfl, dg, _, rfl, iteF ?_⟩⟩
          exact ⟨_, rfl, _, rfl, D, _, rfl, dg, hQ _ s5⟩
        · have dg : DGet H4 D (.ref a) none := by
            rw [← dictR_no (l := paths p) (ks := ks) fun h => by
              obtain ⟨r, hr, e⟩ := List.mem_map.mp h
              exact no r hr (by rw [e])]
            exact .t hd4 ha4
          exact ⟨_, rfl, iteF ⟨_, rfl, _, rfl, D, _, rfl, dg, _, rfl, iteT (hE _ s5)⟩⟩
end
end L10
set_option maxRecDepth 100000
set_option maxHeartbeats 4000000
namespace L10
open PySem PySem.Spec PyProof.Rows L2 Q7
section
variable {P : Program} {w : World} {K : PySem.W.Frag} {mg : Str → Option Value} {base : Heap}
theorem ok__law_inner_S (T : Txt w K mg) : FnOk P w K mg base CX0 1 (He.ga K "_law_inner") T.fd__law_inner ["tree"] (spStepsK K) := by
  refine T.F__law_inner.ok sc__law_inner (fun vs H Q E h => ?_) (fun cdv A outer s H vs Q E hr h => ⟨_, PSs.nox
    (pss_cons (ps_if (pt_cmpR op_eq (pe_ix ix_tup (pv 0) pe_int (fun _ _ => rfl)) pe_str (nomark _)) (pss_one (ps_ret (pe_lst pa_nil))) pss_nil)
      (pss_cons (ps_if (pt_cmpR op_in_seq (pe_ix ix_tup (pv 0) pe_int (fun _ _ => rfl)) (pe_tup (pa_cons pe_str (pa_cons pe_str (pa_cons pe_str (pa_cons pe_str pa_nil))))) rfl) (pss_one (ps_ret (pe_lc (own := [("k", 1), ("part", 2)]) rfl sc__law_inner.nd (pi_enum (by rfl) T.m_enumerate (pa_cons (pe_ix ix_tup (pv 0) pe_int (fun _ _ => rfl)) pa_nil)) (blkOk_by (N := ["tree", "k", "part"]) (sc := defScope s__law_inner) (by decide +kernel)) (fun _ _ _ _ _ => (show PG _ _ (gTup K 2 (gCons (gName 1) (gCons (gName 2) gNil))) from pg_tup rfl (pgs_cons (pg_name (i := 1) sc__law_inner.nd rfl (.inl rfl) (hf := .inr rfl)) (pgs_cons (pg_name (i := 2) sc__law_inner.nd rfl (.inl rfl) (hf := .inr rfl)) pgs_nil)))) (fun _ _ _ _ _ => pts_nil) (fun _ _ _ _ _ => (pe_tup (pa_cons (pe_tup (pa_cons (pv 1) pa_nil)) (pa_cons (pv 2) pa_nil))))))) pss_nil)
      (pss_cons (ps_if (pt_cmpR op_eq (pe_ix ix_tup (pv 0) pe_int (fun _ _ => rfl)) pe_str (nomark _)) (pss_one (ps_ret (pe_lst (pa_cons (pe_tup (pa_cons (pe_tup (pa_cons pe_int pa_nil)) (pa_cons (pe_ix ix_tup (pv 0) pe_int (fun _ _ => rfl)) pa_nil))) (pa_cons (pe_tup (pa_cons (pe_tup (pa_cons pe_int pa_nil)) (pa_cons (pe_ix ix_tup (pv 0) pe_int (fun _ _ => rfl)) pa_nil))) pa_nil))))) pss_nil)
      (pss_one (ps_ret (pe_lst (pa_cons (pe_tup (pa_cons (pe_ifExp (pt_cmpR op_eq (pe_ix ix_tup (pv 0) pe_int (fun _ _ => rfl)) pe_str (nomark _)) (pe_tup (pa_cons pe_int pa_nil)) (pe_tup pa_nil)) (pa_cons (pe_ix ix_tup (pv 0) (pe_un un_neg pe_int) (fun _ _ => rfl)) pa_nil))) pa_nil))))))), ?_⟩)
  · obtain ⟨v, p, N, H0, rfl, _⟩ := h
    rfl
  · obtain ⟨v, p, N, H0, rfl, s0, PV, cnt, hQ⟩ := h
    have l64 := line64
    cases PV with
    | @task a n S0 =>
      have S := Q7.sqT_same s0 S0
      refine ⟨_, rfl, a, _, 0, _, rfl, rfl, S, at0, rfl, _, rfl, iteT' (by decide +kernel) ?_⟩
      exact ⟨Nat.zero_le _, fun l hl => hQ l [] _ (same_new hl) hl upd_same .nil⟩
    | @many a l wd xs ps S0 n L0 P =>
      have S := Q7.sqT_same s0 S0
      have L := s0 _ _ L0
      refine ⟨_, rfl, a, _, 0, _, rfl, rfl, S, at0, rfl, _, rfl, iteE (lw_task wd) ?_⟩
      refine ⟨_, rfl, a, _, 0, _, rfl, rfl, S, at0, four_le, fun w1 hw1 => ⟨w1, _, rfl, .inr (sqT_of upd_same), rfl, by decide, _, rfl, iteT' (lw_in wd) ?_⟩⟩
      have k0 := same_new (o := .tup [.str "order", .str "other", .str "both", .str "race"]) hw1
      generalize upd H w1 (.tup [.str "order", .str "other", .str "both", .str "race"]) = Hb at *
      refine ⟨_, rfl, a, _, 1, _, rfl, rfl, Q7.sqT_same k0 S, at1, l, xs, rfl, sqL_of (k0 _ _ L), fun D hD => ?_⟩
      have xl := planVs_len P
      have kl := kids_len (.many wd ps)
      refine lc_it (walk_enum (K := K) (a := l) (xs := xs)) (fun i H' => Same Hb H' ∧ ∃ zs, H' D = some (.lst zs) ∧ Paired (StepK K H0 H' N) zs ((stepsD (.many wd ps)).take i)) ⟨same_new hD, [], upd_same, .nil⟩ (fun i H' _ r => sqL_of (r.1 _ _ (k0 _ _ L))) ?_ ?_
      · rintro i v H' H'' hi ⟨sm, zs, hd, PP⟩ ⟨TT, x, y, rfl, hT, rfl, hx, hy⟩
        cases hx
        obtain ⟨p, hp, Py⟩ := planVs_get P hy
        refine ⟨TT, _, rfl, sqT_of upd_same, rfl, _, _, rfl, _, _, rfl, rfl, rfl, ?_⟩
        have k1 := same_new (o := .tup [.int (i : Nat), y]) hT
        generalize upd H' TT (.tup [.int (i : Nat), y]) = H1 at *
        refine ⟨_, rfl, one_le, fun st hst => ⟨_, rfl, two_le, fun q hq => ?_⟩⟩
        have S2 := upd_same (H := H1) (a := st) (o := .tup [.int (i : Nat)])
        have k2 := k1.trans (same_new (o := .tup [.int (i : Nat)]) hst)
        generalize upd H1 st (.tup [.int (i : Nat)]) = H2 at *
        have S3 := upd_same (H := H2) (a := q) (o := .tup [.ref st, y])
        have k2' := same_new (o := .tup [.ref st, y]) hq
        have k3 := k2.trans k2'
        generalize upd H2 q (.tup [.ref st, y]) = H3 at *
        have zl := pLen PP
        have hd3 := k3 _ _ hd
        have tk : TB H3 (upd H3 D (.lst (zs ++ [.ref q]))) := tb_lst hd3
        refine ⟨zs, hd3, by rw [zl, List.length_take, steps_len]; omega, same_mut (sm.trans k3) hD, _, upd_same, ?_⟩
        rw [List.take_succ, steps_many hp]
        exact pApp (pImp (fun _ _ z => stepK_tk z ((same_tb k3).trans tk)) PP) (.cons (stepK_tk ⟨q, st, y, rfl, sqT_of S3, k2' _ _ S2, Py⟩ tk) .nil)
      · rintro H' ⟨sm, zs, hd, PP⟩
        rw [show xs.length = (stepsD (.many wd ps)).length from by rw [steps_len]; exact xl, List.take_length] at PP
        exact hQ D zs H' (k0.trans sm) (none_same k0 hD) hd PP
    | @one a u x p S0 P =>
      have S := Q7.sqT_same s0 S0
      refine ⟨_, rfl, a, _, 0, _, rfl, rfl, S, at0, rfl, _, rfl, iteE (uw_task u) ?_⟩
      refine ⟨_, rfl, a, _, 0, _, rfl, rfl, S, at0, four_le, fun w1 hw1 => ⟨w1, _, rfl, .inr (sqT_of upd_same), rfl, by decide, _, rfl, iteE (uw_in u) ?_⟩⟩
      have k0 := same_new (o := .tup [.str "order", .str "other", .str "both", .str "race"]) hw1
      generalize upd H w1 (.tup [.str "order", .str "other", .str "both", .str "race"]) = Hb at *
      replace S := Q7.sqT_same k0 S
      refine ⟨_, rfl, a, _, 0, _, rfl, rfl, S, at0, rfl, _, rfl, iteE (uw_watch' u) ?_⟩
      have fin : ∀ (st q l : Addr) (ks : List Int) (H1 H2 H3 : Hp), stepsD (.one u p) = [(ks, p)] → Same H H1 → H1 st = none → H2 = upd H1 st (.tup (ks.map V.int)) → H2 q = none → H3 = upd H2 q (.tup [.ref st, x]) → H3 l = none → Q (.ref l) (upd H3 l (.lst [.ref q])) := fun st q l ks H1 H2 H3 kl z0 h1 e2 h2 e3 h3 => by
        subst e2
        subst e3
        have s1 := same_new (o := .tup (ks.map V.int)) h1
        have s2 := same_new (o := .tup [.ref st, x]) h2
        have s3 := same_new (o := .lst [.ref q]) h3
        refine hQ l [.ref q] _ (((z0.trans s1).trans s2).trans s3) (none_same ((z0.trans s1).trans s2) h3) upd_same (by rw [kl]; exact .cons ⟨q, st, x, rfl, sqT_of (s3 _ _ upd_same), s3 _ _ (s2 _ _ upd_same), P⟩ .nil)
      refine ⟨_, rfl, a, _, 0, _, rfl, rfl, S, at0, rfl, _, rfl, ?_⟩
      by_cases hu : decide (V.str u.word = V.str "again") = true
      · refine iteT' hu ⟨one_le, fun st hst => ?_⟩
        refine ⟨_, rfl, _, rfl, a, _, _, _, rfl, rfl, Q7.sqT_same (same_new hst) S, at_last _ _ _, two_le, fun q hq => ⟨one_le, fun l hl => ?_⟩⟩
        exact fin st q l [0] Hb _ _ (step_again hu) k0 hst rfl hq rfl hl
      · refine iteE (by simpa using hu) ⟨Nat.zero_le _, fun st hst => ?_⟩
        refine ⟨_, rfl, _, rfl, a, _, _, _, rfl, rfl, Q7.sqT_same (same_new hst) S, at_last _ _ _, two_le, fun q hq => ⟨one_le, fun l hl => ?_⟩⟩
        exact fin st q l [] Hb _ _ (step_other (by simpa using hu)) k0 hst rfl hq rfl hl
    | @watch a l x y s p S0 P1 P2 =>
      have S := Q7.sqT_same s0 S0
      refine ⟨_, rfl, a, _, 0, _, rfl, rfl, S, at0, rfl, _, rfl, iteE (by decide +kernel) ?_⟩
      refine ⟨_, rfl, a, _, 0, _, rfl, rfl, S, at0, four_le, fun w1 hw1 => ⟨w1, _, rfl, .inr (sqT_of upd_same), rfl, by decide, _, rfl, iteE (by decide +kernel) ?_⟩⟩
      have k0 := same_new (o := .tup [.str "order", .str "other", .str "both", .str "race"]) hw1
      generalize upd H w1 (.tup [.str "order", .str "other", .str "both", .str "race"]) = Hb at *
      replace S := Q7.sqT_same k0 S
      refine ⟨_, rfl, a, _, 0, _, rfl, rfl, S, at0, rfl, _, rfl, iteT' (by decide +kernel) ?_⟩
      refine ⟨one_le, fun st hst => ⟨_, rfl, a, _, 2, _, rfl, rfl, Q7.sqT_same (same_new hst) S, at2, two_le, fun q hq => ?_⟩⟩
      have s1 := same_new (o := .tup [.int 0]) hst
      have A1 := upd_same (H := Hb) (a := st) (o := .tup [.int 0])
      generalize upd Hb st (.tup [.int 0]) = H1 at *
      have s2 := same_new (o := .tup [.ref st, x]) hq
      have A2 := upd_same (H := H1) (a := q) (o := .tup [.ref st, x])
      generalize upd H1 q (.tup [.ref st, x]) = H2 at *
      have s12 := s1.trans s2
      refine ⟨one_le, fun st2 hst2 => ⟨_, rfl, a, _, 3, _, rfl, rfl, Q7.sqT_same (s12.trans (same_new hst2)) S, at3, two_le, fun q2 hq2 => ?_⟩⟩
      have s3 := same_new (o := .tup [.int 1]) hst2
      have A3 := upd_same (H := H2) (a := st2) (o := .tup [.int 1])
      generalize upd H2 st2 (.tup [.int 1]) = H3 at *
      have s4 := same_new (o := .tup [.ref st2, y]) hq2
      have A4 := upd_same (H := H3) (a := q2) (o := .tup [.ref st2, y])
      generalize upd H3 q2 (.tup [.ref st2, y]) = H4 at *
      refine ⟨two_le, fun l' hl => ?_⟩
      have s5 := same_new (o := .lst [.ref q, .ref q2]) hl
      have s34 := s3.trans s4
      have sA := k0.trans ((s12.trans s34).trans s5)
      exact hQ l' _ _ sA (none_same (k0.trans (s12.trans s34)) hl) upd_same (.cons ⟨q, st, x, rfl, sqT_of (s5 _ _ (s34 _ _ A2)), s5 _ _ (s34 _ _ (s2 _ _ A1)), P1⟩ (.cons ⟨q2, st2, y, rfl, sqT_of (s5 _ _ A4), s5 _ _ (s4 _ _ A3), P2⟩ .nil))
def spRoads (K : PySem.W.Frag) (d : Nat) : Sp := spNamed K d
def again? : PlanD → Option Nat
  | .one (.again n _) _ => some n.toNat
  | _ => none
def repN (p : PlanD) : Nat := (again? p).getD 1
def aheadOf (p : PlanD) (st : List Int) (i : Nat) : List Int := match again? p with
  | some _ => [(i : Int)]
  | none => st
def piece (p : PlanD) (q : List Int × PlanD) (i : Nat) : List (List Int × Str) := (paths q.2).map (ahead (aheadOf p q.1 i))
theorem paths_law {p : PlanD} (h : ∀ n, p ≠ .task n) : paths p = (stepsD p).flatMap fun q => (List.range (repN p)).flatMap (piece p q) := by
  have one : ∀ f : Nat → List (List Int × Str), (List.range 1).flatMap f = f 0 := fun f => by simp [List.range_succ]
  cases p with
  | task n => exact absurd rfl (h n)
  | one u p =>
    cases u with
    | again n d =>
      show _ = (List.range n.toNat).flatMap _ ++ []
      rw [List.append_nil]
      rfl
    | within l => show paths p = (List.range 1).flatMap _ ++ []; rw [one, List.append_nil]; exact (ahead_nil _).symm
    | later l => show paths p = (List.range 1).flatMap _ ++ []; rw [one, List.append_nil]; exact (ahead_nil _).symm
    | keep => show paths p = (List.range 1).flatMap _ ++ []; rw [one, List.append_nil]; exact (ahead_nil _).symm
    | easy => show paths p = (List.range 1).flatMap _ ++ []; rw [one, List.append_nil]; exact (ahead_nil _).symm
    | back l => show paths p = (List.range 1).flatMap _ ++ []; rw [one, List.append_nil]; exact (ahead_nil _).symm
  | many w ps =>
    rw [paths_steps h]
    refine congrArg (fun f => List.flatMap f (stepsD (.many w ps))) (funext fun q => ?_)
    exact (one (piece (.many w ps) q)).symm
  | watch l s p =>
    rw [paths_steps h]
    refine congrArg (fun f => List.flatMap f (stepsD (.watch l s p))) (funext fun q => ?_)
    exact (one (piece (.watch l s p) q)).symm
theorem ok__law_paths (T : Txt w K mg) : ∀ d, FnOk P w K mg base CX0 (d + 2) (He.ga K "_law_paths") T.fd__law_paths ["tree"] (spRoads K d)
  | 0 => ⟨fun vs H Q E h => by
      obtain ⟨v, p, N, H0, ns, rfl, _⟩ := h
      rfl, fun A outer s H args us vs Q E hr e0 hb hv h => by
      obtain ⟨v, p, N, H0, ns, rfl, _, _, _, _, _, dp, _⟩ := h
      have := p.deep_pos
      omega⟩
  | d + 1 => by
    have ih := ok__law_paths T d
    refine T.F__law_paths.ok sc__law_paths (fun vs H Q E h => ?_) (fun cdv A outer s H vs Q E hr h => ⟨_, PSs.nox
      (pss_cons (ps_if (pt_cmpR op_eq (pe_ix ix_tup (pv 0) pe_int (fun _ _ => rfl)) pe_str (nomark _)) (pss_one (ps_ret (pe_lst (pa_cons (pe_tup (pa_cons (pe_tup pa_nil) (pa_cons (pe_ix ix_tup (pv 0) pe_int (fun _ _ => rfl)) pa_nil))) pa_nil)))) pss_nil)
      (pss_cons (ps_set (i := 1) sc__law_paths.nd rfl (.inl rfl) (pe_lst pa_nil))
      (pss_cons (ps_for PassesOwn.never rfl (pi_list (pe_call (ok__law_inner_S T) (hr.mono (by omega)) (by rfl) T.g__law_inner T.F__law_inner.kp T.b__law_inner .nil pass0 (pa_cons (pv 0) pa_nil))) (pg_tup rfl (pgs_cons (pg_name (i := 2) sc__law_paths.nd rfl (.inl rfl)) (pgs_cons (pg_name (i := 3) sc__law_paths.nd rfl (.inl rfl)) pgs_nil))) (pss_cons (ps_set (i := 4) sc__law_paths.nd rfl (.inl rfl) (pe_call ih (hr.mono (by omega)) (by rfl) T.g__law_paths T.F__law_paths.kp T.b__law_paths .nil pass0 (pa_cons (pv 3) pa_nil)))
      (pss_one (ps_for PassesOwn.never rfl (pi_range1 (by rfl) T.m_range (pa_cons (pe_ifExp (pt_cmpR op_eq (pe_ix ix_tup (pv 0) pe_int (fun _ _ => rfl)) pe_str (nomark _)) (pe_ix ix_tup (pv 0) pe_int (fun _ _ => rfl)) pe_int) pa_nil)) (pg_name (i := 5) sc__law_paths.nd rfl (.inl rfl)) (pss_cons (ps_set (i := 6) sc__law_paths.nd rfl (.inr rfl) (pe_ifExp (pt_cmpR op_eq (pe_ix ix_tup (pv 0) pe_int (fun _ _ => rfl)) pe_str (nomark _)) (pe_tup (pa_cons (pv 5) pa_nil)) (pv 2)))
      (pss_one (ps_set (i := 1) sc__law_paths.nd rfl (.inl rfl) (pe_op op_cat (pv 1) (pe_lc (own := [("road", 7), ("name", 8)]) rfl sc__law_paths.nd (pi_list (pv 4)) (blkOk_by (N := ["tree", "found", "step", "part", "inner", "number", "ahead", "road", "name"]) (sc := defScope s__law_paths) (by decide +kernel)) (fun _ _ _ _ _ => (show PG _ _ (gTup K 2 (gCons (gName 7) (gCons (gName 8) gNil))) from pg_tup rfl (pgs_cons (pg_name (i := 7) sc__law_paths.nd rfl (.inl rfl) (hf := .inr rfl)) (pgs_cons (pg_name (i := 8) sc__law_paths.nd rfl (.inl rfl) (hf := .inr rfl)) pgs_nil)))) (fun _ _ _ _ _ => pts_nil) (fun _ _ _ _ _ => (pe_tup (pa_cons (pe_op (show OpR _ _ (rCatA K) from op_catA) (pv 6) (pv 7)) (pa_cons (pv 8) pa_nil)))))))))))))
      (pss_one (ps_ret (pv 1)))))), ?_⟩)
    · obtain ⟨v, p, N, H0, ns, rfl, _⟩ := h
      rfl
    · obtain ⟨v, p, N, H0, ns, rfl, s0, PV, ok, cnt, sz, dp, d8, hQ⟩ := h
      have l64 := line64
      by_cases ht : ∃ n, p = .task n
      · obtain ⟨n, rfl⟩ := ht
        cases PV with
        | @task a n S0 =>
          have S := Q7.sqT_same s0 S0
          refine ⟨_, rfl, a, _, 0, _, rfl, rfl, S, at0, rfl, _, rfl, iteT' (by decide +kernel) ?_⟩
          refine ⟨Nat.zero_le _, fun e he => ⟨_, rfl, a, _, 1, _, rfl, rfl, Q7.sqT_same (same_new he) S, at1, two_le, fun t ht => ⟨one_le, fun l hl => ?_⟩⟩⟩
          have k1 := same_new (o := .tup []) he
          have A1 := upd_same (H := H) (a := e) (o := .tup [])
          generalize upd H e (.tup []) = H1 at *
          have k2 := same_new (o := .tup [.ref e, .str n]) ht
          have A2 := upd_same (H := H1) (a := t) (o := .tup [.ref e, .str n])
          generalize upd H1 t (.tup [.ref e, .str n]) = H2 at *
          have k3 := same_new (o := .lst [.ref t]) hl
          exact hQ l [.ref t] _ ((k1.trans k2).trans k3) (none_same (k1.trans k2) hl) upd_same (.cons ⟨t, e, rfl, sqT_of (k3 _ _ A2), k3 _ _ (k2 _ _ A1)⟩ .nil)
      have nt : ∀ n, p ≠ .task n := fun n e => ht ⟨n, e⟩
      obtain ⟨a, x, xs0, rfl, S0, hx, ag⟩ : ∃ a x xs0, v = .ref a ∧ SqT K H0 a (.str x :: xs0) ∧ decide (V.str x = V.str "task") = false ∧
          ((again? p = none ∧ decide (V.str x = V.str "again") = false) ∨ ∃ n : Int, again? p = some n.toNat ∧ decide (V.str x = V.str "again") = true ∧ 1 ≤ n ∧ n ≤ 20 ∧ ∃ ys, xs0 = .int n :: ys) := by
        cases PV with
        | task S => exact absurd rfl (nt _)
        | @many a l wd xs ps S => exact ⟨_, _, _, rfl, S, lw_task _, .inl ⟨rfl, by cases wd <;> decide +kernel⟩⟩
        | watch S => exact ⟨_, _, _, rfl, S, by decide +kernel, .inl ⟨rfl, by decide +kernel⟩⟩
        | @one a u y p S =>
          refine ⟨_, _, _, rfl, S, uw_task _, ?_⟩
          cases u with
          | again n d =>
            have h1 : 1 ≤ n ∧ n ≤ 20 := ok.1 (n, (1, 20)) (by simp [UW.nums, UW.bounds])
            exact .inr ⟨n, rfl, (by decide +kernel : decide (V.str ("again" : Str) = V.str "again") = true), h1.1, h1.2, _, rfl⟩
          | within l => exact .inl ⟨rfl, (by decide +kernel : decide (V.str ("within" : Str) = V.str "again") = false)⟩
          | later l => exact .inl ⟨rfl, (by decide +kernel : decide (V.str ("later" : Str) = V.str "again") = false)⟩
          | keep => exact .inl ⟨rfl, (by decide +kernel : decide (V.str ("keep" : Str) = V.str "again") = false)⟩
          | easy => exact .inl ⟨rfl, (by decide +kernel : decide (V.str ("easy" : Str) = V.str "again") = false)⟩
          | back l => exact .inl ⟨rfl, (by decide +kernel : decide (V.str ("back" : Str) = V.str "again") = false)⟩
      refine ⟨_, rfl, a, _, 0, _, rfl, rfl, Q7.sqT_same s0 S0, at0, rfl, _, rfl, iteE hx ?_⟩
      refine ⟨Nat.zero_le _, fun l0 hl0 => ?_⟩
      have k0 := same_new (o := .lst []) hl0
      have F0 := upd_same (H := H) (a := l0) (o := .lst [])
      generalize upd H l0 (.lst []) = H1 at *
      refine ⟨_, rfl, .ref a, p, N, H0, rfl, s0.trans k0, PV, cnt, fun l xs H2 s2 nl M2 PP => ⟨l, rfl, ⟨_, sqL_of M2⟩, ?_⟩⟩
      have s12 := k0.trans s2
      have S := Q7.sqT_same (s0.trans s12) S0
      have xl := pLen PP
      have pl := paths_few ok sz
      have ps := paths_law nt
      have rN : repN p ≤ 20 := by
        unfold repN
        rcases ag with ⟨e, _⟩ | ⟨n, e, _, h1, h2, _⟩ <;> rw [e]
        · exact (by decide : 1 ≤ 20)
        · show n.toNat ≤ 20
          omega
      have rng : ∀ (σ : L2.St) (H4 : Hp) (R : VK), (σ : List (Option V))[0]? = some (some (.ref a)) → Same H2 H4 → R (.int ((repN p : Nat) : Int)) H4 →
          tIf (tTest (tOp rEq (tOp (rIxT K) (tVar 0) (tC (.int 0))) (tC (.str "again")))) (tOp (rIxT K) (tVar 0) (tC (.int 1))) (tC (.int 1)) σ H4 R := by
        intro σ H4 R h0 s4 hR
        refine ⟨_, h0, a, _, 0, _, rfl, rfl, Q7.sqT_same s4 S, at0, rfl, _, rfl, ?_⟩
        rcases ag with ⟨e, e2⟩ | ⟨n, e, e2, h1, h2, ys, rfl⟩
        · refine iteE e2 ?_
          rw [show repN p = 1 by unfold repN; rw [e]; rfl] at hR
          exact hR
        · refine iteT' e2 ⟨_, h0, a, _, 1, _, rfl, rfl, Q7.sqT_same s4 S, at1, ?_⟩
          rw [show ((repN p : Nat) : Int) = n by unfold repN; rw [e]; exact Int.toNat_of_nonneg (by omega)] at hR
          exact hR
      have ahd : ∀ (σ : L2.St) (H4 : Hp) (R : VK) (st : Addr) (ks : List Int) (j : Nat), (σ : List (Option V))[0]? = some (some (.ref a)) → (σ : List (Option V))[2]? = some (some (.ref st)) → (σ : List (Option V))[5]? = some (some (.int (0 + (j : Int)))) → Same H2 H4 →
          H4 st = some (.tup (ks.map V.int)) → (∀ z H5, Same H4 H5 → H5 z = some (.tup ((aheadOf p ks j).map V.int)) → R (.ref z) H5) →
          tIf (tTest (tOp rEq (tOp (rIxT K) (tVar 0) (tC (.int 0))) (tC (.str "again")))) (tTup (tCons (tVar 5) tNil)) (tVar 2) σ H4 R := by
        intro σ H4 R st ks j h0 h2 h5 s4 hst hR
        refine ⟨_, h0, a, _, 0, _, rfl, rfl, Q7.sqT_same s4 S, at0, rfl, _, rfl, ?_⟩
        rcases ag with ⟨e, e2⟩ | ⟨n, e, e2, _, _, _⟩
        · refine iteE e2 ⟨_, h2, hR st H4 (Same.refl _) ?_⟩
          rw [show aheadOf p ks j = ks by unfold aheadOf; rw [e]]
          exact hst
        · refine iteT' e2 ⟨_, h5, one_le, fun z hz => hR z _ (same_new hz) ?_⟩
          rw [show aheadOf p ks j = [(j : Int)] by unfold aheadOf; rw [e], upd_same, Int.zero_add]
          rfl
      refine for_list (xs := xs) (fun i σ H' => Same H2 H' ∧ ∃ F zs o2 o3 o4 o5 o6 o7 o8, H' F = some (.lst zs) ∧ H F = none ∧ σ = [some (.ref a), some (.ref F), o2, o3, o4, o5, o6, o7, o8] ∧
        Paired (RoadB K H') zs (((stepsD p).take i).flatMap fun q => (List.range (repN p)).flatMap (piece p q))) ⟨Same.refl _, l0, [], _, _, _, _, _, _, _, s2 _ _ F0, hl0, rfl, .nil⟩ (fun i σ H' _ r => sqL_of (r.1 _ _ M2)) ?_ ?_
      · rintro i v σ H' hv ⟨sm, F, zs, o2, o3, o4, o5, o6, o7, o8, hF, hF0, rfl, PR⟩
        obtain ⟨⟨ks, q⟩, hq, t, st, y, rfl, S1, S2, Py⟩ := pGet PP hv
        have hqm : q ∈ p.kids := steps_kid (List.mem_of_getElem? hq)
        have hdq := PlanD.deep_kid hqm
        have hcq := count_kid hqm
        have hsq := size_kid ok hqm
        refine ⟨t, _, rfl, Q7.sqT_same sm S1, rfl, _, _, rfl, _, _, rfl, rfl, ?_⟩
        refine ⟨_, rfl, y, q, N, H0, ns, rfl, ((s0.trans s12).trans sm), Py, PlanD.ok_kid ok hqm, by omega, by omega, by omega, by omega, fun l2 ys H3 s3 nl2 L3 P3 => ?_⟩
        refine rng _ _ _ rfl (sm.trans s3) ⟨_, rfl, by omega, by omega, ?_⟩
        have yl := pLen P3
        have h1 := flat_take (fun q : List Int × PlanD => (List.range (repN p)).flatMap (piece p q)) hq
        have h2 := flat_le (fun q : List Int × PlanD => (List.range (repN p)).flatMap (piece p q)) (stepsD p) (i + 1)
        rw [h1, ← ps, List.length_append] at h2
        refine for_range (lo := 0) (n := repN p) (fun j σ H4 => Same H3 H4 ∧ ∃ F zs o5 o6 o7 o8, H4 F = some (.lst zs) ∧ H F = none ∧ σ = [some (.ref a), some (.ref F), some (.ref st), some y, some (.ref l2), o5, o6, o7, o8] ∧
          Paired (RoadB K H4) zs (((stepsD p).take i).flatMap (fun q => (List.range (repN p)).flatMap (piece p q)) ++ (List.range j).flatMap (piece p (ks, q)))) ⟨Same.refl _, F, zs, _, _, _, _, s3 _ _ hF, hF0, rfl, by
            rw [show (List.range 0).flatMap (piece p (ks, q)) = [] from rfl, List.append_nil]
            exact pImp (fun _ _ z => roadB_tk z (same_tb s3)) PR⟩ ?_ ?_
        · rintro j σ H4 hj ⟨s4, F, zs, o5, o6, o7, o8, hF, hF0, rfl, PR⟩
          have s24 := (sm.trans s3).trans s4
          refine ahd _ _ _ st ks j rfl rfl rfl s24 (s24 _ _ S2) fun z H5 s5 hz => ?_
          have s25 := s24.trans s5
          have hF5 := s5 _ _ hF
          refine ⟨_, rfl, _, rfl, l2, rfl, ⟨_, sqL_of ((s4.trans s5) _ _ L3)⟩, fun D hD => ?_⟩
          have P5 := pImp (fun _ _ u => roadB_tk u (same_tb (s4.trans s5))) P3
          have PR5 := pImp (fun _ _ u => roadB_tk u (same_tb s5)) PR
          have h3 := flat_take (piece p (ks, q)) (List.getElem?_range hj)
          have h4 := flat_le (piece p (ks, q)) (List.range (repN p)) (j + 1)
          rw [h3, List.take_range, Nat.min_eq_left (Nat.le_of_lt hj), List.length_append] at h4
          have h5 : (piece p (ks, q) j).length = (paths q).length := by unfold piece; rw [List.length_map]
          refine lc_list (xs := ys) (fun m H6 => Same H5 H6 ∧ ∃ us, H6 D = some (.lst us) ∧ Paired (RoadB K H6) us ((piece p (ks, q) j).take m)) ⟨same_new hD, [], upd_same, .nil⟩ (fun i H' _ r => sqL_of (r.1 _ _ ((s4.trans s5) _ _ L3))) ?_ ?_
          · rintro m v H6 hv2 ⟨s6, us, hd, PU⟩
            obtain ⟨r, hr, b, t2, rfl, B1, B2⟩ := pGet P5 hv2
            have hm := (List.getElem?_eq_some_iff.mp hv2).1
            have ul := pLen PU
            rw [List.length_take] at ul
            have hrm : ahead (aheadOf p ks j) r ∈ paths p := by
              rw [ps]
              exact List.mem_flatMap.mpr ⟨(ks, q), List.mem_of_getElem? hq, List.mem_flatMap.mpr ⟨j, List.mem_range.mpr hj, List.mem_map.mpr ⟨r, List.mem_of_getElem? hr, rfl⟩⟩⟩
            have rl : (aheadOf p ks j ++ r.1).length < p.deep := road_len hrm
            rw [List.length_append] at rl
            have l4 := line400
            refine ⟨b, _, rfl, Q7.sqT_same s6 B1, rfl, _, _, rfl, _, _, rfl, rfl, rfl, ?_⟩
            refine ⟨_, rfl, _, rfl, cat_road (ks := aheadOf p ks j) (s6 _ _ hz) (s6 _ _ B2) (by omega) fun z2 H7 s7 S7 => ?_⟩
            refine ⟨_, rfl, two_le, fun c hc => ?_⟩
            have k8 := same_new (o := .tup [.ref z2, .str r.2]) hc
            have A8 := upd_same (H := H7) (a := c) (o := .tup [.ref z2, .str r.2])
            have hd8 := k8 _ _ (s7 _ _ hd)
            have tk8 := (same_tb s7).trans (same_tb k8)
            replace S7 := k8 _ _ S7
            have sm8 := (s6.trans s7).trans k8
            generalize upd H7 c (.tup [.ref z2, .str r.2]) = H8 at *
            have tk : TB H8 (upd H8 D (.lst (us ++ [.ref c]))) := tb_lst hd8
            refine ⟨us, hd8, by omega, same_mut sm8 hD, us ++ [.ref c], upd_same, ?_⟩
            have hp : (piece p (ks, q) j)[m]? = some (ahead (aheadOf p ks j) r) := by
              unfold piece
              rw [List.getElem?_map, hr]
              rfl
            rw [List.take_succ, hp]
            exact pApp (pImp (fun _ _ u => roadB_tk u (tk8.trans tk)) PU) (.cons ⟨c, z2, rfl, sqT_tk (sqT_of A8) tk.tk, tk.ex _ _ S7⟩ .nil)
          · rintro H6 ⟨s6, us, hd, PU⟩
            rw [yl, ← h5, List.take_length] at PU
            have zl := pLen PR
            have ul := pLen PU
            rw [List.length_append] at zl
            have l4 := line400
            refine ⟨F, D, _, _, rfl, rfl, s6 _ _ hF5, hd, by omega, fun G hG => ?_⟩
            have k9 := same_new (o := .lst (zs ++ us)) hG
            have s69 := ((s4.trans s5).trans s6).trans k9
            refine ⟨s69, G, _, _, _, _, _, upd_same, none_same (s12.trans ((sm.trans s3).trans ((s4.trans s5).trans s6))) hG, rfl, ?_⟩
            rw [List.range_succ, List.flatMap_append, ← List.append_assoc]
            refine pApp (pImp (fun _ _ u => roadB_tk u (same_tb (s6.trans k9))) PR5) ?_
            rw [show (List.flatMap (piece p (ks, q)) [j]) = piece p (ks, q) j by simp]
            exact pImp (fun _ _ u => roadB_tk u (same_tb k9)) PU
        · rintro σ H4 ⟨s4, F, zs, o5, o6, o7, o8, hF, hF0, rfl, PR⟩
          refine ⟨(sm.trans s3).trans s4, F, zs, _, _, _, _, _, _, _, hF, hF0, rfl, ?_⟩
          rw [h1]
          exact PR
      · rintro σ H' ⟨sm, F, zs, o2, o3, o4, o5, o6, o7, o8, hF, hF0, rfl, PR⟩
        rw [xl, List.take_length, ← ps] at PR
        exact ⟨_, rfl, hQ F zs H' (s12.trans sm) hF0 hF PR⟩
end
end L10
set_option maxRecDepth 100000
set_option maxHeartbeats 4000000
namespace L10
open PySem PySem.Spec PyProof.Rows L2 Q7
section
variable {P : Program} {w : World} {K : PySem.W.Frag} {mg : Str → Option Value} {base : Heap}
/-! ### texts of tasks -/
theorem un70 {k : Nat} {A : Around} (r : Room k A) : A.units + 70 < cLine := by have := r.un; omega
theorem sz_str {x : Str} {n : Nat} (h : ∀ c ∈ x.cps.toList, c < 16 ^ 8) (l : x.cps.size ≤ n) : Sz8 n 0 (.str x) :=
  ⟨by simp [PyData.showable], by simp only [PyData.leavesShort, List.all_eq_true]; exact fun c hc => decide_eq_true (h c hc), by simp only [PyData.bulk]; exact l, by simp [PyData.depth]⟩
theorem sz_name {x : Str} (g : GoodN x) : Sz8 8 0 (.str x) := sz_str (fun c hc => by have := (g.az c hc).2; omega) g.l1
theorem sz_word (b : Bool) : Sz8 8 0 (.str (wordOf b)) := by
  cases b
  · exact sz_str (by decide +kernel) (by decide +kernel)
  · exact sz_str (by decide +kernel) (by decide +kernel)
theorem shI_of {i : Int} (h : i.natAbs < 2 ^ 200) : ShI i := up_pow h (by decide)
def dEnd (e : EndD) : PyData := .tuple [.int e.1, .str (wordOf e.2.1), fr e.2.2]
def dUndo : Option Int → PyData
  | none => .none
  | some i => .int i
def dTask (t : TaskD) : PyData := .tuple [.int t.cost, dUndo t.undo, .list (t.ends.map dEnd)]
def dTasks (ts : List (Str × TaskD)) : List (PyData × PyData) := ts.map fun t => (.str t.1, dTask t.2)
theorem sz_end {e : EndD} (g : GoodE e) : Sz8 17 2 (dEnd e) := by
  have h1 : ShI e.1 := shI_of (by have := g.t0; have := g.t1; exact Nat.lt_of_lt_of_le (show e.1.natAbs < 2 ^ 11 by omega) (Nat.pow_le_pow_right (by decide) (by decide)))
  have h2 : ShI e.2.2.num := shI_of (by have := g.n0; have := g.n1; exact Nat.lt_of_lt_of_le (show e.2.2.num.natAbs < 2 ^ 11 by omega) (Nat.pow_le_pow_right (by decide) (by decide)))
  have h3 : ShI (e.2.2.den : Nat) := shI_of (by have := g.d1; exact Nat.lt_of_lt_of_le (show ((e.2.2.den : Nat) : Int).natAbs < 2 ^ 11 by omega) (Nat.pow_le_pow_right (by decide) (by decide)))
  exact (sz_tup (sz_cons (sm_int h1).z (sz_cons (sz_word _) (sz_cons (sz_fr h2 h3) sz_nil)))).mono
theorem sz_ends {es : List EndD} (g : ∀ e ∈ es, GoodE e) (l : es.length ≤ 8) : Sz8 144 3 (.list (es.map dEnd)) := by
  have h : Sz8s ((17 + 1) * (es.map dEnd).length) 2 (es.map dEnd) := sz_all fun d hd => by
    obtain ⟨e, he, rfl⟩ := List.mem_map.mp hd
    exact sz_end (g e he)
  refine (sz_lst h).mono ?_ (by decide)
  rw [List.length_map]
  omega
theorem money_sh {i : Int} (h0 : 0 ≤ i) (h1 : i ≤ 1000000000000) : ShI i := shI_of (Nat.lt_of_lt_of_le (show i.natAbs < 2 ^ 41 by omega) (Nat.pow_le_pow_right (by decide) (by decide)))
theorem sz_task {t : TaskD} (g : GoodT t) : Sz8 160 4 (dTask t) := by
  have hu : Sz8 1 0 (dUndo t.undo) := by
    cases e : t.undo with
    | none => exact sm_non.z
    | some i => exact (sm_int (money_sh (g.u i e).1 (g.u i e).2)).z
  exact (sz_tup (sz_cons (sm_int (money_sh g.c0 g.c1)).z (sz_cons hu (sz_cons (sz_ends g.e g.l1) sz_nil)))).mono
theorem sz_tasks {ts : List (Str × TaskD)} (g : ∀ t ∈ ts, GoodN t.1 ∧ GoodT t.2) (l : ts.length ≤ 12) : Sz8 2100 5 (.dict (dTasks ts)) := by
  have h : Sz8k ((8 + 160 + 2) * (dTasks ts).length) (max 0 4) (dTasks ts) := szk_all fun p hp => by
    obtain ⟨t, ht, rfl⟩ := List.mem_map.mp hp
    exact ⟨sz_name (g t ht).1, sz_task (g t ht).2⟩
  refine (sz_dct h).mono ?_ (by decide)
  unfold dTasks
  rw [List.length_map]
  omega
theorem dpW_ends {H : Hp} : ∀ {xs : List V} {es : List EndD}, Paired (EndV K H) xs es → DpWs K H xs (es.map dEnd)
  | _, _, .nil => .nil
  | _, _, .cons h r => by
    obtain ⟨p, f, rfl, S, F⟩ := h
    exact .cons (.tup S (.cons (.int _) (.cons (.str _) (.cons (dpW_fr F) .nil)))) (dpW_ends r)
theorem dpW_task {H : Hp} {v : V} {t : TaskD} (h : TaskV K H v t) : DpW K H v (dTask t) := by
  obtain ⟨p, l, es, rfl, S, L, P⟩ := h
  refine .tup S (.cons (.int _) (.cons ?_ (.cons (.lst (sqL_of L) (dpW_ends P)) .nil)))
  cases t.undo with
  | none => exact .non
  | some i => exact .int i
theorem dpW_tasks {H : Hp} : ∀ {kvs : List (Key × V)} {ts : List (Str × TaskD)}, TsP K H kvs ts → DpWk K H kvs (dTasks ts)
  | _, _, .nil => .nil
  | kv :: kvs, t :: ts, .cons h r => by
    obtain ⟨k, v⟩ := kv
    have e : k = Sum.inr t.1 := h.1
    subst e
    exact .cons (dpW_task h.2) (dpW_tasks r)
theorem shw_task {t : TaskD} (g : GoodT t) : Shw (dTask t) := (sz_task g).shw
/-! ### texts of plans -/
mutual
def dPlan : PlanD → PyData
  | .task n => .tuple [.str "task", .str n]
  | .many w ps => .tuple [.str w.word, .list (dPlans ps)]
  | .one u p => .tuple (.str u.word :: (u.nums.map PyData.int ++ [dPlan p]))
  | .watch l s p => .tuple [.str "watch", .int l, dPlan s, dPlan p]
def dPlans : PlanL → List PyData
  | .nil => []
  | .cons p ps => dPlan p :: dPlans ps
end
theorem dpWs_ints {H : Hp} {x : V} {d : PyData} (h : DpW K H x d) : ∀ ns : List Int, DpWs K H (ns.map V.int ++ [x]) (ns.map PyData.int ++ [d])
  | [] => .cons h .nil
  | i :: r => .cons (.int i) (dpWs_ints h r)
mutual
theorem dpW_plan {H : Hp} {N : Addr → Prop} : ∀ {v : V} {p : PlanD}, PlanV K H N v p → DpW K H v (dPlan p)
  | _, _, .task S => .tup S (.cons (.str _) (.cons (.str _) .nil))
  | _, _, .many S _ L P => .tup S (.cons (.str _) (.cons (.lst (sqL_of L) (dpW_plans P)) .nil))
  | _, _, .one (u := u) S P => .tup S (.cons (.str _) (dpWs_ints (dpW_plan P) u.nums))
  | _, _, .watch S P Q => .tup S (.cons (.str _) (.cons (.int _) (.cons (dpW_plan P) (.cons (dpW_plan Q) .nil))))
theorem dpW_plans {H : Hp} {N : Addr → Prop} : ∀ {xs : List V} {ps : PlanL}, PlanVs K H N xs ps → DpWs K H xs (dPlans ps)
  | _, _, .nil => .nil
  | _, _, .cons P Q => .cons (dpW_plan P) (dpW_plans Q)
end
theorem sz_lit {x : Str} (h : x.cps.toList.all (fun c => decide (c < 16 ^ 8)) = true) (l : x.cps.size ≤ 8) : Sz8 8 0 (.str x) := sz_str (fun c hc => by
  have := List.all_eq_true.mp h c hc
  exact of_decide_eq_true this) l
theorem sz_uw (u : UW) : Sz8 8 0 (.str u.word) := uw_cases (P := fun x => Sz8 8 0 (.str x)) u (sz_lit (by decide +kernel) (by decide +kernel)) (sz_lit (by decide +kernel) (by decide +kernel)) (sz_lit (by decide +kernel) (by decide +kernel)) (sz_lit (by decide +kernel) (by decide +kernel)) (sz_lit (by decide +kernel) (by decide +kernel)) (sz_lit (by decide +kernel) (by decide +kernel))
theorem sz_lw (u : LW) : Sz8 8 0 (.str u.word) := by cases u <;> exact sz_lit (by decide +kernel) (by decide +kernel)
theorem small_sh {i : Int} (h0 : 0 ≤ i) (h1 : i < 2 ^ 62) : ShI i := shI_of (Nat.lt_of_lt_of_le (show i.natAbs < 2 ^ 62 by omega) (Nat.pow_le_pow_right (by decide) (by decide)))
theorem sz_nums {d : PyData} {n m : Nat} (hd : Sz8 n m d) : ∀ ns : List Int, (∀ i ∈ ns, 0 ≤ i ∧ i < 2 ^ 62) → Sz8s (2 * ns.length + (n + 1)) m (ns.map PyData.int ++ [d])
  | [], _ => by
    have h := sz_cons hd sz_nil
    exact ⟨h.sh, h.lf, Nat.le_trans h.bk (by simp), Nat.le_trans h.dp (by simp)⟩
  | i :: r, h => by
    have h1 := (sm_int (small_sh (h i List.mem_cons_self).1 (h i List.mem_cons_self).2)).z
    have h2 := sz_cons h1 (sz_nums hd r fun x hx => h x (List.mem_cons_of_mem _ hx))
    exact ⟨h2.sh, h2.lf, Nat.le_trans h2.bk (by rw [List.length_cons]; omega), Nat.le_trans h2.dp (by omega)⟩
theorem uw_small {u : UW} (g : u.ok) : ∀ i ∈ u.nums, 0 ≤ i ∧ i < 2 ^ 62 := by
  cases u with
  | again n d =>
    have r1 := g (n, (1, 20)) (by simp [UW.nums, UW.bounds])
    have r2 := g (d, (0, 100)) (by simp [UW.nums, UW.bounds])
    have a1 : 1 ≤ n := r1.1
    have a2 : n ≤ 20 := r1.2
    have b1 : 0 ≤ d := r2.1
    have b2 : d ≤ 100 := r2.2
    intro i hi
    simp only [UW.nums, List.mem_cons, List.not_mem_nil, or_false] at hi
    rcases hi with rfl | rfl <;> omega
  | within l =>
    have r1 := g (l, (0, 200)) (by simp [UW.nums, UW.bounds])
    have a1 : 0 ≤ l := r1.1
    have a2 : l ≤ 200 := r1.2
    intro i hi
    simp only [UW.nums, List.mem_cons, List.not_mem_nil, or_false] at hi
    subst hi
    omega
  | later l =>
    have r1 := g (l, (0, 100)) (by simp [UW.nums, UW.bounds])
    have a1 : 0 ≤ l := r1.1
    have a2 : l ≤ 100 := r1.2
    intro i hi
    simp only [UW.nums, List.mem_cons, List.not_mem_nil, or_false] at hi
    subst hi
    omega
  | keep => intro i hi; simp [UW.nums] at hi
  | easy => intro i hi; simp [UW.nums] at hi
  | back l =>
    have r1 := g (l, (0, 1000000000000)) (by simp [UW.nums, UW.bounds])
    have a1 : 0 ≤ l := r1.1
    have a2 : l ≤ 1000000000000 := r1.2
    intro i hi
    simp only [UW.nums, List.mem_cons, List.not_mem_nil, or_false] at hi
    subst hi
    omega
theorem sz_to {n m n' m' : Nat} {d : PyData} (h : Sz8 n m d) (hn : n ≤ n') (hm : m ≤ m') : Sz8 n' m' d := ⟨h.sh, h.lf, Nat.le_trans h.bk hn, Nat.le_trans h.dp hm⟩
theorem szs_to {n m n' m' : Nat} {d : List PyData} (h : Sz8s n m d) (hn : n ≤ n') (hm : m ≤ m') : Sz8s n' m' d := ⟨h.sh, h.lf, Nat.le_trans h.bk hn, Nat.le_trans h.dp hm⟩
mutual
theorem sz_plan {ns : List Str} (hg : ∀ n ∈ ns, GoodN n) : ∀ {p : PlanD}, p.ok ns → Sz8 (40 * p.count - 1) (2 * p.deep) (dPlan p)
  | .task n, g => sz_to (sz_tup (sz_cons (sz_lit (x := "task") (by decide +kernel) (by decide +kernel)) (sz_cons (sz_name (hg n g)) sz_nil))) (show 18 ≤ 40 * 1 - 1 by decide) (show 1 ≤ 2 * 1 by decide)
  | .many w ps, g => by
    have h := sz_plans hg (ps := ps) g
    refine sz_to (sz_tup (sz_cons (sz_lw w) (sz_cons (sz_lst h) sz_nil))) ?_ ?_
    · show _ ≤ 40 * (1 + ps.count) - 1
      omega
    · show _ ≤ 2 * (1 + ps.deep)
      omega
  | .one u p, g => by
    have h := sz_plan hg (p := p) g.2
    have hu := (uw_len u).2
    have cp := p.count_pos
    refine sz_to (sz_tup (sz_cons (sz_uw u) (sz_nums h u.nums (uw_small g.1)))) ?_ ?_
    · show _ ≤ 40 * (1 + p.count) - 1
      omega
    · show _ ≤ 2 * (1 + p.deep)
      omega
  | .watch l s p, g => by
    have h1 := sz_plan hg (p := s) g.2.2.1
    have h2 := sz_plan hg (p := p) g.2.2.2
    have c1 := s.count_pos
    have c2 := p.count_pos
    have l0 := g.1
    have l1 := g.2.1
    refine sz_to (sz_tup (sz_cons (sz_lit (x := "watch") (by decide +kernel) (by decide +kernel)) (sz_cons (sm_int (small_sh l0 (by omega))).z (sz_cons h1 (sz_cons h2 sz_nil))))) ?_ ?_
    · show _ ≤ 40 * (1 + (s.count + p.count)) - 1
      omega
    · show _ ≤ 2 * (1 + max s.deep p.deep)
      omega
theorem sz_plans {ns : List Str} (hg : ∀ n ∈ ns, GoodN n) : ∀ {ps : PlanL}, ps.ok ns → Sz8s (40 * ps.count) (2 * ps.deep) (dPlans ps)
  | .nil, _ => szs_to sz_nil (Nat.zero_le _) (Nat.zero_le _)
  | .cons p ps, g => by
    have h1 := sz_plan hg (p := p) g.1
    have h2 := sz_plans hg (ps := ps) g.2
    have c1 := p.count_pos
    refine szs_to (sz_cons h1 h2) ?_ ?_
    · show _ ≤ 40 * (p.count + ps.count)
      omega
    · show _ ≤ 2 * max p.deep ps.deep
      omega
end
mutual
theorem ok_mono {ns ms : List Str} (h : ∀ n ∈ ns, n ∈ ms) : ∀ {p : PlanD}, p.ok ns → p.ok ms
  | .task n, g => h n g
  | .many w ps, g => okL_mono h (ps := ps) g
  | .one u p, g => ⟨g.1, ok_mono h (p := p) g.2⟩
  | .watch l s p, g => ⟨g.1, g.2.1, ok_mono h (p := s) g.2.2.1, ok_mono h (p := p) g.2.2.2⟩
theorem okL_mono {ns ms : List Str} (h : ∀ n ∈ ns, n ∈ ms) : ∀ {ps : PlanL}, ps.ok ns → ps.ok ms
  | .nil, _ => True.intro
  | .cons p ps, g => ⟨ok_mono h (p := p) g.1, okL_mono h (ps := ps) g.2⟩
end
theorem shw_both {ts : List (Str × TaskD)} (g : GoodTs ts) {p : PlanD} (ok : p.ok (ts.map (·.1))) (c : p.count ≤ 40) (d : p.deep ≤ 8) : Shw (.list [.dict (dTasks ts), dPlan p]) := by
  have h1 := sz_tasks (fun t ht => ⟨g.nm t ht, g.tk t ht⟩) g.l1
  have h2 := sz_plan (ns := ts.map (·.1)) (fun n hn => by
    obtain ⟨q, hq, rfl⟩ := List.mem_map.mp hn
    exact g.nm q hq) ok
  exact (sz_to (sz_lst (sz_cons h1 (sz_cons h2 sz_nil))) (n' := 4000) (m' := 20) (by omega) (by omega)).shw
theorem shw_two {x y : Int} (x0 : 0 ≤ x) (x1 : x < 2 ^ 62) (y0 : 0 ≤ y) (y1 : y < 2 ^ 62) : Shw (.list [.int x, .int y]) := (sz_lst (sz_cons (sm_int (small_sh x0 x1)).z (sz_cons (sm_int (small_sh y0 y1)).z sz_nil))).shw
end
end L10
set_option maxRecDepth 100000
set_option maxHeartbeats 4000000
namespace L10
open PySem PySem.Spec PyProof.Rows L2 Q7
section
variable {P : Program} {w : World} {K : PySem.W.Frag} {mg : Str → Option Value} {base : Heap}
/-! ### told -/
def spTold (K : PySem.W.Frag) : Sp := fun vs H Q _ => ∃ td v x p ts N o, vs = [.ref td, v, x] ∧ Fit K H td v ts p N ∧ PathV K H x o ∧
  ((∃ r, r ∈ paths p ∧ o = some r.1 ∧ ∀ H', Same H H' → Q (.str r.2) H') ∨ ((∀ r ∈ paths p, o ≠ some r.1) ∧ ∀ l H', Same H H' → H l = none → H' l = some (.lst [.str "path"]) → Q (.ref l) H'))
theorem five_le : 5 ≤ sizeLine := by decide
theorem ok__law_told (T : Txt w K mg) : FnOk P w K mg base CX0 14 (He.ga K "_law_told") T.fd__law_told ["some", "tree", "road"] (spTold K) := by
  refine T.F__law_told.ok sc__law_told (fun vs H Q E h => ?_) (fun cdv A outer s H vs Q E hr h => ⟨_, PSs.nox
    (pss_cons (ps_set (i := 3) sc__law_told.nd rfl (.inl rfl) pe_non)
      (pss_cons (ps_try_kept (i := 4) rfl rfl rfl sc__law_told.nd rfl rfl ⟨rfl, by decide, .inl T.g_PlanError⟩ (fun W pn xe tk _ => (pss_one (ps_ret (pe_callS (ok_name_at_E T) (hr.mono (by omega)) (by rfl) T.g_name_at T.F_name_at.kp T.b_name_at (fun σ => passAt tk σ) (pa_cons (pv 0) (pa_cons (pv 1) (pa_cons (pv 2) pa_nil))))))) (fun a oe cls d pn hz hf => (pss_one (ps_set (i := 3) sc__law_told.nd rfl (.inl rfl) (pv 4)))))
      (pss_cons (ps_if (pt_val (pe_callB call_isKT (by rfl) T.m_isinstance (by decide +kernel) (pa_cons (pv 3) (pa_cons (pe_tup (pa_cons (pe_glob (v := V.ref (He.ga K "InvalidName")) rfl T.g_InvalidName rfl) (pa_cons (pe_glob (v := V.ref (He.ga K "InvalidPlan")) rfl T.g_InvalidPlan rfl) (pa_cons (pe_glob (v := V.ref (He.ga K "InvalidTask")) rfl T.g_InvalidTask rfl) (pa_cons (pe_glob (v := V.ref (He.ga K "InvalidTasks")) rfl T.g_InvalidTasks rfl) (pa_cons (pe_glob (v := V.ref (He.ga K "TooLarge")) rfl T.g_TooLarge rfl) pa_nil)))))) pa_nil)))) (pss_one (ps_ret (pe_lst (pa_cons pe_str pa_nil)))) pss_nil)
      (pss_one (ps_ret (pe_lst (pa_cons (pe_ifExp (PW.pt (pw_and (pt_val (pe_callB call_isK (by rfl) T.m_isinstance (by decide +kernel) (pa_cons (pv 3) (pa_cons (pe_glob (v := V.ref (He.ga K "InvalidPath")) rfl T.g_InvalidPath rfl) pa_nil)))) (pw_and1 (pt_val (pe_callB call_isK (by rfl) T.m_isinstance (by decide +kernel) (pa_cons (pv 3) (pa_cons (pe_bltn rfl T.m_ValueError (v := .ty "ValueError") (u := .type "ValueError") (by decide +kernel) rfl) pa_nil))))))) pe_str pe_str) pa_nil))))))), ?_⟩)
  · obtain ⟨td, v, x, p, ts, N, o, rfl, _⟩ := h
    rfl
  · obtain ⟨td, v, x, p, ts, N, o, rfl, F, PV, hQ⟩ := h
    have l64 := line64
    refine ⟨_, rfl, _, rfl, _, rfl, td, v, x, p, ts, N, o, rfl, F, PV, ?_⟩
    rcases hQ with ⟨r, hr, e, hQ⟩ | ⟨no, hQ⟩
    · exact .inl ⟨r, hr, e, hQ⟩
    refine .inr ⟨no, fun H1 s1 => ⟨T.m_IP, _, rfl, rfl, fun z hz => ?_⟩⟩
    have k1 := s1.trans (same_new (o := ExK (IP K) z) hz)
    have y1 := upd_same (H := H1) (a := z) (o := ExK (IP K) z)
    refine ⟨_, rfl, _, rfl, five_le, fun t ht => ?_⟩
    generalize upd H1 z (ExK (IP K) z) = H2 at *
    have k2 := same_new (o := .tup [.ref (He.ga K "InvalidName"), .ref (He.ga K "InvalidPlan"), .ref (He.ga K "InvalidTask"), .ref (He.ga K "InvalidTasks"), .ref (He.ga K "TooLarge")]) ht
    have y2 := k2 _ _ y1
    refine ⟨z, IP K, t, _, _, _, rfl, y2, T.e_IP, upd_same, .cons (.own _) (.cons (.own _) (.cons (.own _) (.cons (.own _) (.cons (.own _) .nil)))), T.i_A, _, rfl, iteF ?_⟩
    replace k1 := k1.trans k2
    generalize upd H2 t (.tup [.ref (He.ga K "InvalidName"), .ref (He.ga K "InvalidPlan"), .ref (He.ga K "InvalidTask"), .ref (He.ga K "InvalidTasks"), .ref (He.ga K "TooLarge")]) = H3 at *
    refine ⟨_, rfl, z, IP K, _, _, _, rfl, y2, T.e_IP, .own _, T.i_P, _, rfl, iteT ⟨_, rfl, z, IP K, _, _, _, rfl, y2, T.e_IP, .ty _, T.i_V, _, rfl, iteT ⟨one_le, fun l hl => ?_⟩⟩⟩
    exact hQ l _ (k1.trans (same_new hl)) (none_same k1 hl) upd_same
end
end L10
set_option maxRecDepth 100000
set_option maxHeartbeats 4000000
namespace Q7
open PySem PySem.Spec PyProof.Rows L2
/-! ### the text of a tuple of whole numbers tells them -/
theorem all_map : ∀ ds : List PyData, PyData.shownAll ds = ds.map PyData.shown
  | [] => rfl
  | d :: ds => by
    show PyData.shown d :: PyData.shownAll ds = _
    rw [all_map ds]
    rfl
def tailT (n : Nat) : List Nat := if n = 1 then [44, 41] else [41]
theorem tl_tuple (ts : List Str) : TL.tl (tupleText ts) = 40 :: (TL.joinL [44, 32] (ts.map TL.tl) ++ tailT ts.length) := by
  have e1 : TL.tl ("(" : Str) = [40] := by decide +kernel
  have e2 : TL.tl (", " : Str) = [44, 32] := by decide +kernel
  have e3 : TL.tl (",)" : Str) = [44, 41] := by decide +kernel
  have e4 : TL.tl (")" : Str) = [41] := by decide +kernel
  unfold tupleText tailT
  rw [TL.tl_append, TL.tl_append, TL.tl_join, e1, e2]
  by_cases h : ts.length = 1
  · rw [if_pos h, if_pos (by rw [h]; rfl), e3]
    rfl
  · rw [if_neg h, if_neg (by simpa using h), e4]
    rfl
theorem mem_join {s x : List Nat} {c : Nat} (hc : c ∈ x) : ∀ {l : List (List Nat)}, x ∈ l → c ∈ TL.joinL s l
  | [], h => by cases h
  | [y], h => by
    rw [List.mem_singleton.mp h] at hc
    exact hc
  | y :: z :: l, h => by
    show c ∈ y ++ (s ++ TL.joinL s (z :: l))
    rcases List.mem_cons.mp h with rfl | h
    · exact List.mem_append_left _ hc
    · exact List.mem_append_right _ (List.mem_append_right _ (mem_join hc h))
theorem of_join {s : List Nat} {c : Nat} : ∀ {l : List (List Nat)}, c ∈ TL.joinL s l → c ∈ s ∨ ∃ x ∈ l, c ∈ x
  | [], h => by cases h
  | [y], h => .inr ⟨y, List.mem_singleton.mpr rfl, h⟩
  | y :: z :: l, h => by
    have h' : c ∈ y ++ (s ++ TL.joinL s (z :: l)) := h
    rcases List.mem_append.mp h' with h | h
    · exact .inr ⟨y, List.mem_cons_self, h⟩
    · rcases List.mem_append.mp h with h | h
      · exact .inl h
      · rcases of_join h with h | ⟨x, hx, h⟩
        · exact .inl h
        · exact .inr ⟨x, List.mem_cons_of_mem _ hx, h⟩
theorem shown_nat (n : Nat) : TL.tl (PyData.shown (.int (n : Int))) = TL.numL n := TL.tl_num n
/-- a digit, a comma, a space, a closing bracket -/
def Mild (c : Nat) : Prop := (48 ≤ c ∧ c ≤ 57) ∨ c = 44 ∨ c = 32 ∨ c = 41
theorem mild_body {ks : List Nat} {c : Nat} (h : c ∈ TL.joinL [44, 32] (ks.map TL.numL) ++ tailT ks.length) : Mild c := by
  rcases List.mem_append.mp h with h | h
  · rcases of_join h with h | ⟨x, hx, h⟩
    · simp only [List.mem_cons, List.not_mem_nil, or_false] at h
      rcases h with rfl | rfl
      · exact .inr (.inl rfl)
      · exact .inr (.inr (.inl rfl))
    · obtain ⟨k, _, rfl⟩ := List.mem_map.mp hx
      exact .inl (TL.numL_digits k c h)
  · unfold tailT at h
    split at h
    · simp only [List.mem_cons, List.not_mem_nil, or_false] at h
      rcases h with rfl | rfl
      · exact .inr (.inl rfl)
      · exact .inr (.inr (.inr rfl))
    · rw [List.mem_singleton.mp h]
      exact .inr (.inr (.inr rfl))
theorem num_cut {a b x y : Nat} {r s : List Nat} (hx : x < 48) (hy : y < 48) (e : TL.numL a ++ x :: r = TL.numL b ++ y :: s) : a = b ∧ x :: r = y :: s := by
  have cut : ∀ (l : List Nat) (z : Nat) (t : List Nat), (∀ c ∈ l, 48 ≤ c) → z < 48 → (l ++ z :: t).takeWhile (fun c => decide (48 ≤ c)) = l := by
    intro l z t
    induction l with
    | nil =>
      intro _ hz
      show (z :: t).takeWhile _ = []
      rw [List.takeWhile_cons, if_neg (by simp; omega)]
    | cons c l ih =>
      intro h hz
      show (c :: (l ++ z :: t)).takeWhile _ = _
      rw [List.takeWhile_cons, if_pos (by simpa using h c List.mem_cons_self), ih (fun d hd => h d (List.mem_cons_of_mem _ hd)) hz]
  have h1 := cut (TL.numL a) x r (fun c h => (TL.numL_digits a c h).1) hx
  have h2 := cut (TL.numL b) y s (fun c h => (TL.numL_digits b c h).1) hy
  rw [e, h2] at h1
  have hab := (TL.numL_inj h1).symm
  subst hab
  exact ⟨rfl, List.append_cancel_left e⟩
theorem join_two (a b : Nat) (l : List Nat) : TL.joinL [44, 32] ((a :: b :: l).map TL.numL) = TL.numL a ++ (44 :: 32 :: TL.joinL [44, 32] ((b :: l).map TL.numL)) := rfl
theorem more_inj : ∀ {js ks : List Nat}, js ≠ [] → ks ≠ [] → TL.joinL [44, 32] (js.map TL.numL) ++ [41] = TL.joinL [44, 32] (ks.map TL.numL) ++ [41] → js = ks
  | [], _, h, _, _ => absurd rfl h
  | _, [], _, h, _ => absurd rfl h
  | [a], [b], _, _, e => by
    have e' : TL.numL a ++ 41 :: [] = TL.numL b ++ 41 :: [] := e
    rw [(num_cut (by decide) (by decide) e').1]
  | [a], b :: c :: l, _, _, e => by
    rw [join_two, List.append_assoc] at e
    have e' : TL.numL a ++ 41 :: [] = TL.numL b ++ 44 :: (32 :: TL.joinL [44, 32] ((c :: l).map TL.numL) ++ [41]) := e
    have := (List.cons.inj (num_cut (by decide) (by decide) e').2).1
    omega
  | a :: c :: l, [b], _, _, e => by
    rw [join_two, List.append_assoc] at e
    have e' : TL.numL a ++ 44 :: (32 :: TL.joinL [44, 32] ((c :: l).map TL.numL) ++ [41]) = TL.numL b ++ 41 :: [] := e
    have := (List.cons.inj (num_cut (by decide) (by decide) e').2).1
    omega
  | a :: c :: l, b :: d :: m, _, _, e => by
    rw [join_two, join_two, List.append_assoc, List.append_assoc] at e
    have e' : TL.numL a ++ 44 :: (32 :: (TL.joinL [44, 32] ((c :: l).map TL.numL) ++ [41])) = TL.numL b ++ 44 :: (32 :: (TL.joinL [44, 32] ((d :: m).map TL.numL) ++ [41])) := e
    obtain ⟨h1, h2⟩ := num_cut (by decide) (by decide) e'
    have h3 := (List.cons.inj (List.cons.inj h2).2).2
    rw [h1, more_inj (by simp) (by simp) h3]
theorem body_inj {js ks : List Nat} (e : TL.joinL [44, 32] (js.map TL.numL) ++ tailT js.length = TL.joinL [44, 32] (ks.map TL.numL) ++ tailT ks.length) : js = ks := by
  have first : ∀ (a : Nat) (r : List Nat), TL.numL a ++ r ≠ [41] := fun a r h => by
    cases z : TL.numL a with
    | nil => exact TL.numL_ne a z
    | cons c t =>
      rw [z] at h
      have := (TL.numL_digits a c (by rw [z]; exact List.mem_cons_self)).1
      have := (List.cons.inj h).1
      omega
  match js, ks, e with
  | [], [], _ => rfl
  | [], [b], e => exact absurd (show TL.numL b ++ [44, 41] = [41] from e.symm) (first _ _)
  | [], b :: c :: l, e =>
    have e' : TL.numL b ++ (44 :: 32 :: TL.joinL [44, 32] ((c :: l).map TL.numL)) ++ [41] = [41] := by
      rw [← join_two]
      exact e.symm
    rw [List.append_assoc] at e'
    exact absurd e' (first _ _)
  | [a], [], e => exact absurd (show TL.numL a ++ [44, 41] = [41] from e) (first _ _)
  | [a], [b], e =>
    have e' : TL.numL a ++ 44 :: [41] = TL.numL b ++ 44 :: [41] := e
    rw [(num_cut (by decide) (by decide) e').1]
  | [a], b :: c :: l, e =>
    have e' : TL.numL a ++ 44 :: [41] = TL.numL b ++ (44 :: 32 :: TL.joinL [44, 32] ((c :: l).map TL.numL)) ++ [41] := by
      rw [← join_two]
      exact e
    rw [List.append_assoc] at e'
    have h2 := (num_cut (by decide) (by decide) (show TL.numL a ++ 44 :: [41] = TL.numL b ++ 44 :: (32 :: TL.joinL [44, 32] ((c :: l).map TL.numL) ++ [41]) from e')).2
    have := (List.cons.inj (List.cons.inj h2).2).1
    omega
  | a :: c :: l, [], e =>
    have e' : TL.numL a ++ (44 :: 32 :: TL.joinL [44, 32] ((c :: l).map TL.numL)) ++ [41] = [41] := by
      rw [← join_two]
      exact e
    rw [List.append_assoc] at e'
    exact absurd e' (first _ _)
  | a :: c :: l, [b], e =>
    have e' : TL.numL a ++ (44 :: 32 :: TL.joinL [44, 32] ((c :: l).map TL.numL)) ++ [41] = TL.numL b ++ 44 :: [41] := by
      rw [← join_two]
      exact e
    rw [List.append_assoc] at e'
    have h2 := (num_cut (by decide) (by decide) (show TL.numL a ++ 44 :: (32 :: TL.joinL [44, 32] ((c :: l).map TL.numL) ++ [41]) = TL.numL b ++ 44 :: [41] from e')).2
    have := (List.cons.inj (List.cons.inj h2).2).1
    omega
  | a :: c :: l, b :: d :: m, e => exact more_inj (by simp) (by simp) e
/-- what is no whole number from 0 on shows it by a sign -/
def Marked (d : PyData) : Prop := ∃ c ∈ TL.tl (PyData.shown d), ¬ Mild c
theorem road_text {ds : List PyData} {ks : List Nat} (g : ∀ d ∈ ds, (∃ n : Nat, d = .int (n : Int)) ∨ Marked d) (e : PyData.shown (.tuple ds) = PyData.shown (.tuple (ks.map fun (k : Nat) => .int (k : Int)))) :
    ds = ks.map fun (k : Nat) => .int (k : Int) := by
  have nums : ∀ js : List Nat, ((js.map fun (k : Nat) => PyData.int (k : Int)).map PyData.shown).map TL.tl = js.map TL.numL := fun js => by
    rw [List.map_map, List.map_map]
    exact List.map_congr_left fun k _ => shown_nat k
  have tx : ∀ l : List PyData, TL.tl (PyData.shown (.tuple l)) = 40 :: (TL.joinL [44, 32] ((l.map PyData.shown).map TL.tl) ++ tailT l.length) := fun l => by
    show TL.tl (tupleText (PyData.shownAll l)) = _
    rw [all_map, tl_tuple, List.length_map]
  have e1 := congrArg TL.tl e
  rw [tx, tx, nums] at e1
  have e2 := (List.cons.inj e1).2
  rw [List.length_map] at e2
  have all : ∀ d ∈ ds, ∃ n : Nat, d = .int (n : Int) := fun d hd => (g d hd).elim id fun ⟨c, hc, no⟩ => by
    have : c ∈ TL.joinL [44, 32] ((ds.map PyData.shown).map TL.tl) ++ tailT ds.length :=
      List.mem_append_left _ (mem_join hc (List.mem_map.mpr ⟨_, List.mem_map.mpr ⟨d, hd, rfl⟩, rfl⟩))
    rw [e2] at this
    exact absurd (mild_body this) no
  obtain ⟨js, rfl⟩ : ∃ js : List Nat, ds = js.map fun (k : Nat) => .int (k : Int) := by
    clear e e1 e2 g
    induction ds with
    | nil => exact ⟨[], rfl⟩
    | cons d ds ih =>
      obtain ⟨n, rfl⟩ := all d List.mem_cons_self
      obtain ⟨js, rfl⟩ := ih fun d hd => all d (List.mem_cons_of_mem _ hd)
      exact ⟨n :: js, rfl⟩
  rw [nums, List.length_map] at e2
  rw [body_inj e2]
end Q7
set_option maxRecDepth 100000
set_option maxHeartbeats 4000000
namespace L10
open PySem PySem.Spec PyProof.Rows L2 Q7
section
variable {P : Program} {w : World} {K : PySem.W.Frag} {mg : Str → Option Value} {base : Heap}
/-! ### what stands in a road -/
theorem stepsA_small {ns : List Str} {p : PlanD} {q : List Int × PlanD} (ok : p.ok ns) (cnt : p.count ≤ 60) (h : q ∈ stepsA p) : ∀ k ∈ q.1, 0 ≤ k ∧ k < 60 := by
  intro k hk
  cases p with
  | task n => cases h
  | many w ps =>
    obtain ⟨⟨z, i⟩, hz, rfl⟩ := List.mem_map.mp (show q ∈ ps.list.zipIdx.map fun q => ([(q.2 : Int)], q.1) from h)
    have := List.snd_lt_of_mem_zipIdx hz
    have kl := kids_len (.many w ps)
    have : (PlanD.many w ps).kids = ps.list := rfl
    rw [this] at kl
    rw [List.mem_singleton.mp hk]
    simp only at *
    omega
  | one u p =>
    cases u with
    | again n d =>
      obtain ⟨i, hi, rfl⟩ := List.mem_map.mp (show q ∈ (List.range n.toNat).map fun (i : Nat) => ([(i : Int)], p) from h)
      have h1 : 1 ≤ n ∧ n ≤ 20 := ok.1 (n, (1, 20)) (by simp [UW.nums, UW.bounds])
      have := List.mem_range.mp hi
      rw [List.mem_singleton.mp hk]
      omega
    | within l => rw [List.mem_singleton.mp (show q ∈ [([], p)] from h)] at hk; cases hk
    | later l => rw [List.mem_singleton.mp (show q ∈ [([], p)] from h)] at hk; cases hk
    | keep => rw [List.mem_singleton.mp (show q ∈ [([], p)] from h)] at hk; cases hk
    | easy => rw [List.mem_singleton.mp (show q ∈ [([], p)] from h)] at hk; cases hk
    | back l => rw [List.mem_singleton.mp (show q ∈ [([], p)] from h)] at hk; cases hk
  | watch l s p =>
    have h' : q ∈ [([(0 : Int)], s), ([1], p)] := h
    simp only [List.mem_cons, List.not_mem_nil, or_false] at h'
    rcases h' with rfl | rfl
    · rw [List.mem_singleton.mp hk]; decide
    · rw [List.mem_singleton.mp hk]; decide
theorem road_small {ns : List Str} {p : PlanD} {r : List Int × Str} (ok : p.ok ns) (cnt : p.count ≤ 60) (h : r ∈ paths p) : ∀ k ∈ r.1, 0 ≤ k ∧ k < 60 := by
  by_cases ht : ∃ n, p = .task n
  · obtain ⟨n, rfl⟩ := ht
    rw [List.mem_singleton.mp h]
    intro k hk
    cases hk
  · rw [paths_steps fun n e => ht ⟨n, e⟩] at h
    obtain ⟨q, hq, h⟩ := List.mem_flatMap.mp h
    obtain ⟨r', hr, rfl⟩ := List.mem_map.mp h
    have hk := stepsA_kid hq
    have := PlanD.deep_kid hk
    have := count_kid hk
    intro k hkm
    rcases List.mem_append.mp (show k ∈ q.1 ++ r'.1 from hkm) with h | h
    · exact stepsA_small ok cnt hq k h
    · exact road_small (PlanD.ok_kid ok hk) (by omega) hr k h
termination_by p.deep
/-! ### values near a road -/
inductive ItB (K : PySem.W.Frag) (H : Hp) : V → PyData → Prop where
  | nat (n : Nat) : n < 2 ^ 110 → ItB K H (.int (n : Int)) (.int (n : Int))
  | neg : ItB K H (.int (-1)) (.int (-1))
  | bl (b : Bool) : ItB K H (.bl b) (.bool b)
  | non : ItB K H .non .none
  | zero : ItB K H (.str "0") (.str "0")
  | tup {a : Addr} {ks : List Nat} : SqT K H a (ks.map fun (k : Nat) => V.int (k : Int)) → ks.length ≤ 8 → (∀ k ∈ ks, k < 60) → ItB K H (.ref a) (.tuple (ks.map fun (k : Nat) => .int (k : Int)))
theorem itB_tk {H H' : Hp} {v : V} {d : PyData} (h : ItB K H v d) (s : TK H H') : ItB K H' v d := by
  cases h with
  | nat n l => exact .nat n l
  | neg => exact .neg
  | bl b => exact .bl b
  | non => exact .non
  | zero => exact .zero
  | tup S l g => exact .tup (sqT_tk S s) l g
theorem marked_of {d : PyData} (h : (TL.tl d.shown).any (fun c => !(decide (48 ≤ c) && decide (c ≤ 57)) && (c != 44 && (c != 32 && c != 41))) = true) : Marked d := by
  obtain ⟨c, hc, h⟩ := List.any_eq_true.mp h
  refine ⟨c, hc, fun m => ?_⟩
  simp only [Bool.and_eq_true, Bool.not_eq_true', Bool.and_eq_false_iff, decide_eq_false_iff_not, bne_iff_ne] at h
  obtain ⟨h1, h2, h3, h4⟩ := h
  rcases m with ⟨a, b⟩ | e | e | e
  · rcases h1 with h1 | h1
    · exact h1 a
    · exact h1 b
  · exact h2 e
  · exact h3 e
  · exact h4 e
theorem itB_mark {H : Hp} {v : V} {d : PyData} (h : ItB K H v d) : (∃ n : Nat, v = .int (n : Int) ∧ d = .int (n : Int)) ∨ (Marked d ∧ (v = .int (-1) ∨ ∃ t, Ki K H v t ∧ t ≠ "int")) := by
  cases h with
  | nat n l => exact .inl ⟨n, rfl, rfl⟩
  | neg => exact .inr ⟨marked_of (by decide +kernel), .inl rfl⟩
  | bl b => exact .inr ⟨by cases b <;> exact marked_of (by decide +kernel), .inr ⟨_, ki_bl b, by decide⟩⟩
  | non => exact .inr ⟨marked_of (by decide +kernel), .inr ⟨_, ki_non, by decide⟩⟩
  | zero => exact .inr ⟨marked_of (by decide +kernel), .inr ⟨_, ki_str _, by decide⟩⟩
  | tup S l g =>
    refine .inr ⟨⟨40, ?_, fun m => ?_⟩, .inr ⟨_, ki_tup S, by decide⟩⟩
    · show 40 ∈ TL.tl (tupleText _)
      rw [tl_tuple]
      exact List.mem_cons_self
    · rcases m with ⟨a, b⟩ | e | e | e <;> omega
theorem itB_ki {H : Hp} {v : V} {d : PyData} (h : ItB K H v d) : ∃ t, Ki K H v t := by
  cases h with
  | nat n l => exact ⟨_, ki_int _⟩
  | neg => exact ⟨_, ki_int _⟩
  | bl b => exact ⟨_, ki_bl b⟩
  | non => exact ⟨_, ki_non⟩
  | zero => exact ⟨_, ki_str _⟩
  | tup S l g => exact ⟨_, ki_tup S⟩
theorem dpWs_nats {H : Hp} : ∀ ks : List Nat, DpWs K H (ks.map fun (k : Nat) => V.int (k : Int)) (ks.map fun (k : Nat) => .int (k : Int))
  | [] => .nil
  | k :: r => .cons (.int _) (dpWs_nats r)
theorem itB_dp {H : Hp} {v : V} {d : PyData} (h : ItB K H v d) : DpW K H v d := by
  cases h with
  | nat n l => exact .int _
  | neg => exact .int _
  | bl b => exact .bl b
  | non => exact .non
  | zero => exact .str _
  | tup S l g => exact .tup S (dpWs_nats _)
theorem dpWs_its {H : Hp} : ∀ {xs : List V} {ds : List PyData}, Paired (ItB K H) xs ds → DpWs K H xs ds
  | _, _, .nil => .nil
  | _, _, .cons h r => .cons (itB_dp h) (dpWs_its r)
theorem nat_sh {n : Nat} (h : n < 2 ^ 110) : ShI (n : Int) := shI_of (Nat.lt_of_lt_of_le (show ((n : Int)).natAbs < 2 ^ 110 by simpa using h) (Nat.pow_le_pow_right (by decide) (by decide)))
theorem sz_nats : ∀ ks : List Nat, (∀ k ∈ ks, k < 60) → Sz8s (2 * ks.length) 0 (ks.map fun (k : Nat) => .int (k : Int))
  | [], _ => sz_nil
  | k :: r, h => by
    have h1 := (sm_int (nat_sh (Nat.lt_of_lt_of_le (h k List.mem_cons_self) (by decide : 60 ≤ 2 ^ 110)))).z
    have h2 := sz_cons h1 (sz_nats r fun x hx => h x (List.mem_cons_of_mem _ hx))
    exact szs_to h2 (by rw [List.length_cons]; omega) (by omega)
theorem itB_sz {H : Hp} {v : V} {d : PyData} (h : ItB K H v d) : Sz8 20 2 d := by
  cases h with
  | nat n l => exact sz_to (sm_int (nat_sh l)).z (by decide) (by decide)
  | neg => exact sz_to (sm_int (shI_of (by decide +kernel))).z (by decide) (by decide)
  | bl b => exact sz_to (sm_bl b).z (by decide) (by decide)
  | non => exact sz_to sm_non.z (by decide) (by decide)
  | zero => exact sz_to (sz_lit (x := "0") (by decide +kernel) (by decide +kernel)) (by decide) (by decide)
  | @tup a ks S l g => exact sz_to (sz_tup (sz_nats ks g)) (by omega) (by decide)
theorem shw_its {H : Hp} {xs : List V} {ds : List PyData} (P : Paired (ItB K H) xs ds) (l : xs.length ≤ 40) : Shw (.tuple ds) := by
  have h : Sz8s ((20 + 1) * ds.length) 2 ds := sz_all fun d hd => by
    clear l
    induction P with
    | nil => cases hd
    | cons h r ih =>
      rcases List.mem_cons.mp hd with rfl | hd
      · exact itB_sz h
      · exact ih hd
  have e := pLen P
  exact (sz_to (sz_tup h) (n' := 900) (m' := 10) (by omega) (by decide)).shw
inductive OthD (K : PySem.W.Frag) (H : Hp) : V → Prop where
  | non : OthD K H .non
  | int : OthD K H (.int 0)
  | str : OthD K H (.str "")
  | lst {a : Addr} {xs : List V} : H a = some (.lst xs) → OthD K H (.ref a)
  | dct {a : Addr} : H a = some (.dK []) → OthD K H (.ref a)
  | tup {a : Addr} {xs : List V} {ds : List PyData} : H a = some (.tup xs) → Paired (ItB K H) xs ds → xs.length ≤ 40 → OthD K H (.ref a)
theorem othD_sb {H H' : Hp} {b : Addr} {s0 s1 s2 t0 t1 t2 : Int} (hb : SrcAt H b s0 s1 s2) (hb' : SrcAt H' b t0 t1 t2) (s : Sb b H H') {v : V} (h : OthD K H v) : OthD K H' v := by
  have tk : TK H H' := kv_sb hb s
  cases h with
  | non => exact .non
  | int => exact .int
  | str => exact .str
  | @lst a xs e =>
    by_cases n : a = b
    · subst n
      exact .lst hb'
    · exact .lst (s _ _ e n)
  | dct e => exact .dct (s _ _ e fun n => by rw [n, show H b = _ from hb] at e; cases e)
  | tup e P l => exact .tup (s _ _ e fun n => by rw [n, show H b = _ from hb] at e; cases e) (pImp (fun _ _ z => itB_tk z tk) P) l
theorem othD_same {H H' : Hp} (s : Same H H') {v : V} (h : OthD K H v) : OthD K H' v := by
  cases h with
  | non => exact .non
  | int => exact .int
  | str => exact .str
  | lst e => exact .lst (s _ _ e)
  | dct e => exact .dct (s _ _ e)
  | tup e P l => exact .tup (s _ _ e) (pImp (fun _ _ z => itB_tk z (same_tk s)) P) l
def textR (ks : List Int) : Str := PyData.shown (.tuple (ks.map PyData.int))
/-- how a value is told -/
inductive Seen (K : PySem.W.Frag) (H : Hp) : V → Option (List Int) → Prop where
  | other {v : V} {t : String} : Ki K H v t → t ≠ "tuple" → Seen K H v none
  | tup {a : Addr} {d : PyData} {o : Option (List Int)} : Ki K H (.ref a) "tuple" → PathV K H (.ref a) o → DpW K H (.ref a) d → Shw d →
    (∀ l : List (List Int), (∀ r ∈ l, ∀ k ∈ r, 0 ≤ k) → (d.shown ∈ l.map textR ↔ ∃ r ∈ l, o = some r)) → Seen K H (.ref a) o
theorem nats_of : ∀ {ks : List Int}, (∀ k ∈ ks, 0 ≤ k) → ∃ js : List Nat, ks = js.map fun (j : Nat) => (j : Int)
  | [], _ => ⟨[], rfl⟩
  | k :: r, h => by
    obtain ⟨js, rfl⟩ := nats_of fun x hx => h x (List.mem_cons_of_mem _ hx)
    have h0 := h k List.mem_cons_self
    exact ⟨k.toNat :: js, by rw [List.map_cons, Int.toNat_of_nonneg h0]⟩
theorem kis_of {H : Hp} : ∀ {xs : List V} {ds : List PyData}, Paired (ItB K H) xs ds → ∃ ts, Paired (fun x t => Ki K H x t) xs ts
  | _, _, .nil => ⟨[], .nil⟩
  | _, _, .cons h r => by
    obtain ⟨t, k⟩ := itB_ki h
    obtain ⟨ts, p⟩ := kis_of r
    exact ⟨t :: ts, .cons k p⟩
/-- all whole, or one is not -/
theorem its_or {H : Hp} : ∀ {xs : List V} {ds : List PyData}, Paired (ItB K H) xs ds →
    (∃ ks : List Int, xs = ks.map V.int ∧ ((∃ js : List Nat, ks = (js.map fun (j : Nat) => (j : Int)) ∧ ds = js.map fun (j : Nat) => .int (j : Int)) ∨ ((∃ k ∈ ks, k < 0) ∧ ∃ d ∈ ds, Marked d))) ∨
    ((∃ ts, Paired (fun x t => Ki K H x t) xs ts ∧ ts.all (· == "int") = false) ∧ ∃ d ∈ ds, Marked d)
  | _, _, .nil => .inl ⟨[], rfl, .inl ⟨[], rfl, rfl⟩⟩
  | _, _, @Paired.cons _ _ _ x d _ _ h r => by
    obtain ⟨t0, k0⟩ := itB_ki h
    rcases its_or r with ⟨ks, rfl, hr⟩ | ⟨⟨ts, p, hf⟩, d', hd, m⟩
    · rcases itB_mark h with ⟨n, rfl, rfl⟩ | ⟨m, rfl | ⟨t, k, ne⟩⟩
      · rcases hr with ⟨js, rfl, rfl⟩ | ⟨⟨k, hk, l⟩, d', hd, m⟩
        · exact .inl ⟨(n : Int) :: js.map fun (j : Nat) => (j : Int), rfl, .inl ⟨n :: js, rfl, rfl⟩⟩
        · exact .inl ⟨(n : Int) :: ks, rfl, .inr ⟨⟨k, List.mem_cons_of_mem _ hk, l⟩, d', List.mem_cons_of_mem _ hd, m⟩⟩
      · exact .inl ⟨-1 :: ks, rfl, .inr ⟨⟨-1, List.mem_cons_self, by decide⟩, d, List.mem_cons_self, m⟩⟩
      · obtain ⟨ts, p⟩ := kis_of r
        exact .inr ⟨⟨t :: ts, .cons k p, by simp [ne]⟩, d, List.mem_cons_self, m⟩
    · exact .inr ⟨⟨t0 :: ts, .cons k0 p, by simp [hf]⟩, d', List.mem_cons_of_mem _ hd, m⟩
theorem its_marks {H : Hp} {xs : List V} {ds : List PyData} (P : Paired (ItB K H) xs ds) : ∀ d ∈ ds, (∃ n : Nat, d = .int (n : Int)) ∨ Marked d := by
  induction P with
  | nil => intro d hd; cases hd
  | cons h r ih =>
    intro d hd
    rcases List.mem_cons.mp hd with rfl | hd
    · rcases itB_mark h with ⟨n, _, e⟩ | ⟨m, _⟩
      · exact .inl ⟨n, e⟩
      · exact .inr m
    · exact ih d hd
theorem nat_int_map (js : List Nat) : (js.map fun (j : Nat) => (j : Int)).map PyData.int = js.map fun (j : Nat) => PyData.int (j : Int) := by
  rw [List.map_map]
  rfl
theorem nats_inj : ∀ {js is : List Nat}, (js.map fun (j : Nat) => PyData.int (j : Int)) = (is.map fun (j : Nat) => PyData.int (j : Int)) → js = is
  | [], [], _ => rfl
  | [], _ :: _, h => by cases h
  | _ :: _, [], h => by cases h
  | j :: js, i :: is, h => by
    obtain ⟨h1, h2⟩ := List.cons.inj h
    have h1' : (j : Int) = (i : Int) := PyData.int.inj h1
    rw [nats_inj h2, show j = i by omega]
theorem marked_int (n : Nat) : ¬ Marked (.int (n : Int)) := fun ⟨c, hc, m⟩ => by
  rw [shown_nat] at hc
  exact m (.inl (TL.numL_digits n c hc))
theorem seen_of {H : Hp} {v : V} (h : OthD K H v) : ∃ o, Seen K H v o := by
  cases h with
  | non => exact ⟨_, .other ki_non (by decide)⟩
  | int => exact ⟨_, .other (ki_int _) (by decide)⟩
  | str => exact ⟨_, .other (ki_str _) (by decide)⟩
  | lst e => exact ⟨_, .other (ki_lst (sqL_of e)) (by decide)⟩
  | dct e => exact ⟨_, .other (ki_dct e) (by decide)⟩
  | @tup a xs ds e P ll =>
    have dw : DpW K H (.ref a) (.tuple ds) := .tup (sqT_of e) (dpWs_its P)
    have sh := shw_its P ll
    have gm := its_marks P
    have back : ∀ l : List (List Int), (∀ r ∈ l, ∀ k ∈ r, 0 ≤ k) → PyData.shown (.tuple ds) ∈ l.map textR → ∃ r ∈ l, ∃ js : List Nat, r = (js.map fun (j : Nat) => (j : Int)) ∧ ds = js.map fun (j : Nat) => .int (j : Int) := by
      intro l hl hm
      obtain ⟨r, hr, e⟩ := List.mem_map.mp hm
      obtain ⟨js, rfl⟩ := nats_of (hl r hr)
      refine ⟨_, hr, js, rfl, road_text gm ?_⟩
      rw [← e]
      show PyData.shown (.tuple ((js.map fun (j : Nat) => (j : Int)).map PyData.int)) = _
      rw [nat_int_map]
    have noMark : ∀ l : List (List Int), (∀ r ∈ l, ∀ k ∈ r, 0 ≤ k) → (∃ d ∈ ds, Marked d) → PyData.shown (.tuple ds) ∉ l.map textR := by
      intro l hl ⟨d, hd, m⟩ hm
      obtain ⟨_, _, js, _, rfl⟩ := back l hl hm
      obtain ⟨j, _, rfl⟩ := List.mem_map.mp hd
      exact marked_int j m
    rcases its_or P with ⟨ks, rfl, hr⟩ | ⟨⟨ts, p, hf⟩, dm⟩
    · rw [List.length_map] at ll
      refine ⟨some ks, .tup (ki_tup (sqT_of e)) (.road e (by omega)) dw sh fun l hl => ?_⟩
      rcases hr with ⟨js, rfl, rfl⟩ | ⟨⟨k, hk, neg⟩, dm⟩
      · constructor
        · intro hm
          obtain ⟨r, hr, is, rfl, ei⟩ := back l hl hm
          refine ⟨_, hr, ?_⟩
          have : js = is := nats_inj ei
          rw [this]
        · rintro ⟨r, hr, e2⟩
          cases e2
          refine List.mem_map.mpr ⟨_, hr, ?_⟩
          show PyData.shown (.tuple ((js.map fun (j : Nat) => (j : Int)).map PyData.int)) = _
          rw [nat_int_map]
      · constructor
        · intro hm
          exact absurd hm (noMark l hl dm)
        · rintro ⟨r, hr, e2⟩
          cases e2
          have := hl ks hr k hk
          omega
    · refine ⟨none, .tup (ki_tup (sqT_of e)) (.odd e p hf (by omega)) dw sh fun l hl => ⟨fun hm => absurd hm (noMark l hl dm), ?_⟩⟩
      rintro ⟨r, _, e2⟩
      cases e2
end
end L10
set_option maxRecDepth 100000
set_option maxHeartbeats 4000000
namespace Q7
open PySem PySem.Spec PyProof.Rows L2 HT
/-! ### t[::-1], a tuple -/
theorem places_back (n : Nat) : Builtin.Slice.slicePlaces ((n : Int) - 1) (-1) (-1) = n := by
  unfold Builtin.Slice.slicePlaces
  rw [if_neg (by decide : ¬ ((-1 : Int) > 0))]
  by_cases h : n = 0
  · subst h
    rfl
  · rw [if_pos (by omega), show (- -1 : Int) = 1 from rfl, Int.ediv_one]
    omega
theorem pick_back (xs : Array Value) : ((List.range xs.size).filterMap fun (k : Nat) => xs[(((xs.size : Int) - 1) + (k : Int) * (-1)).toNat]?) = xs.toList.reverse := by
  have go : ∀ l : List Nat, (∀ k ∈ l, k < xs.size) → (l.filterMap fun (k : Nat) => xs[(((xs.size : Int) - 1) + (k : Int) * (-1)).toNat]?) = (l.map fun k => xs.size - 1 - k).filterMap (xs[·]?) := by
    intro l
    induction l with
    | nil => intro _; rfl
    | cons k l ih =>
      intro g
      have h1 := g k List.mem_cons_self
      rw [List.map_cons, List.filterMap_cons, List.filterMap_cons, ih fun x hx => g x (List.mem_cons_of_mem _ hx), show (((xs.size : Int) - 1) + (k : Int) * (-1)).toNat = xs.size - 1 - k by omega]
  have e := go (List.range xs.size) fun k hk => List.mem_range.mp hk
  rw [e, PySem.W.krv_range, List.filterMap_reverse, PySem.W.krv_all]
section
variable {prog : Program} {w : World} {A : Around} {E : Value → Shared → Prop} {s : Shared}
theorem applied_back {sl : Addr} {vl vu vs : Value} {n : Nat} {Q : Int × Int × Nat → Shared → Prop} (hs : s.heap.IsSliceOf sl vl vu vs) (pl : IsPart vl none) (pu : IsPart vu none) (ps : IsPart vs (some (-1)))
    (h : Q ((n : Int) - 1, -1, n) s) : wpAny (model prog w) A (Builtin.Slice.sliceApplied (.ref sl) (pure (n : Int))) Q E s := by
  obtain ⟨os, at_, cls, fields⟩ := hs
  unfold Builtin.Slice.sliceApplied Builtin.Slice.sliceFields
  apply wpAny_bind
  apply wpAny_bind
  refine wpAny_field at_ fields (x := vl) rfl ?_
  apply wpAny_bind
  refine wpAny_field at_ fields (x := vu) rfl ?_
  apply wpAny_bind
  refine wpAny_field at_ fields (x := vs) rfl ?_
  apply wpAny_pure
  apply wpAny_bind
  apply slicePart_ ps
  change wpAny _ _ (if ((-1 : Int) == 0) = true then _ else _) _ _ s
  rw [if_neg (by decide)]
  apply wpAny_bind
  apply slicePart_ pl
  apply wpAny_bind
  apply slicePart_ pu
  apply wpAny_bind
  apply wpAny_pure
  change wpAny _ _ (pure ((n : Int) - 1, (-1 : Int), Builtin.Slice.slicePlaces ((n : Int) - 1) (-1) (-1))) _ _ s
  rw [places_back]
  exact wpAny_pure h
theorem getItem_tupleBack {t sl : Addr} {items : Array Value} {vl vu vs : Value} {Q : Value → Shared → Prop} (ht : IsTup s.heap t items) (hs : s.heap.IsSliceOf sl vl vu vs) (pl : IsPart vl none) (pu : IsPart vu none) (ps : IsPart vs (some (-1)))
    (h : Q (.ref s.heap.objs.size) { s with heap := s.heap.push { cls := .type "tuple", data := .seq items.toList.reverse.toArray } }) (room : items.size ≤ sizeLine) : wpAny (model prog w) A (getItem (.ref t) (.ref sl)) Q E s := by
  have fits : sizeOk (.seq items.toList.reverse.toArray) := by
    change items.toList.reverse.toArray.size ≤ sizeLine
    rw [List.size_toArray, List.length_reverse, Array.length_toList]
    exact room
  have isSlice : s.TypeIs (.ref sl) "slice" := ⟨hs.choose, hs.choose_spec.1, hs.choose_spec.2.1⟩
  unfold getItem
  try with_reducible refine wpAny_holding ?_
  first | refine wpAny_bind (wpAny_pure ?_) | skip
  apply wpAny_bind
  apply wpAny_sequenceKey ht.typeIs (by decide)
  apply wpAny_bind
  refine wpAny_callSpecial?_slot (name := Str.ofString "__getitem__") ht.typeIs PyProof.Rows.slot_tuple_getitem (wpAny_call_entry PyProof.Rows.slot_tuple_getitem ht.typeIs entry_tuple_getitem ?_ (args_tuple_getitem _ _))
  change wpAny _ _ (Builtin.Tuple.tupleItemsOf (.ref t) >>= _) _ _ s
  apply wpAny_bind
  apply tupleItemsOf_ ht
  apply wpAny_bind
  apply wpAny_typeOf isSlice
  rw [if_pos (by decide)]
  apply wpAny_bind
  apply applied_back hs pl pu ps
  have notWhole : ¬ ((((items.size : Int) - 1) == 0 && (-1 : Int) == 1 && items.size == items.size) = true) := by
    rw [show ((-1 : Int) == 1) = false from rfl, Bool.and_false, Bool.false_and]
    exact Bool.false_ne_true
  change wpAny _ _ (if (((items.size : Int) - 1) == 0 && (-1 : Int) == 1 && items.size == items.size) = true then _ else _) _ _ s
  rw [if_neg notWhole, pick_back]
  first
    | exact wpAny_bind (m := Builtin.Tuple.tupleExact _) (wpAny_newObj_type (wpAny_pure ⟨_, rfl, wpAny_pure h⟩) fits)
    | exact wpAny_bind (m := Builtin.Tuple.tupleExact _) (wpAny_newObj_type (wpAny_bind (wpAny_pure (wpAny_pure ⟨_, rfl, wpAny_pure h⟩))) fits)
    | exact wpAny_bind (wpAny_bind (m := Builtin.Tuple.tupleExact _) (wpAny_newObj_type (wpAny_pure (wpAny_pure ⟨_, rfl, wpAny_pure h⟩)) fits))
end
def tRevT (K : PySem.W.Frag) (te : TE) : TE := fun σ H Q => te σ H fun x H1 => ∃ a xs, x = .ref a ∧ SqT K H1 a xs ∧ ∀ p, H1 p = none → Q (.ref p) (upd H1 p (.tup xs.reverse))
theorem pe_revT {X : Cx} {e : Expr} {te : TE} {k : Nat} {p1 p2 p3 pos : Pos} (he : PE X e te) : PE X (.Subscript e (.Slice none none (some (.UnaryOp .USub (.Constant (.int 1) k p1) p2)) p3) pos) (tRevT X.K te) := by
  constructor
  intro pins s σ H Q I h
  apply Subscript_
  apply thn (he.run pins s σ H _ I h)
  rintro v s1 ⟨x, H1, I1, r1, a, xs, rfl, hx, q⟩
  obtain rfl : v = Value.ref a := r1
  have less : PO X (some (.UnaryOp .USub (.Constant (.int 1) k p1) p2)) (tPart (tUn (rU fun i => .int (-i)) (tC (.int 1)))) := po_some (pe_un un_neg pe_int)
  apply wpAny_Slice
  apply thn (po_none.run pins s1 σ H1 (fun o H2 => o = none ∧ H2 = H1) I1 ⟨rfl, rfl⟩)
  rintro vl s2 ⟨_, _, I2, pl, rfl, rfl⟩
  apply thn (po_none.run pins s2 σ _ (fun o H3 => o = none ∧ H3 = _) I2 ⟨rfl, rfl⟩)
  rintro vu s3 ⟨_, _, I3, pu, rfl, rfl⟩
  apply thn (less.run pins s3 σ _ (fun o H4 => o = some (-1) ∧ H4 = _) I3 ⟨1, rfl, -1, rfl, rfl, rfl⟩)
  rintro vs s4 ⟨_, _, I4, ps, rfl, rfl⟩
  have I5 : Inv X pins σ _ { s4 with heap := s4.heap.push { cls := .type "slice", data := .fields #[vl, vu, vs] } } := I4.kept (t' := s4.toks) fun b ob q => Heap.get?_push_of_some _ q
  obtain ⟨its, r, ht, hz⟩ := I5.tuple hx
  have len := r.length
  change wpAny (model X.prog X.w) X.A (subscriptTail e (.Slice none none (some (.UnaryOp .USub (.Constant (.int 1) k p1) p2)) p3) (.ref a) (.ref s4.heap.objs.size)) (EP X pins σ Q) X.xe { s4 with heap := s4.heap.push { cls := .type "slice", data := .fields #[vl, vu, vs] } }
  refine tail_any (ops := [.ref a, .ref s4.heap.objs.size]) ht.typeIs PyProof.Rows.slot_tuple_getitem.lookup ?_ (by with_unfolding_all rfl)
  apply getItem_tupleBack ht (Heap.IsSliceOf.new _ vl vu vs) pl pu ps
  · refine ⟨.ref _, _, I5.laid (t' := s4.toks) (o := .tup xs.reverse) (fun b ob q => Heap.get?_push_of_some _ q) (Nat.le_refl _) ?_, rfl, q _ (I5.hok.fresh (Nat.le_refl _))⟩
    refine ⟨?_, _, r.reverse, IsTup.new _ _⟩
    rw [List.length_reverse]
    exact hz
  · rw [List.size_toArray]
    omega
end Q7
set_option maxRecDepth 100000
set_option maxHeartbeats 4000000
namespace L10
open PySem PySem.Spec PyProof.Rows L2 Q7
section
variable {P : Program} {w : World} {K : PySem.W.Frag} {mg : Str → Option Value} {base : Heap}
/-! ### values near a road are drawn -/
theorem at_mem {l : List V} {r : Int} (h0 : 0 ≤ r) (h1 : r < l.length) : ∃ v, atI l r = some v ∧ v ∈ l := by
  obtain ⟨n, rfl⟩ := Int.eq_ofNat_of_zero_le h0
  have hn : n < l.length := by omega
  refine ⟨l[n], ?_, List.getElem_mem hn⟩
  rw [at_nat h0 (by omega), Int.toNat_natCast, List.getElem?_eq_getElem hn]
theorem ten_le : 10 ≤ sizeLine := by decide
theorem nine_le : 9 ≤ sizeLine := by decide
def AllIt (K : PySem.W.Frag) (H : Hp) (xs : List V) : Prop := ∀ x ∈ xs, ∃ d, ItB K H x d
theorem allIt_tk {H H' : Hp} {xs : List V} (h : AllIt K H xs) (s : TK H H') : AllIt K H' xs := fun x hx => let ⟨d, i⟩ := h x hx; ⟨d, itB_tk i s⟩
theorem allIt_app {H : Hp} {xs ys : List V} (h : AllIt K H xs) (g : AllIt K H ys) : AllIt K H (xs ++ ys) := fun x hx => (List.mem_append.mp hx).elim (h x) (g x)
theorem allIt_cut {H : Hp} {xs : List V} {lo hi : Option Int} (h : AllIt K H xs) : AllIt K H (cutV xs lo hi) := fun x hx => h x (List.mem_of_mem_drop (List.mem_of_mem_take hx))
theorem allIt_pair {H : Hp} : ∀ {xs : List V}, AllIt K H xs → ∃ ds, Paired (ItB K H) xs ds
  | [], _ => ⟨[], .nil⟩
  | x :: xs, h => by
    obtain ⟨d, i⟩ := h x List.mem_cons_self
    obtain ⟨ds, p⟩ := allIt_pair fun y hy => h y (List.mem_cons_of_mem _ hy)
    exact ⟨d :: ds, .cons i p⟩
theorem allIt_oth {H : Hp} {a : Addr} {xs : List V} (e : H a = some (.tup xs)) (h : AllIt K H xs) (l : xs.length ≤ 40) : OthD K H (.ref a) := let ⟨_, p⟩ := allIt_pair h; .tup e p l
theorem cut_road {a : Addr} {xs : List V} {H : Hp} {lo hi : Option Int} {Q : VK} (e : H a = some (.tup xs)) (h : ∀ z H', Same H H' → H' z = some (.tup (cutV xs lo hi)) → Q (.ref z) H') : rSlA K (.ref a) lo hi H Q := by
  refine ⟨a, xs, rfl, sqT_of e, fun ⟨h1, h2⟩ => h a H (Same.refl _) ?_, fun _ z hz => h z _ (same_new hz) upd_same⟩
  unfold cutV
  rw [h1, h2, List.drop_zero, Nat.sub_zero, List.take_length]
  exact e
theorem cat_any {a b : Addr} {xs ys : List V} {H : Hp} {Q : VK} (S1 : H a = some (.tup xs)) (S2 : H b = some (.tup ys)) (l : xs.length + ys.length ≤ sizeLine)
    (h : ∀ r H', Same H H' → H' r = some (.tup (xs ++ ys)) → Q (.ref r) H') : rCatA K (.ref a) (.ref b) H Q := by
  refine ⟨a, b, _, _, rfl, rfl, sqT_of S1, sqT_of S2, l, fun e => ?_, fun _ e => ?_, fun _ _ z hz => h z _ (same_new hz) upd_same⟩
  · refine h b H (Same.refl _) ?_
    rw [e]
    exact S2
  · refine h a H (Same.refl _) ?_
    rw [e, List.append_nil]
    exact S1
theorem allIt_road {H : Hp} {ks : List Int} (h : ∀ k ∈ ks, 0 ≤ k ∧ k < 60) : AllIt K H (ks.map V.int) := fun x hx => by
  obtain ⟨k, hk, rfl⟩ := List.mem_map.mp hx
  obtain ⟨h0, h1⟩ := h k hk
  obtain ⟨n, rfl⟩ := Int.eq_ofNat_of_zero_le h0
  exact ⟨_, .nat n (Nat.lt_of_lt_of_le (show n < 60 by omega) (by decide))⟩
theorem itB_road {H : Hp} {a : Addr} {ks : List Int} (e : H a = some (.tup (ks.map V.int))) (l : ks.length ≤ 8) (h : ∀ k ∈ ks, 0 ≤ k ∧ k < 60) : ∃ d, ItB K H (.ref a) d := by
  obtain ⟨js, rfl⟩ := nats_of fun k hk => (h k hk).1
  refine ⟨_, .tup (ks := js) (sqT_of ?_) (by simpa using l) fun k hk => ?_⟩
  · rw [e, List.map_map]
    rfl
  · have := (h (k : Int) (List.mem_map.mpr ⟨k, hk, rfl⟩)).2
    omega
theorem othD_mut {H : Hp} {D : Addr} {xs ys : List V} (e : H D = some (.lst xs)) {v : V} (h : OthD K H v) : OthD K (upd H D (.lst ys)) v := by
  have tk : TK H (upd H D (.lst ys)) := tk_lst e
  cases h with
  | non => exact .non
  | int => exact .int
  | str => exact .str
  | @lst a xs g =>
    by_cases n : a = D
    · rw [n]
      exact .lst upd_same
    · exact .lst ((upd_ne n).trans g)
  | @dct a g =>
    have n : a ≠ D := fun n => by rw [n, e] at g; cases g
    exact .dct ((upd_ne n).trans g)
  | @tup a xs ds g P l =>
    have n : a ≠ D := fun n => by rw [n, e] at g; cases g
    exact .tup ((upd_ne n).trans g) (pImp (fun _ _ z => itB_tk z tk) P) l
def twist (k : Int) : V := if k < 2 then .bl (k != 0) else .int k
theorem twist_it {H : Hp} {k : Int} (h : 0 ≤ k ∧ k < 60) : ∃ d, ItB K H (twist k) d := by
  unfold twist
  by_cases l : k < 2
  · rw [if_pos l]
    exact ⟨_, .bl _⟩
  · rw [if_neg l]
    obtain ⟨n, rfl⟩ := Int.eq_ofNat_of_zero_le h.1
    exact ⟨_, .nat n (Nat.lt_of_lt_of_le (show n < 60 by omega) (by decide))⟩
def spNear (K : PySem.W.Frag) : Sp := fun vs H Q _ => ∃ (b : Addr) (s0 s1 s2 : Int) (a : Addr) (ks : List Int), vs = [.ref b, .ref a] ∧ SrcAt H b s0 s1 s2 ∧ 0 ≤ s2 ∧ s2 < 2 ^ 36 ∧ s1.natAbs < 2 ^ 150 ∧
  H a = some (.tup (ks.map V.int)) ∧ ks.length ≤ 8 ∧ (∀ k ∈ ks, 0 ≤ k ∧ k < 60) ∧
  ∀ l xs u0 u2 H', Dr b s1 s2 6 H H' u0 u2 → H l = none → H' l = some (.lst xs) → (∀ x ∈ xs, OthD K H' x) → xs.length = 5 → Q (.ref l) H'
theorem ok__law_near (T : Txt w K mg) : FnOk P w K mg base CX0 2 (He.ga K "_law_near") T.fd__law_near ["source", "road"] (spNear K) := by
  refine T.F__law_near.ok sc__law_near (fun vs H Q E h => ?_) (fun cdv A outer s H vs Q E hr h => ⟨_, PSs.nox
    (pss_cons (ps_set (i := 2) sc__law_near.nd rfl (.inl rfl) (pe_call (ok__law_draw T) (hr.mono (by decide)) (by rfl) T.g__law_draw T.F__law_draw.kp T.b__law_draw .nil pass0 (pa_cons (pv 0) (pa_cons (pe_op op_add (pe_callB call_len_seq (by rfl) T.m_len (by decide +kernel) (pa_cons (pv 1) pa_nil)) pe_int) pa_nil))))
      (pss_cons (ps_set (i := 3) sc__law_near.nd rfl (.inl rfl) (pe_lst (pa_cons (pe_un un_neg pe_int) (pa_cons pe_bl (pa_cons pe_non (pa_cons pe_str (pa_cons pe_int (pa_cons (pe_tup (pa_cons pe_int pa_nil)) (pa_cons pe_bl (pa_cons pe_int (pa_cons pe_int (pa_cons (pe_op op_pow pe_int pe_int) pa_nil))))))))))))
      (pss_cons (ps_set (i := 4) sc__law_near.nd rfl (.inl rfl) (pe_ix ix_list (pv 3) (pe_call (ok__law_draw T) (hr.mono (by decide)) (by rfl) T.g__law_draw T.F__law_draw.kp T.b__law_draw .nil pass0 (pa_cons (pv 0) (pa_cons pe_int pa_nil))) (fun _ _ => rfl)))
      (pss_cons (ps_set (i := 5) sc__law_near.nd rfl (.inr rfl) (pe_lst (pa_cons (pe_op op_catA (pe_op op_catA (pe_slice sl_tupA (pv 1) po_none (po_some (pv 2))) (pe_tup (pa_cons (pv 4) pa_nil))) (pe_slice sl_tupA (pv 1) (po_some (pv 2)) po_none)) (pa_cons (pe_op op_catA (pe_op op_catA (pe_slice sl_tupA (pv 1) po_none (po_some (pv 2))) (pe_tup (pa_cons (pv 4) pa_nil))) (pe_slice sl_tupA (pv 1) (po_some (pe_op op_add (pv 2) pe_int)) po_none)) (pa_cons (pe_slice sl_tupA (pv 1) po_none (po_some (pe_un un_neg pe_int))) (pa_cons (pe_slice sl_tupA (pv 1) (po_some pe_int) po_none) (pa_cons (pe_op op_catA (pv 1) (pe_tup (pa_cons pe_int pa_nil))) pa_nil)))))))
      (pss_cons (ps_set (i := 5) sc__law_near.nd rfl (.inr rfl) (pe_op op_cat (pv 5) (pe_lst (pa_cons (pe_callTy call_list_of (by rfl) T.m_list (by decide +kernel) (pa_cons (pv 1) pa_nil)) (pa_cons (pe_revT (pv 1)) (pa_cons pe_non (pa_cons pe_int (pa_cons pe_str (pa_cons pe_dnewK (pa_cons (pe_tup (pa_cons (pv 1) pa_nil)) (pa_cons (pe_op op_catA (pv 1) (pv 1)) (pa_cons (pe_tup pa_nil) pa_nil))))))))))))
      (pss_cons (ps_setLc (i := 6) (own := [("k", 7)]) rfl sc__law_near.nd rfl rfl rfl (pi_range1 (by rfl) T.m_range (pa_cons pe_int pa_nil)) (blkOk_by (N := ["source", "road", "at", "odd", "one", "some", "found", "k", "part"]) (sc := defScope s__law_near) (by decide +kernel)) (fun _ _ _ _ _ => (pg_name (i := 7) sc__law_near.nd rfl (.inl rfl) (hf := .inr rfl))) (fun _ _ _ _ _ => pts_nil) (fun _ _ _ _ _ => (pe_ix (show IxR _ (rIxL K) from ix_list) (pv 5) (pe_call (ok__law_draw T) (hr.mono (by decide)) (by rfl) T.g__law_draw T.F__law_draw.kp T.b__law_draw .nil pass0 (pa_cons (pv 0) (pa_cons pe_int pa_nil))) (fun _ _ => rfl))))
      (pss_one (ps_ret (pe_op op_cat (pv 6) (pe_lst (pa_cons (pe_callTy call_tuple_of (by rfl) T.m_tuple (by decide +kernel) (pa_cons (pe_lc (own := [("part", 8)]) rfl sc__law_near.nd (pi_tup (pv 1)) (blkOk_by (N := ["source", "road", "at", "odd", "one", "some", "found", "k", "part"]) (sc := defScope s__law_near) (by decide +kernel)) (fun _ _ _ _ _ => (pg_name (i := 8) sc__law_near.nd rfl (.inl rfl) (hf := .inr rfl))) (fun _ _ _ _ _ => pts_nil) (fun _ _ _ _ _ => (pe_ifExp (pt_cmpR op_lt (pv 8) pe_int (nomark _)) (pe_callTy call_bool1 (by rfl) T.m_bool (by decide +kernel) (pa_cons (pv 8) pa_nil)) (pv 8)))) pa_nil)) pa_nil))))))))))), ?_⟩)
  · obtain ⟨b, s0, s1, s2, a, ks, rfl, _⟩ := h
    rfl
  · obtain ⟨b, s0, s1, s2, a, ks, rfl, hs, d0, d1, e1, ha, kl, ksm, hQ⟩ := h
    have l64 := line64
    refine ⟨_, rfl, _, rfl, ⟨a, _, rfl, .inr (sqT_of ha), _, _, rfl, rfl, b, s0, s1, s2, _, rfl, hs, by omega, by omega, e1, by omega, ?_, fun r x0 x2 r0 r1 q0 q1 => ?_⟩⟩
    · rw [List.length_map]
      exact Nat.lt_of_lt_of_le (show ((ks.length : Int) + 1).natAbs < 2 ^ 5 by omega) (pow_le' (by decide))
    have nab : a ≠ b := fun e => by rw [e, show H b = _ from hs] at ha; cases ha
    have D0 := (Dr.start hs).draw (r0 := x0) q0 q1
    replace ha := kept (u := .lst [.int x0, .int s1, .int x2]) hs ha nab
    generalize upd H b (.lst [.int x0, .int s1, .int x2]) = G0 at *
    have p1 := D0.lo; have p2 := D0.hi
    refine ⟨1, rfl, one_le, fun z hz => ⟨_, _, rfl, rfl, ⟨by decide, by decide, by decide⟩, ten_le, fun o ho => ?_⟩⟩
    have k1 := same_new (o := .tup [.int 0]) hz
    have Z1 := upd_same (H := G0) (a := z) (o := .tup [.int 0])
    replace ha := k1 _ _ ha
    have D1 := D0.same k1
    generalize upd G0 z (.tup [.int 0]) = G1 at *
    have neo := n_ne D1.sr ho
    have k2 := same_new (o := .lst [.int (-1), .bl true, .non, .str "0", .int 20, .ref z, .bl false, .int 1, .int 0, .int (10 ^ (30 : Int).toNat)]) ho
    have O1 := upd_same (H := G1) (a := o) (o := .lst [.int (-1), .bl true, .non, .str "0", .int 20, .ref z, .bl false, .int 1, .int 0, .int (10 ^ (30 : Int).toNat)])
    replace ha := k2 _ _ ha
    replace Z1 := k2 _ _ Z1
    have D2 := D1.same k2
    clear D0 D1
    refine ⟨_, rfl, _, rfl, b, x0, s1, x2, 10, rfl, D2.sr, by omega, by omega, e1, by decide, by decide, fun r2 y0 y2 r20 r21 q2 q3 => ?_⟩
    generalize hG2 : upd G1 o _ = G2 at *
    replace O1 := kept (u := .lst [.int y0, .int s1, .int y2]) D2.sr O1 neo
    replace ha := kept (u := .lst [.int y0, .int s1, .int y2]) D2.sr ha nab
    have nzb : z ≠ b := fun e => by rw [e, show G2 b = _ from D2.sr] at Z1; cases Z1
    replace Z1 := kept (u := .lst [.int y0, .int s1, .int y2]) D2.sr Z1 nzb
    have D3 := D2.draw (r0 := y0) q2 q3
    generalize upd G2 b (.lst [.int y0, .int s1, .int y2]) = G3 at *
    have p3 := D3.lo; have p4 := D3.hi
    obtain ⟨v1, hv1, mv1⟩ := at_mem (l := [V.int (-1), .bl true, .non, .str "0", .int 20, .ref z, .bl false, .int 1, .int 0, .int (10 ^ (30 : Int).toNat)]) r20 r21
    have it1 : ∃ d, ItB K G3 v1 d := by
      simp only [List.mem_cons, List.not_mem_nil, or_false] at mv1
      rcases mv1 with rfl | rfl | rfl | rfl | rfl | rfl | rfl | rfl | rfl | rfl
      · exact ⟨_, .neg⟩
      · exact ⟨_, .bl _⟩
      · exact ⟨_, .non⟩
      · exact ⟨_, .zero⟩
      · exact ⟨_, .nat 20 (by decide)⟩
      · exact itB_road (ks := [0]) Z1 (by decide) (by decide)
      · exact ⟨_, .bl _⟩
      · exact ⟨_, .nat 1 (by decide)⟩
      · exact ⟨_, .nat 0 (by decide)⟩
      · rw [show ((10 : Int) ^ (30 : Int).toNat) = ((10 ^ 30 : Nat) : Int) by decide +kernel]
        exact ⟨_, .nat (10 ^ 30) (by decide +kernel)⟩
    refine ⟨o, _, _, _, rfl, rfl, sqL_of O1, hv1, ?_⟩
    have hit : AllIt K G3 (ks.map V.int) := allIt_road ksm
    have hl : (ks.map V.int).length ≤ 8 := by rw [List.length_map]; exact kl
    have l40 : 40 ≤ sizeLine := by decide
    have mk : ∀ (σ : _root_.L2.St) (G : Hp) (TO2 : TO) (i2 : Int) (R : VK), (σ : List (Option V))[1]? = some (some (.ref a)) → (σ : List (Option V))[2]? = some (some (.int r)) → (σ : List (Option V))[4]? = some (some v1) → Same G3 G →
        (∀ (H' : Hp) (Q' : Option Int → Hp → Prop), Q' (some i2) H' → TO2 σ H' Q') → (∀ e G' xs, Same G G' → G' e = some (.tup xs) → AllIt K G3 xs → xs.length ≤ 17 → R (.ref e) G') →
        tOp (rCatA K) (tOp (rCatA K) (tSl (rSlA K) (tVar 1) tNoPart (tPart (tVar 2))) (tTup (tCons (tVar 4) tNil))) (tSl (rSlA K) (tVar 1) TO2 tNoPart) σ G R := by
      intro σ G TO2 i2 R h1 h2 h4 sG hTO hR
      refine ⟨_, h1, _, h2, r, rfl, cut_road (sG _ _ ha) fun c1 A1 w1 C1 => ⟨_, h4, one_le, fun u1 hu1 => ?_⟩⟩
      have w2 := same_new (o := .tup [v1]) hu1
      have U1 := upd_same (H := A1) (a := u1) (o := .tup [v1])
      replace C1 := w2 _ _ C1
      have w12 := w1.trans w2
      generalize upd A1 u1 (.tup [v1]) = A2 at *
      have cl1 := cutV_length (ks.map V.int) none (some r)
      have cl2 := cutV_length (ks.map V.int) (some i2) none
      refine cat_any C1 U1 (by simp only [List.length_cons, List.length_nil]; omega) fun c2 A3 w3 C2 => ⟨_, h1, hTO _ _ ?_⟩
      unfold tNoPart
      refine cut_road (sG.trans (w12.trans w3) _ _ ha) fun c3 A4 w4 C3 => ?_
      refine cat_any (w4 _ _ C2) C3 (by simp only [List.length_append, List.length_cons, List.length_nil]; omega) fun c4 A5 w5 C4 => ?_
      refine hR c4 A5 _ (((w12.trans w3).trans w4).trans w5) C4 (allIt_app (allIt_app (allIt_cut hit) fun x hx => ?_) (allIt_cut hit)) ?_
      · rw [List.mem_singleton.mp hx]
        exact it1
      · simp only [List.length_append, List.length_cons, List.length_nil]
        omega
    refine mk _ _ _ r _ rfl rfl rfl (Same.refl _) (fun H' Q' q => ⟨_, rfl, r, rfl, q⟩) fun t1 B1 xs1 w1 T1 i1 l1 => ?_
    refine mk _ _ _ (r + 1) _ rfl rfl rfl w1 (fun H' Q' q => ⟨_, rfl, _, _, rfl, rfl, _, rfl, q⟩) fun t2 B2 xs2 w2 T2 i2 l2 => ?_
    have w12 := w1.trans w2
    refine ⟨_, rfl, 1, rfl, _, rfl, cut_road (w12 _ _ ha) fun t3 B3 w3 T3 => ?_⟩
    have w13 := w12.trans w3
    refine ⟨_, rfl, 1, rfl, ?_⟩
    unfold tNoPart
    refine cut_road (w13 _ _ ha) fun t4 B4 w4 T4 => ?_
    have w14 := w13.trans w4
    refine ⟨_, rfl, one_le, fun z2 hz2 => ?_⟩
    have w5 := same_new (o := .tup [.int 0]) hz2
    have Z2 := upd_same (H := B4) (a := z2) (o := .tup [.int 0])
    have w15 := w14.trans w5
    generalize upd B4 z2 (.tup [.int 0]) = B5 at *
    refine cat_any (w15 _ _ ha) Z2 (by simp only [List.length_cons, List.length_nil]; omega) fun t5 B6 w6 T5 => ?_
    have w16 := w15.trans w6
    refine ⟨five_le, fun m1 hm1 => ?_⟩
    have w7 := same_new (o := .lst [.ref t1, .ref t2, .ref t3, .ref t4, .ref t5]) hm1
    have M1 := upd_same (H := B6) (a := m1) (o := .lst [.ref t1, .ref t2, .ref t3, .ref t4, .ref t5])
    have w17 := w16.trans w7
    replace T5 := w7 _ _ T5
    have T4' := ((w5.trans w6).trans w7) _ _ T4
    have T3' := (((w4.trans w5).trans w6).trans w7) _ _ T3
    have T2' := ((((w3.trans w4).trans w5).trans w6).trans w7) _ _ T2
    have T1' := (((((w2.trans w3).trans w4).trans w5).trans w6).trans w7) _ _ T1
    have Z2' := (w6.trans w7) _ _ Z2
    clear T4 T3 T2 T1 Z2
    generalize upd B6 m1 (.lst [.ref t1, .ref t2, .ref t3, .ref t4, .ref t5]) = B7 at *
    clear w12 w13 w14 w15 w16 w1 w2 w3 w4 w5 w6 w7
    have ha7 := w17 _ _ ha
    refine ⟨_, rfl, _, rfl, a, _, rfl, .inr (sqT_of ha7), fun l1 hl1 => ?_⟩
    have x1 := same_new (o := .lst (ks.map V.int)) hl1
    have L1 := upd_same (H := B7) (a := l1) (o := .lst (ks.map V.int))
    generalize upd B7 l1 (.lst (ks.map V.int)) = C1 at *
    refine ⟨_, rfl, a, _, rfl, sqT_of (x1 _ _ ha7), fun v3 hv3 => ?_⟩
    have x2 := same_new (o := .tup (ks.map V.int).reverse) hv3
    have R3 := upd_same (H := C1) (a := v3) (o := .tup (ks.map V.int).reverse)
    generalize upd C1 v3 (.tup (ks.map V.int).reverse) = C2 at *
    intro d hd
    have x3 := same_new (o := .dK []) hd
    have E3 := upd_same (H := C2) (a := d) (o := .dK [])
    generalize upd C2 d (.dK []) = C3 at *
    refine ⟨_, rfl, one_le, fun q hq => ?_⟩
    have x4 := same_new (o := .tup [.ref a]) hq
    have Q4 := upd_same (H := C3) (a := q) (o := .tup [.ref a])
    generalize upd C3 q (.tup [.ref a]) = C4 at *
    have x14 := ((x1.trans x2).trans x3).trans x4
    refine ⟨_, rfl, _, rfl, cat_any (x14 _ _ ha7) (x14 _ _ ha7) (by omega) fun t9 C5 x5 T9 => ⟨Nat.zero_le _, fun e he => ?_⟩⟩
    have x6 := same_new (o := .tup []) he
    have E6 := upd_same (H := C5) (a := e) (o := .tup [])
    generalize upd C5 e (.tup []) = C6 at *
    refine ⟨nine_le, fun m2 hm2 => ?_⟩
    have x7 := same_new (o := .lst [.ref l1, .ref v3, .non, .int 0, .str "", .ref d, .ref q, .ref t9, .ref e]) hm2
    have M2 := upd_same (H := C6) (a := m2) (o := .lst [.ref l1, .ref v3, .non, .int 0, .str "", .ref d, .ref q, .ref t9, .ref e])
    generalize upd C6 m2 (.lst [.ref l1, .ref v3, .non, .int 0, .str "", .ref d, .ref q, .ref t9, .ref e]) = C7 at *
    have x17 := ((x14.trans x5).trans x6).trans x7
    refine ⟨m1, m2, _, _, rfl, rfl, x17 _ _ M1, M2, by show 14 ≤ sizeLine; decide, fun m3 hm3 => ?_⟩
    have nm3 := n_ne (D3.same (w17.trans x17)).sr hm3
    have x8 := same_new (o := .lst ([V.ref t1, .ref t2, .ref t3, .ref t4, .ref t5] ++ [.ref l1, .ref v3, .non, .int 0, .str "", .ref d, .ref q, .ref t9, .ref e])) hm3
    have M3 := upd_same (H := C7) (a := m3) (o := .lst ([V.ref t1, .ref t2, .ref t3, .ref t4, .ref t5] ++ [.ref l1, .ref v3, .non, .int 0, .str "", .ref d, .ref q, .ref t9, .ref e]))
    generalize upd C7 m3 (.lst ([V.ref t1, .ref t2, .ref t3, .ref t4, .ref t5] ++ [.ref l1, .ref v3, .non, .int 0, .str "", .ref d, .ref q, .ref t9, .ref e])) = C8 at *
    have x18 := x17.trans x8
    have wx := w17.trans x18
    have tkx := same_tk wx
    have D4 := D3.same wx
    have ha8 := wx _ _ ha
    have hitR : AllIt K G3 (ks.map V.int).reverse := fun x hx => hit x (List.mem_reverse.mp hx)
    have pool : ∀ v ∈ ([V.ref t1, .ref t2, .ref t3, .ref t4, .ref t5] ++ [.ref l1, .ref v3, .non, .int 0, .str "", .ref d, .ref q, .ref t9, .ref e] : List V), OthD K C8 v := by
      intro v hv
      simp only [List.cons_append, List.nil_append, List.mem_cons, List.not_mem_nil, or_false] at hv
      have cl := fun lo hi => cutV_length (ks.map V.int) lo hi
      rcases hv with rfl | rfl | rfl | rfl | rfl | rfl | rfl | rfl | rfl | rfl | rfl | rfl | rfl | rfl
      · exact allIt_oth (x18 _ _ T1') (allIt_tk i1 tkx) (by omega)
      · exact allIt_oth (x18 _ _ T2') (allIt_tk i2 tkx) (by omega)
      · exact allIt_oth (x18 _ _ T3') (allIt_tk (allIt_cut hit) tkx) (Nat.le_trans (cl _ _) (by omega))
      · exact allIt_oth (x18 _ _ T4') (allIt_tk (allIt_cut hit) tkx) (Nat.le_trans (cl _ _) (by omega))
      · refine allIt_oth (x18 _ _ T5) (allIt_tk (allIt_app hit fun x hx => ?_) tkx) (by simp only [List.length_append, List.length_cons, List.length_nil]; omega)
        rw [List.mem_singleton.mp hx]
        exact ⟨_, .nat 0 (by decide)⟩
      · exact .lst ((((((x2.trans x3).trans x4).trans x5).trans x6).trans (x7.trans x8)) _ _ L1)
      · exact allIt_oth (((((x3.trans x4).trans x5).trans x6).trans (x7.trans x8)) _ _ R3) (allIt_tk hitR tkx) (by rw [List.length_reverse]; omega)
      · exact .non
      · exact .int
      · exact .str
      · exact .dct ((((x4.trans x5).trans x6).trans (x7.trans x8)) _ _ E3)
      · refine allIt_oth (((x5.trans x6).trans (x7.trans x8)) _ _ Q4) (fun x hx => ?_) (show 1 ≤ 40 by decide)
        rw [List.mem_singleton.mp hx]
        exact itB_road ha8 kl ksm
      · exact allIt_oth ((x6.trans (x7.trans x8)) _ _ T9) (allIt_tk (allIt_app hit hit) tkx) (by simp only [List.length_append]; omega)
      · exact allIt_oth ((x7.trans x8) _ _ E6) (fun x hx => by cases hx) (by decide)
    have plen : ([V.ref t1, .ref t2, .ref t3, .ref t4, .ref t5] ++ [.ref l1, .ref v3, .non, .int 0, .str "", .ref d, .ref q, .ref t9, .ref e] : List V).length = 14 := rfl
    generalize ([V.ref t1, .ref t2, .ref t3, .ref t4, .ref t5] ++ [.ref l1, .ref v3, .non, .int 0, .str "", .ref d, .ref q, .ref t9, .ref e] : List V) = Pl at *
    clear x1 x2 x3 x4 x5 x6 x7 x8 x14 x17 x18 w17 T1' T2' T3' T4' T5 L1 R3 E3 Q4 T9 E6 M1 M2 mk Z1 Z2' O1 D2 ha7
    have p5 := D4.lo; have p6 := D4.hi
    refine ⟨4, rfl, by decide, by decide, fun D hD => ?_⟩
    have ndb := n_ne D4.sr hD
    have hD0 := D4.none hD ndb
    have ndm : D ≠ m3 := fun e => by rw [e, M3] at hD; cases hD
    have nad : a ≠ D := fun e => by rw [← e, ha8] at hD; cases hD
    refine lc_range (lo := 0) (n := (4 : Int).toNat) (fun i H' => ∃ x y zs, Dr b s1 s2 (2 + i) H H' x y ∧ H' D = some (.lst zs) ∧ zs.length = i ∧ (∀ v ∈ zs, OthD K H' v) ∧ H' m3 = some (.lst Pl) ∧ (∀ v ∈ Pl, OthD K H' v) ∧ H' a = some (.tup (ks.map V.int)))
      ⟨_, _, [], (D4.new hD).mono (by simp), upd_same, rfl, fun v hv => (by cases hv), (upd_ne ndm.symm).trans M3, fun v hv => othD_same (same_new hD) (pool v hv), (upd_ne nad).trans ha8⟩ ?_ ?_
    · rintro i H' hi ⟨x, y, zs, dr, hd, zl, hz, hm, hp, hA⟩
      have i4 : i < 4 := hi
      have y1 := dr.lo; have y2' := dr.hi
      refine ⟨rfl, _, rfl, _, rfl, b, x, s1, y, 14, rfl, dr.sr, by omega, by omega, e1, by decide, by decide, fun r3 x' y' r30 r31 q4 q5 => ?_⟩
      have dr2 := dr.draw (r0 := x') q4 q5
      have sb : Sb b H' (upd H' b (.lst [.int x', .int s1, .int y'])) := Sb.upd
      have hd2 := kept (u := .lst [.int x', .int s1, .int y']) dr.sr hd ndb
      have hm2' := kept (u := .lst [.int x', .int s1, .int y']) dr.sr hm nm3
      have hA2 := kept (u := .lst [.int x', .int s1, .int y']) dr.sr hA nab
      replace hz := fun v hv => othD_sb dr.sr dr2.sr sb (hz v hv)
      replace hp := fun v hv => othD_sb dr.sr dr2.sr sb (hp v hv)
      clear sb
      generalize upd H' b (.lst [.int x', .int s1, .int y']) = H2 at *
      obtain ⟨v, hv, mv⟩ := at_mem (l := Pl) r30 (by rw [plen]; exact r31)
      refine ⟨m3, Pl, _, v, rfl, rfl, sqL_of hm2', hv, zs, hd2, by omega, x', y', zs ++ [v], (dr2.mut hD0 ndb).mono (by push_cast; omega), upd_same, by rw [List.length_append, zl]; rfl, fun u hu => ?_, (upd_ne ndm.symm).trans hm2', fun u hu => othD_mut hd2 (hp u hu), (upd_ne nad).trans hA2⟩
      rcases List.mem_append.mp hu with h | h
      · exact othD_mut hd2 (hz u h)
      · rw [List.mem_singleton.mp h]
        exact othD_mut hd2 (hp v mv)
    · rintro H' ⟨x, y, zs, dr, hd, zl, hz, hm, hp, hA⟩
      refine ⟨_, rfl, _, rfl, a, rfl, ⟨_, sqT_of hA⟩, fun D2 hD2 => ?_⟩
      have y1 := dr.lo; have y2' := dr.hi
      have n2b := n_ne dr.sr hD2
      refine lc_tup (xs := ks.map V.int) (fun i H9 => Same H' H9 ∧ H9 D2 = some (.lst ((ks.take i).map twist))) ⟨same_new hD2, upd_same⟩ (fun i H9 _ r => sqT_of (r.1 _ _ hA)) ?_ ?_
      · rintro i v H9 hv ⟨sm, h9⟩
        rw [List.getElem?_map] at hv
        obtain ⟨k, hk, rfl⟩ := Option.map_eq_some_iff.mp hv
        have fin : ∃ acc, H9 D2 = some (.lst acc) ∧ acc.length < sizeLine ∧ Same H' (upd H9 D2 (.lst (acc ++ [twist k]))) ∧ upd H9 D2 (.lst (acc ++ [twist k])) D2 = some (.lst ((ks.take (i + 1)).map twist)) := by
          refine ⟨_, h9, by simp only [List.length_map, List.length_take]; omega, same_mut sm hD2, ?_⟩
          rw [upd_same, List.take_succ, hk, List.map_append]
          rfl
        refine ⟨rfl, _, rfl, _, _, rfl, rfl, _, rfl, ?_⟩
        by_cases l : k < 2
        · refine iteT' (decide_eq_true l) ⟨_, rfl, .inl ⟨k, rfl, ?_⟩⟩
          rw [show twist k = .bl (k != 0) by unfold twist; rw [if_pos l]] at fin
          exact fin
        · refine iteE (decide_eq_false l) ⟨_, rfl, ?_⟩
          rw [show twist k = .int k by unfold twist; rw [if_neg l]] at fin
          exact fin
      · rintro H9 ⟨sm, h9⟩
        rw [List.length_map, List.take_length] at h9
        refine ⟨D2, _, rfl, .inl ⟨sqL_of h9, fun t ht => ⟨one_le, fun m5 hm5 => ?_⟩⟩⟩
        have k1 := same_new (o := .tup (ks.map twist)) ht
        have T1 := upd_same (H := H9) (a := t) (o := .tup (ks.map twist))
        generalize upd H9 t (.tup (ks.map twist)) = HA at *
        have k2 := same_new (o := .lst [.ref t]) hm5
        have M5 := upd_same (H := HA) (a := m5) (o := .lst [.ref t])
        generalize upd HA m5 (.lst [.ref t]) = HB at *
        have s3 := (sm.trans k1).trans k2
        refine ⟨D, m5, _, _, rfl, rfl, s3 _ _ hd, M5, by rw [zl]; show 4 + 1 ≤ sizeLine; decide, fun F hF => ?_⟩
        have s4 := s3.trans (same_new (o := .lst (zs ++ [.ref t])) hF)
        have nFb := n_ne (dr.same s3).sr hF
        refine hQ F (zs ++ [.ref t]) x y _ ((dr.same s4).mono (by decide)) ((dr.same s3).none hF nFb) upd_same (fun v hv => ?_) (by rw [List.length_append, zl]; rfl)
        rcases List.mem_append.mp hv with h | h
        · exact othD_same s4 (hz v h)
        · rw [List.mem_singleton.mp h]
          refine othD_same (same_new hF) (allIt_oth (k2 _ _ T1) (fun u hu => ?_) (by rw [List.length_map]; omega))
          obtain ⟨k, hk, rfl⟩ := List.mem_map.mp hu
          exact twist_it (ksm k hk)
end
end L10
set_option maxRecDepth 100000
set_option maxHeartbeats 4000000
namespace Q7
open PySem PySem.Spec PyProof.Rows L2
/-! ### dict(l), the keys tuples -/
/-- one pair: the key, its place, the value -/
abbrev Ent := List Key × Addr × V
def allPut (m : List (List Key × V)) (rs : List Ent) : List (List Key × V) := rs.foldl (fun m r => putK m r.1 r.2.2) m
theorem allPut_len : ∀ (rs : List Ent) (m : List (List Key × V)), (allPut m rs).length ≤ m.length + rs.length
  | [], m => Nat.le_refl _
  | r :: rs, m => by
    have := allPut_len rs (putK m r.1 r.2.2)
    have := length_putK m r.1 r.2.2
    show (allPut (putK m r.1 r.2.2) rs).length ≤ m.length + (rs.length + 1)
    omega
section
variable {X : Cx} {pins : List (Addr × Obj)} {σ : L2.St} {H : Hp} {s : Shared}
/-- the machine's view of the pairs -/
theorem ents_of (I : Inv X pins σ H s) : ∀ {ps : List Addr} {rs : List Ent}, Paired (fun p (r : Ent) => SqT X.K H p [.ref r.2.1, r.2.2] ∧ H r.2.1 = some (.tup (r.1.map kV))) ps rs →
    ∃ es : List (List Key × Addr × Value), Paired (fun (r : Ent) (e : List Key × Addr × Value) => e.1 = r.1 ∧ e.2.1 = r.2.1 ∧ RelV r.2.2 e.2.2 ∧ H r.2.1 = some (.tup (r.1.map kV))) rs es ∧ Paired (fun p (e : List Key × Addr × Value) => IsTup s.heap p #[.ref e.2.1, e.2.2]) ps es
  | _, _, .nil => ⟨[], .nil, .nil⟩
  | _, _, @Paired.cons _ _ _ p r _ _ h t => by
    obtain ⟨es, q1, q2⟩ := ents_of I t
    obtain ⟨its, rv, tup_, _⟩ := I.tuple h.1
    obtain ⟨u, y, rfl, ru, ry⟩ := vals2 rv
    obtain rfl : u = Value.ref r.2.1 := ru
    exact ⟨(r.1, r.2.1, y) :: es, .cons ⟨rfl, rfl, ry, h.2⟩ q1, .cons tup_ q2⟩
theorem kt_all : ∀ {rs : List Ent} {es : List (List Key × Addr × Value)} {m : List (List Key × V)} {ys : List (List Key × Addr × Value)}, Paired (fun (r : Ent) (e : List Key × Addr × Value) => e.1 = r.1 ∧ e.2.1 = r.2.1 ∧ RelV r.2.2 e.2.2 ∧ H r.2.1 = some (.tup (r.1.map kV))) rs es →
    KT H m ys → KT H (allPut m rs) (storedAllH ys es)
  | _, _, _, _, .nil, k => k
  | _, _, m, ys, @Paired.cons _ _ _ r e rs es h t, k => by
    obtain ⟨k1, a1, v1⟩ := e
    obtain ⟨e1, e2, ry, ht⟩ := h
    simp only at e1 e2 ry
    subst e1 e2
    show KT H (allPut (putK m r.1 r.2.2) rs) (storedAllH (storedH ys r.1 r.2.1 v1) es)
    exact kt_all t (k.put r.1 ht ry)
theorem keys_in : ∀ {rs : List Ent} {es : List (List Key × Addr × Value)}, Paired (fun (r : Ent) (e : List Key × Addr × Value) => e.1 = r.1 ∧ e.2.1 = r.2.1 ∧ RelV r.2.2 e.2.2 ∧ H r.2.1 = some (.tup (r.1.map kV))) rs es → ∀ e ∈ es, H e.2.1 = some (.tup (e.1.map kV))
  | _, _, .nil, e, he => by cases he
  | _, _, .cons h t, e, he => by
    rcases List.mem_cons.mp he with rfl | he
    · rw [h.1, h.2.1]
      exact h.2.2.2
    · exact keys_in t e he
theorem cr_dictT (calm : X.calm = true) (hu : X.A.units + 2 < cLine) : CallR X (.type "dict") (fun as H Q => ∃ (l : Addr) (ps : List Addr) (rs : List Ent), as = [.ref l] ∧ SqL X.K H l (ps.map V.ref) ∧
    Paired (fun p (r : Ent) => SqT X.K H p [.ref r.2.1, r.2.2] ∧ H r.2.1 = some (.tup (r.1.map kV))) ps rs ∧ ∀ p, H p = none → Q (.ref p) (upd H p (.dT (allPut [] rs)))) := by
  intro pins s σ H as us Q I r q
  obtain ⟨l, ps, rs, rfl, hl, hp, q⟩ := q
  obtain ⟨u, rfl, ru⟩ := vals1 r
  obtain rfl : u = Value.ref l := ru
  obtain ⟨its, rv, ⟨o, n, ho, cls, bare, data⟩, size_⟩ := I.list hl
  have ei := refs_at rv
  subst ei
  rw [List.length_map] at size_
  obtain ⟨es, q1, q2⟩ := ents_of I hp
  have n1 : ps.length = rs.length := Paired.length hp
  have n2 : rs.length = es.length := Paired.length q1
  have items : PairItems s.heap (ps.map Value.ref).toArray (fun j => (ps[j]?).getD 0) (es.map fun e => (Value.ref e.2.1, e.2.2)) := by
    refine ⟨by simp [n1, n2], fun j k v hj => ?_⟩
    rw [List.getElem?_map] at hj
    obtain ⟨e, he, ee⟩ := Option.map_eq_some_iff.mp hj
    cases ee
    have hjl : j < ps.length := by
      have := (List.getElem?_eq_some_iff.mp he).1
      omega
    obtain ⟨e', he', tup_⟩ := pGet q2 (List.getElem?_eq_getElem hjl)
    rw [he] at he'
    cases he'
    have here : (ps[j]?).getD 0 = ps[j] := by rw [List.getElem?_eq_getElem hjl]; rfl
    refine ⟨?_, .inl ?_⟩
    · show (ps.map Value.ref).toArray[j]? = some (Value.ref ((ps[j]?).getD 0))
      rw [here, List.getElem?_toArray, List.getElem?_map, List.getElem?_eq_getElem hjl]
      rfl
    · show s.heap.IsTuple ((ps[j]?).getD 0) _
      rw [here]
      obtain ⟨o2, ho2, c2, n2, d2⟩ := tup_
      exact ⟨o2, ho2, c2, n2, d2⟩
  have keysOk := keys_in q1
  have notSys : (s.heap.objs.size == sysModules) = false := beq_eq_false_iff_ne.mpr (Nat.ne_of_gt I.big)
  refine call_dict_pairsH (knd := tupleKind (mixKind X.prog X.w)) (ps := es) (PairArg.list l (ps.map Value.ref).toArray (fun j => (ps[j]?).getD 0) (es.map fun e => (Value.ref e.2.1, e.2.2))) (I.ok.hd calm) (show X.A.units + 2 < cLine from hu)
    ⟨⟨o, n, ho, cls, bare, data⟩, items⟩ ⟨by rw [List.length_map], fun i k v hr => ?_⟩ (fun h' stay e he => ?_) (by rw [List.length_map, ← n2, ← n1]; exact size_) fun h' tk d' stay => ?_
  · obtain ⟨e, he, ee⟩ := Option.map_eq_some_iff.mp ((List.getElem?_map ..).symm.trans hr)
    cases ee
    exact ⟨e.1, e.2.1, he, rfl⟩
  · obtain ⟨o2, its, k2, at_, rest_⟩ := key_of I.hok (keysOk e he)
    exact ⟨o2, its, k2, stay _ _ (Nat.ne_of_lt (Heap.lt_size at_)) (by simp) at_, rest_⟩
  · obtain ⟨o2, es2, ep, g1, g2, g3, g4, _, g5⟩ := d'
    have few : (allPut [] rs).length ≤ sizeLine := by
      have := allPut_len rs []
      rw [List.length_nil] at this
      omega
    refine ⟨.ref s.heap.objs.size, upd H s.heap.objs.size (.dT (allPut [] rs)), I.laid (t' := tk) (fun b o e => stay b o (by simp) e) (Nat.le_refl _) ?_, rfl, q _ (I.hok.fresh (Nat.le_refl _))⟩
    refine ⟨few, notSys, _, ((kt_all q1 .nil).keeps fun b ys eb => ?_), o2, es2, ep, g1, g2, g3, g4, g5⟩
    rw [upd_ne fun z => by rw [z, I.hok.fresh (Nat.le_refl _)] at eb; cases eb]
    exact eb
end
end Q7
set_option maxRecDepth 100000
set_option maxHeartbeats 4000000
namespace L10
open PySem PySem.Spec PyProof.Rows L2 Q7
section
variable {P : Program} {w : World} {K : PySem.W.Frag} {mg : Str → Option Value} {base : Heap}
/-! ### the plan and its tasks, apart from the source's list -/
structure FitB (K : PySem.W.Frag) (H0 : Hp) (b : Addr) (H : Hp) (td : Addr) (v : V) (ts : List (Str × TaskD)) (p : PlanD) : Prop where
  kvs : ∃ kvs, H td = some (.dK kvs) ∧ TsB K H b kvs ts
  ne : td ≠ b
  g : GoodTs ts
  pn : PlanN K H0 b H v p
  ok : p.ok (ts.map (·.1))
  cnt : p.count ≤ 40
  dp : p.deep ≤ 8
  sz : p.size ≤ 400
  sn : p.span (lastT ts) ≤ 400
theorem FitB.same {H0 H H' : Hp} {b td : Addr} {v : V} {ts : List (Str × TaskD)} {p : PlanD} {x y z : Int} (f : FitB K H0 b H td v ts p) (hb : SrcAt H b x y z) (s : Same H H') : FitB K H0 b H' td v ts p :=
  ⟨let ⟨kvs, h, t⟩ := f.kvs; ⟨kvs, s _ _ h, t.sb hb (Sb.of s)⟩, f.ne, f.g, f.pn.same s, f.ok, f.cnt, f.dp, f.sz, f.sn⟩
theorem FitB.sb {H0 H H' : Hp} {b td : Addr} {v : V} {ts : List (Str × TaskD)} {p : PlanD} {x y z : Int} (f : FitB K H0 b H td v ts p) (hb : SrcAt H b x y z) (s : Sb b H H') : FitB K H0 b H' td v ts p :=
  ⟨let ⟨kvs, h, t⟩ := f.kvs; ⟨kvs, s _ _ h f.ne, t.sb hb s⟩, f.ne, f.g, f.pn.sb hb s, f.ok, f.cnt, f.dp, f.sz, f.sn⟩
theorem FitB.fit {H0 H : Hp} {b td : Addr} {v : V} {ts : List (Str × TaskD)} {p : PlanD} (f : FitB K H0 b H td v ts p) : ∃ N, Fit K H td v ts p N :=
  ⟨_, let ⟨kvs, h, t⟩ := f.kvs; ⟨kvs, h, t.p⟩, f.g, f.pn.pv, f.ok, f.cnt, f.dp, f.sz, f.sn⟩
theorem Fit.same {H H' : Hp} {td : Addr} {v : V} {ts : List (Str × TaskD)} {p : PlanD} {N : Addr → Prop} (f : Fit K H td v ts p N) (s : Same H H') : Fit K H' td v ts p N :=
  ⟨tasksV_same f.tv s, f.g, planV_same f.pv s, f.ok, f.cnt, f.dp, f.sz, f.sn⟩
theorem shw_plan {H : Hp} {td : Addr} {v : V} {ts : List (Str × TaskD)} {p : PlanD} {N : Addr → Prop} (f : Fit K H td v ts p N) : Shw (dPlan p) := by
  have c := f.cnt
  have d := f.dp
  have h2 := sz_plan (ns := ts.map (·.1)) (fun n hn => by
    obtain ⟨q, hq, rfl⟩ := List.mem_map.mp hn
    exact f.g.nm q hq) f.ok
  exact (sz_to h2 (n' := 4000) (m' := 20) (by omega) (by omega)).shw
theorem rising_pw : ∀ (p : Str) (l : List Str), risingS p l = true → (p :: l).Pairwise (fun a b => a.cps.toList ≤ b.cps.toList)
  | p, [], _ => by simp
  | p, x :: r, h => by
    have h' : (!ltCps x.cps.toList p.cps.toList && risingS x r) = true := h
    rw [Bool.and_eq_true] at h'
    have h1 : p.cps.toList ≤ x.cps.toList := by
      have := h'.1
      rw [ltCps_eq] at this
      exact List.not_lt.mp (by simpa using this)
    have ih := rising_pw x r h'.2
    refine List.pairwise_cons.mpr ⟨fun y hy => ?_, ih⟩
    rcases List.mem_cons.mp hy with rfl | hy
    · exact h1
    · exact List.le_trans h1 ((List.pairwise_cons.mp ih).1 y hy)
theorem sorted_pw : ∀ {l : List Str}, sortedS l = true → l.Pairwise (fun a b => a.cps.toList ≤ b.cps.toList)
  | [], _ => by simp
  | x :: r, h => rising_pw x r h
theorem str_eq {x y : Str} (h : x.cps.toList = y.cps.toList) : x = y := by
  have hc : x.cps = y.cps := Array.toList_inj.mp h
  cases x
  cases y
  simp only at hc
  rw [hc]
theorem sorted_one {xs ys : List Str} (h1 : sortedS xs = true) (h2 : sortedS ys = true) (p : xs.Perm ys) : xs = ys :=
  List.Perm.eq_of_pairwise (fun _ _ _ _ a b => str_eq (List.le_antisymm a b)) (sorted_pw h1) (sorted_pw h2) p
def roadsD (p : PlanD) : PyData := .list ((paths p).map fun r => .tuple (r.1.map PyData.int))
def toldD (ys : List Str) (p : PlanD) : PyData := .list [.list (ys.map PyData.str), .list (ys.map PyData.str), roadsD p, roadsD p]
/-- small data whose numbers are short -/
structure Sz1 (n m : Nat) (ds : List PyData) : Prop where
  sh : PyData.showableAll ds = true
  lf : PyData.leavesShortAll 100 ds = true
  bk : PyData.bulkAll ds ≤ n
  dp : PyData.depthAll ds ≤ m
theorem sz1_nil {n m : Nat} : Sz1 n m [] := ⟨by simp [PyData.showableAll], by simp [PyData.leavesShortAll], by simp [PyData.bulkAll], by simp [PyData.depthAll]⟩
theorem sz1_ints : ∀ {ks : List Int}, (∀ k ∈ ks, 0 ≤ k ∧ k < 60) → Sz1 ks.length 0 (ks.map PyData.int)
  | [], _ => sz1_nil
  | k :: r, h => by
    have ih := sz1_ints fun x hx => h x (List.mem_cons_of_mem _ hx)
    obtain ⟨h0, h1⟩ := h k List.mem_cons_self
    obtain ⟨n, rfl⟩ := Int.eq_ofNat_of_zero_le h0
    have hs : (PyData.shown (.int (n : Int))).length ≤ 100 := by
      rw [TL.len_tl, shown_nat]
      exact Nat.le_trans (TL.numL_len (n := n) (k := 2) (by decide) (by omega)) (by decide)
    have hn : PyData.showable (.int (n : Int)) = true := by
      simp only [PyData.showable]
      exact decide_eq_true (shI_log (nat_sh (Nat.lt_of_lt_of_le (show n < 60 by omega) (by decide))))
    refine ⟨?_, ?_, ?_, ?_⟩
    · simp only [List.map_cons, PyData.showableAll, hn, ih.sh, Bool.and_self]
    · simp only [List.map_cons, PyData.leavesShortAll, PyData.leavesShort, ih.lf, Bool.and_true]
      exact decide_eq_true hs
    · have := ih.bk
      simp only [List.map_cons, PyData.bulkAll, PyData.bulk, List.length_cons]
      omega
    · have := ih.dp
      simp only [List.map_cons, PyData.depthAll, PyData.depth]
      omega
theorem sz1_roads : ∀ {l : List (List Int × Str)}, (∀ r ∈ l, (∀ k ∈ r.1, 0 ≤ k ∧ k < 60) ∧ r.1.length ≤ 8) → Sz1 (9 * l.length) 1 (l.map fun r => .tuple (r.1.map PyData.int))
  | [], _ => sz1_nil
  | r :: l, h => by
    have ih := sz1_roads fun x hx => h x (List.mem_cons_of_mem _ hx)
    obtain ⟨h0, h1⟩ := h r List.mem_cons_self
    have z := sz1_ints h0
    refine ⟨?_, ?_, ?_, ?_⟩
    · simp only [List.map_cons, PyData.showableAll, PyData.showable, z.sh, ih.sh, Bool.and_self]
    · simp only [List.map_cons, PyData.leavesShortAll, PyData.leavesShort, z.lf, ih.lf, Bool.and_self]
    · have := ih.bk
      have := z.bk
      simp only [List.map_cons, PyData.bulkAll, PyData.bulk, List.length_cons]
      omega
    · have := ih.dp
      have := z.dp
      simp only [List.map_cons, PyData.depthAll, PyData.depth]
      omega
theorem sz1_names : ∀ {ys : List Str}, (∀ n ∈ ys, GoodN n) → Sz1 (9 * ys.length) 0 (ys.map PyData.str)
  | [], _ => sz1_nil
  | y :: l, h => by
    have ih := sz1_names fun x hx => h x (List.mem_cons_of_mem _ hx)
    have g := h y List.mem_cons_self
    have yl : y.cps.size ≤ 8 := g.l1
    refine ⟨?_, ?_, ?_, ?_⟩
    · simp only [List.map_cons, PyData.showableAll, PyData.showable, ih.sh, Bool.and_self]
    · simp only [List.map_cons, PyData.leavesShortAll, PyData.leavesShort, ih.lf, Bool.and_true, List.all_eq_true]
      exact fun c hc => decide_eq_true (by have := (g.az c hc).2; omega)
    · have := ih.bk
      simp only [List.map_cons, PyData.bulkAll, PyData.bulk, List.length_cons]
      omega
    · have := ih.dp
      simp only [List.map_cons, PyData.depthAll, PyData.depth]
      omega
theorem shw_told {ns : List Str} {ys : List Str} {p : PlanD} (ok : p.ok ns) (cnt : p.count ≤ 60) (sz : p.size ≤ 400) (dp : p.deep ≤ 8) (gn : ∀ n ∈ ys, GoodN n) (l : ys.length ≤ 12) : Shw (toldD ys p) := by
  have z1 := sz1_names gn
  have z2 := sz1_roads (l := paths p) fun r hr => ⟨road_small ok cnt hr, by have := road_len hr; omega⟩
  have pf := paths_few ok sz
  have b1 := z1.bk
  have b2 := z2.bk
  have d1 := z1.dp
  have d2 := z2.dp
  refine ⟨?_, ?_, ?_⟩
  · simp only [toldD, roadsD, PyData.showable, PyData.showableAll, z1.sh, z2.sh, Bool.and_self]
  · simp only [toldD, roadsD, PyData.depth, PyData.depthAll]
    omega
  · have lf : (toldD ys p).leavesShort 100 = true := by simp only [toldD, roadsD, PyData.leavesShort, PyData.leavesShortAll, z1.lf, z2.lf, Bool.and_self]
    have h1 := PyData.shown_le_bulk 100 (by decide) (toldD ys p) lf
    have h2 : (toldD ys p).bulk ≤ 8000 := by
      simp only [toldD, roadsD, PyData.bulk, PyData.bulkAll]
      omega
    have h3 : (100 + 2) * 8000 + 100 + 64 ≤ sizeLine := by decide
    have h4 : (100 + 2) * (toldD ys p).bulk ≤ (100 + 2) * 8000 := Nat.mul_le_mul (Nat.le_refl _) h2
    omega
theorem dpW_strs {H : Hp} : ∀ ys : List Str, DpWs K H (ys.map V.str) (ys.map PyData.str)
  | [] => .nil
  | y :: r => .cons (.str _) (dpW_strs r)
theorem dpW_ints {H : Hp} : ∀ ks : List Int, DpWs K H (ks.map V.int) (ks.map PyData.int)
  | [] => .nil
  | y :: r => .cons (.int _) (dpW_ints r)
abbrev RoadR (H : Hp) (x : V) (r : List Int × Str) : Prop := ∃ t, x = V.ref t ∧ H t = some (.tup (r.1.map V.int))
theorem dpW_roads {H : Hp} : ∀ {xs : List V} {rs : List (List Int × Str)}, Paired (RoadR H) xs rs → DpWs K H xs (rs.map fun r => .tuple (r.1.map PyData.int))
  | _, _, .nil => .nil
  | _, _, .cons ⟨t, e, h⟩ r => by
    subst e
    exact .cons (.tup (sqT_of h) (dpW_ints _)) (dpW_roads r)
theorem roadRs_same {H H' : Hp} {xs : List V} {rs : List (List Int × Str)} (h : Paired (RoadR H) xs rs) (s : Same H H') : Paired (RoadR H') xs rs := pImp (fun _ _ ⟨t, e, z⟩ => ⟨t, e, s _ _ z⟩) h
theorem shw_road {ks : List Int} (h : ∀ k ∈ ks, 0 ≤ k ∧ k < 60) (l : ks.length ≤ 8) : Shw (.tuple (ks.map PyData.int)) := by
  obtain ⟨js, rfl⟩ := nats_of fun k hk => (h k hk).1
  rw [nat_int_map]
  rw [List.length_map] at l
  exact (sz_to (sz_tup (sz_nats js fun k hk => by
    have := (h (k : Int) (List.mem_map.mpr ⟨k, hk, rfl⟩)).2
    omega)) (n' := 100) (m' := 10) (by omega) (by decide)).shw
theorem roads_ents {H : Hp} : ∀ {xs : List V} {l : List (List Int × Str)}, Paired (RoadB K H) xs l → ∃ (ps : List Addr) (rs : List Ent), xs = ps.map V.ref ∧
    Paired (fun p (r : Ent) => SqT K H p [.ref r.2.1, r.2.2] ∧ H r.2.1 = some (.tup (r.1.map kV))) ps rs ∧ ∀ m, allPut m rs = l.foldl putR m
  | _, _, .nil => ⟨[], [], rfl, .nil, fun m => rfl⟩
  | _, _, @Paired.cons _ _ _ x r _ _ ⟨a, t, e, S1, S2⟩ q => by
    obtain ⟨ps, rs, e1, q1, q2⟩ := roads_ents q
    subst e e1
    exact ⟨a :: ps, (keyR r.1, t, .str r.2) :: rs, rfl, .cons ⟨S1, by rw [keyR_kV]; exact S2⟩ q1, fun m => q2 _⟩
theorem sb_tb {H H' : Hp} {b : Addr} {x y z : Int} (hb : SrcAt H b x y z) (s : Sb b H H') : TB H H' := ⟨kv_sb hb s, fun a xs e => s _ _ e fun n => by rw [n, show H b = _ from hb] at e; cases e⟩
/-- what stays between the draws -/
structure Kept (K : PySem.W.Frag) (H0 : Hp) (b : Addr) (H : Hp) (c1 c2 n : Int) (td : Addr) (v : V) (ts : List (Str × TaskD)) (p : PlanD) (lp pd tx : Addr) (xs : List V) (H' : Hp) (x y : Int) : Prop where
  dr : Dr b c1 c2 n H H' x y
  fb : FitB K H0 b H' td v ts p
  hl : H' lp = some (.lst xs)
  pp : Paired (RoadB K H') xs (paths p)
  hd : H' pd = some (.dT (dictR (paths p)))
  ht : H' tx = some (.lst (((paths p).map fun r => textR r.1).map V.str))
  nl : lp ≠ b
  nd : pd ≠ b
  nt : tx ≠ b
theorem Kept.same {H0 H H' H2 : Hp} {b td lp pd tx : Addr} {c1 c2 n x y : Int} {v : V} {ts : List (Str × TaskD)} {p : PlanD} {xs : List V} (k : Kept K H0 b H c1 c2 n td v ts p lp pd tx xs H' x y) (s : Same H' H2) :
    Kept K H0 b H c1 c2 n td v ts p lp pd tx xs H2 x y :=
  ⟨k.dr.same s, k.fb.same k.dr.sr s, s _ _ k.hl, pImp (fun _ _ z => roadB_tk z (same_tb s)) k.pp, s _ _ k.hd, s _ _ k.ht, k.nl, k.nd, k.nt⟩
theorem Kept.then {H0 H H' H2 : Hp} {b td lp pd tx : Addr} {c1 c2 n m x y u w : Int} {v : V} {ts : List (Str × TaskD)} {p : PlanD} {xs : List V} (k : Kept K H0 b H c1 c2 n td v ts p lp pd tx xs H' x y) (d : Dr b c1 y m H' H2 u w) :
    Kept K H0 b H c1 c2 (n + m) td v ts p lp pd tx xs H2 u w :=
  ⟨k.dr.then d, k.fb.sb k.dr.sr d.sb, d.sb _ _ k.hl k.nl, pImp (fun _ _ z => roadB_tk z (sb_tb k.dr.sr d.sb)) k.pp, d.sb _ _ k.hd k.nd, d.sb _ _ k.ht k.nt, k.nl, k.nd, k.nt⟩
theorem Kept.draw {H0 H H' : Hp} {b td lp pd tx : Addr} {c1 c2 n x y u w : Int} {v : V} {ts : List (Str × TaskD)} {p : PlanD} {xs : List V} (k : Kept K H0 b H c1 c2 n td v ts p lp pd tx xs H' x y) (h1 : y ≤ w) (h2 : w ≤ y + 1) :
    Kept K H0 b H c1 c2 (n + 1) td v ts p lp pd tx xs (upd H' b (.lst [.int u, .int c1, .int w])) u w := by
  have d := (Dr.start k.dr.sr).draw (r0 := u) h1 h2
  exact k.then ⟨d.sb, d.sr, d.lo, by have := d.hi; omega⟩
theorem inV_strs {x : Str} {l : List Str} : inV (V.str x) (l.map V.str) = decide (x ∈ l) := by
  induction l with
  | nil => rfl
  | cons y l ih =>
    show (eqV (V.str y) (V.str x) || inV (V.str x) (l.map V.str)) = _
    rw [ih]
    by_cases e : y = x
    · subst e
      simp [eqV]
    · simp [eqV, e, Ne.symm e]
theorem all_flat (l : List Str) : (l.map V.str).all flatV = true := by
  induction l with
  | nil => rfl
  | cons y l ih => exact ih
theorem strOk_name {n : Str} (g : GoodN n) : PyData.strOk n = true := by
  unfold PyData.strOk
  rw [← Array.all_toList, List.all_eq_true]
  exact fun c hc => decide_eq_true (by have := (g.az c hc).2; omega)
theorem shaped_name {n : Str} (g : GoodN n) : SeqAt.shaped (.str n) = true := by
  simp [SeqAt.shaped, PyData.canLay0, strOk_name g, PyData.depth]
theorem road_good {ts : List (Str × TaskD)} {p : PlanD} (g : GoodTs ts) (ok : p.ok (ts.map (·.1))) {r : List Int × Str} (h : r ∈ paths p) : GoodN r.2 := by
  obtain ⟨q, hq, e⟩ := List.mem_map.mp (road_name ok h)
  rw [← e]
  exact g.nm q hq
def pairD (r : List Int × Str) : PyData := .tuple [.tuple (r.1.map PyData.int), .str r.2]
theorem dp_ints {H : Hp} : ∀ ks : List Int, DpAll K H (ks.map V.int) (ks.map PyData.int)
  | [] => .nil
  | k :: r => .cons (.int _) (dp_ints r)
theorem dp_pairs {H : Hp} : ∀ {xs : List V} {l : List (List Int × Str)}, Paired (RoadB K H) xs l → DpAll K H xs (l.map pairD)
  | _, _, .nil => .nil
  | _, _, .cons ⟨a, t, e, S1, S2⟩ q => by
    subst e
    exact .cons (.tup S1 (.cons (.tup (sqT_of S2) (dp_ints _)) (.cons (.str _) .nil))) (dp_pairs q)
theorem lay_ints : ∀ ks : List Int, PyData.canLayAll0 (ks.map PyData.int) = true
  | [] => by simp [PyData.canLayAll0]
  | k :: r => by simp [PyData.canLayAll0, PyData.canLay0, lay_ints r]
theorem deep_ints : ∀ ks : List Int, PyData.depthAll (ks.map PyData.int) = 0
  | [] => by simp [PyData.depthAll]
  | k :: r => by simp [PyData.depthAll, PyData.depth, deep_ints r]
theorem lay_pairs : ∀ {l : List (List Int × Str)}, (∀ r ∈ l, GoodN r.2) → PyData.canLayAll0 (l.map pairD) = true ∧ PyData.depthAll (l.map pairD) ≤ 2
  | [], _ => by simp [PyData.canLayAll0, PyData.depthAll]
  | r :: l, g => by
    obtain ⟨h1, h2⟩ := lay_pairs fun q hq => g q (List.mem_cons_of_mem _ hq)
    constructor
    · simp [PyData.canLayAll0, PyData.canLay0, pairD, lay_ints, strOk_name (g r List.mem_cons_self), h1]
    · simp only [List.map_cons, PyData.depthAll, pairD, PyData.depth, deep_ints]
      omega
theorem shaped_pairs {l : List (List Int × Str)} (g : ∀ r ∈ l, GoodN r.2) : SeqAt.shaped (.list (l.map pairD)) = true := by
  obtain ⟨h1, h2⟩ := lay_pairs g
  simp only [SeqAt.shaped, PyData.canLay0, h1, PyData.depth, Bool.true_and]
  exact decide_eq_true (by omega)
def spRight (K : PySem.W.Frag) : Sp := fun vs H Q _ => ∃ (b : Addr) (s0 s1 s2 : Int) (td : Addr) (v : V) (p : PlanD) (ts : List (Str × TaskD)), vs = [.ref b, .ref td, v] ∧ SrcAt H b s0 s1 s2 ∧ 0 ≤ s2 ∧ s2 < 2 ^ 35 ∧ s1.natAbs < 2 ^ 150 ∧
  (∃ H0, FitB K H0 b H td v ts p) ∧ ∀ H' u0 u2, Dr b s1 s2 100 H H' u0 u2 → Q (.bl true) H'
theorem ok__law_right (T : Txt w K mg) : FnG P w K mg base 16 (He.ga K "_law_right") T.fd__law_right ["source", "some", "tree"] (spRight K) := by
  refine okG T.F__law_right sc__law_right (fun vs H Q E h => ?_) (fun cdv A outer s H vs Q E g hr h => ⟨_, PSs.nox
    (pss_cons (ps_par (i := 3) (j := 4) rfl sc__law_right.nd rfl rfl (by decide) rfl rfl (pa_cons (pe_call (ok__law_paths T 8) (hr.mono (by decide)) (by rfl) T.g__law_paths T.F__law_paths.kp T.b__law_paths .nil pass0 (pa_cons (pv 2) pa_nil)) (pa_cons (pe_callB (call_reprW T.sys g (un70 hr)) (by rfl) T.m_repr (by decide +kernel) (pa_cons (pv 2) pa_nil)) pa_nil)) (by rfl))
      (pss_cons (ps_par (i := 7) (j := 8) rfl sc__law_right.nd rfl rfl (by decide) rfl rfl (pa_cons (pe_lc (own := [("road", 5), ("name", 6)]) rfl sc__law_right.nd (pi_list (pv 3)) (blkOk_by (N := ["source", "some", "tree", "pairs", "held", "road", "name", "due", "names", "turn", "told", "one", "places", "texts_here", "k", "other", "is_one"]) (sc := defScope s__law_right) (by decide +kernel)) (fun _ _ _ _ _ => (show PG _ _ (gTup K 2 (gCons (gName 5) (gCons (gName 6) gNil))) from pg_tup rfl (pgs_cons (pg_name (i := 5) sc__law_right.nd rfl (.inl rfl) (hf := .inr rfl)) (pgs_cons (pg_name (i := 6) sc__law_right.nd rfl (.inl rfl) (hf := .inr rfl)) pgs_nil)))) (fun _ _ _ _ _ => pts_nil) (fun _ _ _ _ _ => (pv 5))) (pa_cons (pe_callB (call_sortedSS rfl) (by rfl) T.m_sorted (by decide +kernel) (pa_cons (pe_callTy (cr_setT rfl) (by rfl) T.m_set (by decide +kernel) (pa_cons (pe_lc (own := [("road", 5), ("name", 6)]) rfl sc__law_right.nd (pi_list (pv 3)) (blkOk_by (N := ["source", "some", "tree", "pairs", "held", "road", "name", "due", "names", "turn", "told", "one", "places", "texts_here", "k", "other", "is_one"]) (sc := defScope s__law_right) (by decide +kernel)) (fun _ _ _ _ _ => (show PG _ _ (gTup K 2 (gCons (gName 5) (gCons (gName 6) gNil))) from pg_tup rfl (pgs_cons (pg_name (i := 5) sc__law_right.nd rfl (.inl rfl) (hf := .inr rfl)) (pgs_cons (pg_name (i := 6) sc__law_right.nd rfl (.inl rfl) (hf := .inr rfl)) pgs_nil)))) (fun _ _ _ _ _ => pts_nil) (fun _ _ _ _ _ => (pv 6))) pa_nil)) pa_nil)) pa_nil)) (by rfl))
      (pss_cons (ps_for PassesOwn.never rfl (pi_range1 (by rfl) T.m_range (pa_cons pe_int pa_nil)) (pg_name (i := 9) sc__law_right.nd rfl (.inl rfl)) (pss_cons (ps_set (i := 10) sc__law_right.nd rfl (.inl rfl) (pe_lst (pa_cons (pe_call (ok_names_in T) (hr.mono (by decide)) (by rfl) T.g_names_in T.F_names_in.kp T.b_names_in .nil pass0 (pa_cons (pv 1) (pa_cons (pv 2) pa_nil))) (pa_cons (pe_callK0 (ok_names_in T) (hr.mono (by decide)) (by rfl) T.g_names_in T.F_names_in.kp T.kb_names_in_plan_tasks pass0 (pk_cons (pv 2) (pk_cons (pv 1) pk_nil))) (pa_cons (pe_call (ok_task_paths T) (hr.mono (by decide)) (by rfl) T.g_task_paths T.F_task_paths.kp T.b_task_paths .nil pass0 (pa_cons (pv 1) (pa_cons (pv 2) pa_nil))) pa_nil)))))
      (pss_cons (ps_expr (pe_bm PySem.F.plainAttrs_list PySem.F.slot_list_append PySem.F.type_list_append mt_append (pv 10) (pa_cons (pe_callK0 (ok_task_paths T) (hr.mono (by decide)) (by rfl) T.g_task_paths T.F_task_paths.kp T.kb_task_paths_plan_tasks pass0 (pk_cons (pv 2) (pk_cons (pv 1) pk_nil))) pa_nil)))
      (pss_cons (ps_if (pt_cmpR op_ne (pe_callB (call_reprW T.sys g (un70 hr)) (by rfl) T.m_repr (by decide +kernel) (pa_cons (pv 10) pa_nil)) (pe_callB (call_reprW T.sys g (un70 hr)) (by rfl) T.m_repr (by decide +kernel) (pa_cons (pe_lst (pa_cons (pv 8) (pa_cons (pv 8) (pa_cons (pv 7) (pa_cons (pv 7) pa_nil))))) pa_nil)) (nomark _)) (pss_one (ps_ret pe_bl)) pss_nil)
      (pss_one (ps_for PassesOwn.never rfl (pi_list (pv 10)) (pg_name (i := 11) sc__law_right.nd rfl (.inl rfl)) (pss_one (ps_expr (pe_bm PySem.F.plainAttrs_list PySem.F.slot_list_append PySem.F.type_list_append mt_append (pv 11) (pa_cons pe_non pa_nil))))))))))
      (pss_cons (ps_par (i := 12) (j := 13) rfl sc__law_right.nd rfl rfl (by decide) rfl rfl (pa_cons (pe_callTy (cr_dictT rfl (Nat.lt_of_le_of_lt (Nat.add_le_add_left (by decide : 2 ≤ 70) _) (un70 hr))) (by rfl) T.m_dict (by decide +kernel) (pa_cons (pv 3) pa_nil)) (pa_cons (pe_lc (own := [("one", 11)]) rfl sc__law_right.nd (pi_list (pv 7)) (blkOk_by (N := ["source", "some", "tree", "pairs", "held", "road", "name", "due", "names", "turn", "told", "one", "places", "texts_here", "k", "other", "is_one"]) (sc := defScope s__law_right) (by decide +kernel)) (fun _ _ _ _ _ => (pg_name (i := 11) sc__law_right.nd rfl (.inl rfl) (hf := .inr rfl))) (fun _ _ _ _ _ => pts_nil) (fun _ _ _ _ _ => (pe_callB (show CallR _ (.builtin "repr") (rReprW K) from call_reprW T.sys g (un70 hr)) (by rfl) T.m_repr (by decide +kernel) (pa_cons (pv 11) pa_nil)))) pa_nil)) (by rfl))
      (pss_cons (ps_for PassesOwn.never rfl (pi_range1 (by rfl) T.m_range (pa_cons (pe_callB (call_min2 rfl) (by rfl) T.m_min (by decide +kernel) (pa_cons pe_int (pa_cons (pe_callB call_len_seq (by rfl) T.m_len (by decide +kernel) (pa_cons (pv 3) pa_nil)) pa_nil))) pa_nil)) (pg_name (i := 14) sc__law_right.nd rfl (.inl rfl)) (pss_cons (ps_asg (pe_ix ix_list (pv 3) (pe_call (ok__law_draw T) (hr.mono (by decide)) (by rfl) T.g__law_draw T.F__law_draw.kp T.b__law_draw .nil pass0 (pa_cons (pv 0) (pa_cons (pe_callB call_len_seq (by rfl) T.m_len (by decide +kernel) (pa_cons (pv 3) pa_nil)) pa_nil))) (fun _ _ => rfl)) (pg_tup rfl (pgs_cons (pg_name (i := 5) sc__law_right.nd rfl (.inl rfl)) (pgs_cons (pg_name (i := 6) sc__law_right.nd rfl (.inl rfl)) pgs_nil))))
      (pss_cons (ps_if (PW.pt (pw_or (pt_cmpR op_ne (pe_call (ok_name_at T) (hr.mono (by decide)) (by rfl) T.g_name_at T.F_name_at.kp T.b_name_at .nil pass0 (pa_cons (pv 1) (pa_cons (pv 2) (pa_cons (pv 5) pa_nil)))) (pv 6) (nomark _)) (pw_or1 (pt_cmpR op_ne (pe_callK0 (ok_name_at T) (hr.mono (by decide)) (by rfl) T.g_name_at T.F_name_at.kp T.kb_name_at_path_plan_tasks pass0 (pk_cons (pv 5) (pk_cons (pv 2) (pk_cons (pv 1) pk_nil)))) (pv 6) (nomark _))))) (pss_one (ps_ret pe_bl)) pss_nil)
      (pss_one (ps_for PassesOwn.never rfl (pi_list (pe_call (ok__law_near T) (hr.mono (by decide)) (by rfl) T.g__law_near T.F__law_near.kp T.b__law_near .nil pass0 (pa_cons (pv 0) (pa_cons (pv 5) pa_nil)))) (pg_name (i := 15) sc__law_right.nd rfl (.inl rfl)) (pss_cons (ps_set (i := 16) sc__law_right.nd rfl (.inl rfl) (pe_and (pe_callB call_isi (by rfl) T.m_isinstance (by decide +kernel) (pa_cons (pv 15) (pa_cons (pe_bltn rfl T.m_tuple (v := .ty "tuple") (u := .type "tuple") (by decide +kernel) rfl) pa_nil))) (pe_one (pe_cmpR op_in_seq (pe_callB (call_reprW T.sys g (un70 hr)) (by rfl) T.m_repr (by decide +kernel) (pa_cons (pv 15) pa_nil)) (pv 13) rfl))))
      (pss_one (ps_if (pt_cmpR (op_neD hr.units) (pe_call (ok__law_told T) (hr.mono (by decide)) (by rfl) T.g__law_told T.F__law_told.kp T.b__law_told .nil pass0 (pa_cons (pv 1) (pa_cons (pv 2) (pa_cons (pv 15) pa_nil)))) (pe_ifExp (pt_val (pv 16)) (pe_dget (hu_of hr) (pv 12) (pv 15) (fun _ _ => rfl)) (pe_lst (pa_cons pe_str pa_nil))) (nomark _)) (pss_one (ps_ret pe_bl)) pss_nil))))))))
      (pss_one (ps_ret (pe_or (pe_cmpR (op_neD hr.units) (pv 3) (pe_lst pa_nil) (nomark _)) (pe_one (pe_cmpR (op_eqD hr.units) (pe_call (ok__law_told T) (hr.mono (by decide)) (by rfl) T.g__law_told T.F__law_told.kp T.b__law_told .nil pass0 (pa_cons (pv 1) (pa_cons (pv 2) (pa_cons (pe_tup pa_nil) pa_nil)))) (pe_lst (pa_cons pe_str pa_nil)) (nomark _))))))))))), ?_⟩)
  · obtain ⟨b, s0, s1, s2, td, v, p, ts, rfl, _⟩ := h
    rfl
  · obtain ⟨b, c0, c1, c2, td, v, p, ts, rfl, hs, d0, d1, e1, ⟨H0, FB⟩, hQ⟩ := h
    have l64 := line64
    obtain ⟨N, F⟩ := FB.fit
    have l4 := line400
    have sb5 : 500 < scanBound := by decide
    have cnt := F.cnt; have dp := F.dp; have sz := F.sz
    have pf := paths_few F.ok F.sz
    have nf := namesOf_few F.ok
    have g1 := F.g.l1
    rw [List.length_map] at nf
    refine ⟨_, rfl, v, p, N, H, _, rfl, Same.refl _, F.pv, F.ok, by omega, by omega, by omega, by omega, fun lp xs H1 s1 nlp LP PP => ⟨_, rfl, v, dPlan p, rfl, dpW_plan (planV_same F.pv s1), shw_plan F, ?_⟩⟩
    refine ⟨_, _, rfl, ?_⟩
    refine ⟨_, rfl, lp, rfl, ⟨_, sqL_of LP⟩, fun D1 hD1 => ?_⟩
    have xl := pLen PP
    refine lc_list (xs := xs) (fun i H' => Same H1 H' ∧ ∃ zs, H' D1 = some (.lst zs) ∧ Paired (fun x (r : List Int × Str) => ∃ t, x = V.ref t ∧ H' t = some (.tup (r.1.map V.int))) zs ((paths p).take i)) ⟨same_new hD1, [], upd_same, .nil⟩ (fun i H' _ r => sqL_of (r.1 _ _ LP)) ?_ ?_
    · rintro i x H' hx ⟨sm, zs, hd, P2⟩
      obtain ⟨r, hr, a, t, rfl, S1, S2⟩ := pGet PP hx
      have zl := pLen P2
      rw [List.length_take] at zl
      refine ⟨a, _, rfl, Q7.sqT_same sm S1, rfl, _, _, rfl, _, _, rfl, rfl, rfl, ?_⟩
      have tk : TB H' (upd H' D1 (.lst (zs ++ [.ref t]))) := tb_lst hd
      refine ⟨_, rfl, zs, hd, by omega, same_mut sm hD1, zs ++ [.ref t], upd_same, ?_⟩
      rw [List.take_succ, hr]
      exact pApp (pImp (fun _ _ ⟨t, e, z⟩ => ⟨t, e, tk.ex _ _ z⟩) P2) (.cons ⟨t, rfl, tk.ex _ _ (sm _ _ S2)⟩ .nil)
    rintro H2 ⟨s2, zs, hD, PD⟩
    rw [xl, List.take_length] at PD
    refine ⟨_, rfl, lp, rfl, ⟨_, sqL_of (s2 _ _ LP)⟩, fun D2 hD2 => ?_⟩
    refine lc_list (xs := xs) (fun i H' => Same H2 H' ∧ H' D2 = some (.lst ((((paths p).take i).map (·.2)).map V.str))) ⟨same_new hD2, upd_same⟩ (fun i H' _ r => sqL_of (r.1 _ _ (s2 _ _ LP))) ?_ ?_
    · rintro i x H' hx ⟨sm, hd⟩
      obtain ⟨r, hr, a, t, rfl, S1, S2⟩ := pGet PP hx
      refine ⟨a, _, rfl, Q7.sqT_same (s2.trans sm) S1, rfl, _, _, rfl, _, _, rfl, rfl, rfl, ?_⟩
      refine ⟨_, rfl, _, hd, by simp only [List.length_map, List.length_take]; omega, same_mut sm hD2, ?_⟩
      rw [upd_same, List.take_succ, hr, List.map_append, List.map_append]
      rfl
    rintro H3 ⟨s3, hN⟩
    rw [xl, List.take_length] at hN
    refine ⟨D2, (paths p).map (·.2), rfl, sqL_of hN, by rw [List.length_map]; omega, fun D3 hD3 => ?_⟩
    have k3 := same_new (o := SetSO w D3 (addAll [] ((paths p).map (·.2)))) hD3
    refine ⟨D3, _, rfl, upd_same, by show (namesOf p).length < 64; omega, fun ys D4 pm so hD4 => ⟨_, _, rfl, ?_⟩⟩
    generalize hH4 : upd (upd H3 D3 _) D4 (.lst (ys.map V.str)) = H4
    have k34 : Same H3 H4 := by
      rw [← hH4]
      exact k3.trans (same_new hD4)
    have Y4 : H4 D4 = some (.lst (ys.map V.str)) := by
      rw [← hH4]
      exact upd_same
    clear hH4 k3
    have s24 := s3.trans k34
    have s04 := (s1.trans s2).trans s24
    have LP4 := (s2.trans s24) _ _ LP
    have PP4 := pImp (fun _ _ z => roadB_tk z (same_tb (s2.trans s24))) PP
    have D4' := s24 _ _ hD
    have PD4 := roadRs_same PD s24
    clear k34 s24 hN PP PD hD hD1 hD2 hD4 hD3 LP
    have ylen : ys.length ≤ 12 := by
      have h1 := pm.length_eq
      have h2 : (addAll [] ((paths p).map (·.2))).length = (namesOf p).length := rfl
      omega
    have shT : Shw (toldD ys p) := shw_told F.ok (by omega) sz dp (fun n hn => by
      have h := pm.mem_iff.mp hn
      rcases (addAll_mem _ _ _).mp h with h | h
      · cases h
      · obtain ⟨r, hr, rfl⟩ := List.mem_map.mp h
        obtain ⟨q, hq, e⟩ := List.mem_map.mp (road_name F.ok hr)
        rw [← e]
        exact F.g.nm q hq) ylen
    refine ⟨2, rfl, by decide, by decide, ?_⟩
    refine for_range (lo := 0) (n := (2 : Int).toNat) (fun i σ H' => Same H4 H' ∧ ∃ o9 o10 o11 : Option V, σ = [some (.ref b), some (.ref td), some v, some (.ref lp), some (.str (dPlan p).shown), none, none, some (.ref D1), some (.ref D4), o9, o10, o11, none, none, none, none, none]) ⟨Same.refl _, _, _, _, rfl⟩ ?_ ?_
    · rintro i σ H5 hi ⟨s5, o9, o10, o11, rfl⟩
      have F5 := F.same (s04.trans s5)
      refine ⟨_, rfl, _, rfl, td, v, p, ts, N, rfl, F5, fun y1 l1 H6 s6 n1 pm1 so1 L1 => ?_⟩
      rw [sorted_one so1 so (pm1.trans pm.symm)] at L1
      refine ⟨_, rfl, _, rfl, rfl, rfl, td, v, p, ts, N, rfl, F5.same s6, fun y2 l2 H7 s7 n2 pm2 so2 M2 => ?_⟩
      rw [sorted_one so2 so (pm2.trans pm.symm)] at M2
      refine ⟨_, rfl, _, rfl, td, v, p, ts, N, rfl, (F5.same s6).same s7, fun l3 zs3 H8 s8 n3 L3 P3 => ⟨three_le, fun l0 hl0 => ?_⟩⟩
      have k9 := same_new (o := .lst [.ref l1, .ref l2, .ref l3]) hl0
      have L0 := upd_same (H := H8) (a := l0) (o := .lst [.ref l1, .ref l2, .ref l3])
      have d1 : l1 ≠ l0 := fun e => by rw [e] at L1; rw [(s7.trans s8) _ _ L1] at hl0; cases hl0
      have d2 : l2 ≠ l0 := fun e => by rw [e] at M2; rw [s8 _ _ M2] at hl0; cases hl0
      have d3 : l3 ≠ l0 := fun e => by rw [e] at L3; rw [L3] at hl0; cases hl0
      have h40 : H4 l0 = none := none_same (((s5.trans s6).trans s7).trans s8) hl0
      generalize upd H8 l0 (.lst [.ref l1, .ref l2, .ref l3]) = H9 at *
      refine ⟨_, rfl, .inl ⟨rfl, _, sqL_of L0⟩, _, rfl, _, rfl, rfl, rfl, td, v, p, ts, N, rfl, ((F5.same s6).same s7).same (s8.trans k9), fun l4 zs4 HA sA n4 L4 P4 => ⟨l0, _, .ref l4, rfl, rfl, sA _ _ L0, by show 3 < sizeLine; decide, ?_⟩⟩
      have d4 : l4 ≠ l0 := fun e => by rw [e, L0] at n4; cases n4
      have h41 : H4 l1 = none := none_same s5 n1
      have h42 : H4 l2 = none := none_same (s5.trans s6) n2
      have h43 : H4 l3 = none := none_same ((s5.trans s6).trans s7) n3
      have s49 := (((s5.trans s6).trans s7).trans s8).trans k9
      have h44 : H4 l4 = none := none_same s49 n4
      have tb : TB HA (upd HA l0 (.lst ([.ref l1, .ref l2, .ref l3] ++ [.ref l4]))) := tb_lst (sA _ _ L0)
      have T0 := upd_same (H := HA) (a := l0) (o := .lst ([.ref l1, .ref l2, .ref l3] ++ [.ref l4]))
      have T1 : upd HA l0 (.lst ([.ref l1, .ref l2, .ref l3] ++ [.ref l4])) l1 = some (.lst (ys.map V.str)) := (upd_ne d1).trans (((s7.trans s8).trans (k9.trans sA)) _ _ L1)
      have T2 : upd HA l0 (.lst ([.ref l1, .ref l2, .ref l3] ++ [.ref l4])) l2 = some (.lst (ys.map V.str)) := (upd_ne d2).trans ((s8.trans (k9.trans sA)) _ _ M2)
      have T3 : upd HA l0 (.lst ([.ref l1, .ref l2, .ref l3] ++ [.ref l4])) l3 = some (.lst zs3) := (upd_ne d3).trans ((k9.trans sA) _ _ L3)
      have T4 : upd HA l0 (.lst ([.ref l1, .ref l2, .ref l3] ++ [.ref l4])) l4 = some (.lst zs4) := (upd_ne d4).trans L4
      have Q3 : Paired (RoadR (upd HA l0 (.lst ([.ref l1, .ref l2, .ref l3] ++ [.ref l4])))) zs3 (paths p) := pImp (fun _ _ ⟨t, e, z⟩ => ⟨t, e, tb.ex _ _ ((k9.trans sA) _ _ z)⟩) P3
      have Q4 : Paired (RoadR (upd HA l0 (.lst ([.ref l1, .ref l2, .ref l3] ++ [.ref l4])))) zs4 (paths p) := pImp (fun _ _ ⟨t, e, z⟩ => ⟨t, e, tb.ex _ _ z⟩) P4
      have sB : Same H4 (upd HA l0 (.lst ([.ref l1, .ref l2, .ref l3] ++ [.ref l4]))) := same_mut (s49.trans sA) h40
      generalize upd HA l0 (.lst ([.ref l1, .ref l2, .ref l3] ++ [.ref l4])) = HB at *
      refine ⟨_, rfl, .ref l0, toldD ys p, rfl, .lst (sqL_of T0) (.cons (.lst (sqL_of T1) (dpW_strs ys)) (.cons (.lst (sqL_of T2) (dpW_strs ys)) (.cons (.lst (sqL_of T3) (dpW_roads Q3)) (.cons (.lst (sqL_of T4) (dpW_roads Q4)) .nil)))), shT, ?_⟩
      refine ⟨_, rfl, _, rfl, _, rfl, _, rfl, four_le, fun m hm => ?_⟩
      have kC := same_new (o := .lst [.ref D4, .ref D4, .ref D1, .ref D1]) hm
      have MC := upd_same (H := HB) (a := m) (o := .lst [.ref D4, .ref D4, .ref D1, .ref D1])
      generalize upd HB m (.lst [.ref D4, .ref D4, .ref D1, .ref D1]) = HC at *
      have sC := sB.trans kC
      have PDC := roadRs_same PD4 sC
      refine ⟨.ref m, toldD ys p, rfl, .lst (sqL_of MC) (.cons (.lst (sqL_of (sC _ _ Y4)) (dpW_strs ys)) (.cons (.lst (sqL_of (sC _ _ Y4)) (dpW_strs ys)) (.cons (.lst (sqL_of (sC _ _ D4')) (dpW_roads PDC)) (.cons (.lst (sqL_of (sC _ _ D4')) (dpW_roads PDC)) .nil)))), shT, rfl, _, rfl, iteE (by simp) ?_⟩
      refine ⟨_, rfl, l0, rfl, ⟨_, sqL_of (kC _ _ T0)⟩, ?_⟩
      have z3 : zs3.length ≤ 400 := by rw [pLen P3]; exact pf
      have z4 : zs4.length ≤ 400 := by rw [pLen P4]; exact pf
      have yl : (ys.map V.str).length ≤ 400 := by rw [List.length_map]; omega
      refine for_list (xs := [V.ref l1, .ref l2, .ref l3] ++ [.ref l4]) (fun j σ H' => Same H4 H' ∧ H' l0 = some (.lst ([.ref l1, .ref l2, .ref l3] ++ [.ref l4])) ∧ (∀ l ∈ [l1, l2, l3, l4], ∃ us, H' l = some (.lst us) ∧ us.length ≤ 400 + j) ∧
        ∃ o11 : Option V, σ = [some (.ref b), some (.ref td), some v, some (.ref lp), some (.str (dPlan p).shown), none, none, some (.ref D1), some (.ref D4), some (.int (0 + (i : Int))), some (.ref l0), o11, none, none, none, none, none]) ⟨sC, kC _ _ T0, fun l hl => ?_, _, rfl⟩ (fun j σ H' _ r => sqL_of r.2.1) ?_ ?_
      · simp only [List.mem_cons, List.not_mem_nil, or_false] at hl
        rcases hl with rfl | rfl | rfl | rfl
        · exact ⟨_, kC _ _ T1, yl⟩
        · exact ⟨_, kC _ _ T2, yl⟩
        · exact ⟨_, kC _ _ T3, z3⟩
        · exact ⟨_, kC _ _ T4, z4⟩
      · rintro j x σ H' hx ⟨sm, h0, hl, o11', rfl⟩
        have hj := (List.getElem?_eq_some_iff.mp hx).1
        obtain ⟨l, hlm, rfl, dl, hn⟩ : ∃ l ∈ [l1, l2, l3, l4], x = .ref l ∧ l ≠ l0 ∧ H4 l = none := by
          have hm := List.mem_of_getElem? hx
          simp only [List.cons_append, List.nil_append, List.mem_cons, List.not_mem_nil, or_false] at hm
          rcases hm with rfl | rfl | rfl | rfl
          · exact ⟨l1, by simp, rfl, d1, h41⟩
          · exact ⟨l2, by simp, rfl, d2, h42⟩
          · exact ⟨l3, by simp, rfl, d3, h43⟩
          · exact ⟨l4, by simp, rfl, d4, h44⟩
        obtain ⟨us, hu, ul⟩ := hl l hlm
        refine ⟨_, rfl, .inl ⟨rfl, _, sqL_of hu⟩, l, us, .non, rfl, rfl, hu, ?_, same_mut sm hn, (upd_ne dl.symm).trans h0, fun l' hl' => ?_, _, rfl⟩
        · have : j < 4 := hj
          have : 500 < sizeLine := by decide
          omega
        · by_cases e : l' = l
          · exact ⟨us ++ [.non], by rw [e]; exact upd_same, by rw [List.length_append]; show us.length + 1 ≤ _; omega⟩
          · obtain ⟨us', hu', ul'⟩ := hl l' hl'
            exact ⟨us', (upd_ne e).trans hu', by omega⟩
      · rintro σ H' ⟨sm, _, _, o11', rfl⟩
        exact ⟨sm, _, _, _, rfl⟩
    · rintro σ H5 ⟨s5, o9, o10, o11, rfl⟩
      have s05 := s04.trans s5
      obtain ⟨ps, rs, exs, PE, all⟩ := roads_ents (pImp (fun _ _ z => roadB_tk z (same_tb s5)) PP4)
      refine ⟨_, rfl, lp, ps, rs, rfl, by rw [← exs]; exact sqL_of (s5 _ _ LP4), PE, fun pd hpd => ?_⟩
      rw [show allPut [] rs = dictR (paths p) from all []]
      have k6 := same_new (o := .dT (dictR (paths p))) hpd
      have DD := upd_same (H := H5) (a := pd) (o := .dT (dictR (paths p)))
      generalize upd H5 pd (.dT (dictR (paths p))) = H6 at *
      have s46 := s5.trans k6
      refine ⟨_, rfl, D1, rfl, ⟨_, sqL_of (s46 _ _ D4')⟩, fun tx htx => ?_⟩
      have zl := pLen PD4
      refine lc_list (xs := zs) (fun i H' => Same H6 H' ∧ H' tx = some (.lst ((((paths p).take i).map fun r => textR r.1).map V.str))) ⟨same_new htx, upd_same⟩ (fun i H' _ r => sqL_of (r.1 _ _ (s46 _ _ D4'))) ?_ ?_
      · rintro i x H' hx ⟨sm, hd⟩
        obtain ⟨r, hr, t, rfl, S2⟩ := pGet PD4 hx
        have hrm := List.mem_of_getElem? hr
        have rl := road_len hrm
        refine ⟨rfl, _, rfl, .ref t, .tuple (r.1.map PyData.int), rfl, .tup (sqT_of ((s46.trans sm) _ _ S2)) (dpW_ints _), shw_road (road_small F.ok (by omega) hrm) (by omega), ?_⟩
        refine ⟨_, hd, by simp only [List.length_map, List.length_take]; omega, same_mut sm htx, ?_⟩
        rw [upd_same, List.take_succ, hr, List.map_append, List.map_append]
        rfl
      rintro H7 ⟨s7, hT⟩
      rw [zl, List.take_length] at hT
      refine ⟨_, _, rfl, ?_⟩
      have s07 := s05.trans (k6.trans s7)
      have D0 := (Dr.start hs).same s07
      have FB7 := FB.same hs s07
      have LP7 := (s46.trans s7) _ _ LP4
      have PP7 := pImp (fun _ _ z => roadB_tk z (same_tb (s46.trans s7))) PP4
      have DD7 := s7 _ _ DD
      have nlpb : lp ≠ b := n_ne hs nlp
      have npdb : pd ≠ b := n_ne (show SrcAt H5 b c0 c1 c2 from s05 _ _ hs) hpd
      have ntxb : tx ≠ b := n_ne (show SrcAt H6 b c0 c1 c2 from (s05.trans k6) _ _ hs) htx
      have xl4 := pLen PP4
      clear PP4 LP4 D4' PD4 Y4 shT ps exs PE all
      refine ⟨_, rfl, lp, xs, rfl, .inl (sqL_of LP7), _, _, rfl, _, rfl, ?_⟩
      have kp : Kept K H0 b H c1 c2 0 td v ts p lp pd tx xs H7 c0 c2 := ⟨D0, FB7, LP7, PP7, DD7, hT, nlpb, npdb, ntxb⟩
      clear D0 FB7 LP7 PP7 DD7 hT
      refine ⟨by split <;> omega, by split <;> omega, ?_⟩
      refine for_range (lo := 0) (n := (if (xs.length : Int) < 5 then (xs.length : Int) else 5).toNat) (fun i σ H' => ∃ x y, Kept K H0 b H c1 c2 (7 * (i : Int)) td v ts p lp pd tx xs H' x y ∧ ∃ o4 o5 o6 o7 o8 o9 o10 o11 o14 o15 o16 : Option V,
        σ = [some (.ref b), some (.ref td), some v, some (.ref lp), o4, o5, o6, o7, o8, o9, o10, o11, some (.ref pd), some (.ref tx), o14, o15, o16]) ⟨c0, c2, by rw [show (7 * ((0 : Nat) : Int)) = 0 from rfl]; exact kp, _, _, _, _, _, _, _, _, _, _, _, rfl⟩ ?_ ?_
      · rintro i σ H8 hi ⟨x, y, kp, o4, o5, o6, o7, o8, o9, o10, o11, o14, o15, o16, rfl⟩
        have hx1 : 1 ≤ xs.length ∧ i < 5 := by
          split at hi <;> omega
        have y1 := kp.dr.lo; have y2 := kp.dr.hi
        refine ⟨_, rfl, _, rfl, ⟨_, rfl, lp, xs, rfl, .inl (sqL_of kp.hl), b, x, c1, y, _, rfl, kp.dr.sr, by omega, by omega, e1, by omega, ?_, fun r x' y' r0 r1 q0 q1 => ?_⟩⟩
        · have : xs.length ≤ 400 := by omega
          exact Nat.lt_of_lt_of_le (show ((xs.length : Int)).natAbs < 2 ^ 10 by omega) (pow_le' (by decide))
        have kq := kp.draw (u := x') q0 q1
        generalize upd H8 b (.lst [.int x', .int c1, .int y']) = H9 at *
        clear kp
        obtain ⟨w1, hw1, mw⟩ := at_mem (l := xs) r0 r1
        obtain ⟨jx, hjx⟩ := List.getElem?_of_mem mw
        obtain ⟨rd, hrd, a, t, rfl, S1, S2⟩ := pGet kq.pp hjx
        have hrm := List.mem_of_getElem? hrd
        refine ⟨lp, xs, _, _, rfl, rfl, sqL_of kq.hl, hw1, ?_⟩
        refine ⟨a, _, rfl, S1, rfl, _, _, rfl, _, _, rfl, rfl, ?_⟩
        obtain ⟨N9, F9⟩ := kq.fb.fit
        refine ⟨_, rfl, _, rfl, _, rfl, td, v, t, p, ts, N9, rd, rfl, F9, S2, hrm, fun HA sA => ⟨_, rfl, rfl, _, rfl, iteE (by simp) ?_⟩⟩
        refine ⟨_, rfl, _, rfl, _, rfl, rfl, rfl, td, v, t, p, ts, N9, rd, rfl, F9.same sA, sA _ _ S2, hrm, fun HB sB => ⟨_, rfl, rfl, _, rfl, iteE (by simp) ?_⟩⟩
        have kB := kq.same (sA.trans sB)
        have S2B := (sA.trans sB) _ _ S2
        clear kq F9 S2 S1
        generalize HB = HB at *
        have y3 := kB.dr.lo; have y4 := kB.dr.hi
        have rl := road_len hrm
        refine ⟨_, rfl, _, rfl, b, x', c1, y', t, rd.1, rfl, kB.dr.sr, by omega, by omega, e1, S2B, by omega, road_small F.ok (by omega) hrm, fun ln vs u0 u2 HC Dc nln LN oth vlen => ⟨ln, rfl, ⟨_, sqL_of LN⟩, ?_⟩⟩
        have kC := kB.then Dc
        clear kB S2B
        refine for_list (xs := vs) (fun j σ H' => Same HC H' ∧ ∃ o15 o16 : Option V, σ = [some (.ref b), some (.ref td), some v, some (.ref lp), o4, some (.ref t), some (.str rd.2), o7, o8, o9, o10, o11, some (.ref pd), some (.ref tx), some (.int (0 + (i : Int))), o15, o16]) ⟨Same.refl _, _, _, rfl⟩ (fun j σ H' _ r => sqL_of (r.1 _ _ LN)) ?_ ?_
        · rintro j w σ HD hw ⟨sD, o15', o16', rfl⟩
          have kD := kC.same sD
          obtain ⟨o, sn⟩ := seen_of (othD_same sD (oth _ (List.mem_of_getElem? hw)))
          obtain ⟨ND, FD⟩ := kD.fb.fit
          cases sn with
          | other k ne =>
            obtain ⟨ty, mem⟩ := id k
            have kt := T.kit _ mem
            refine ⟨_, rfl, _, _, _, _, _, rfl, .ty _, ty, kt.tup, _, rfl, iteE (by simpa using ne) ?_⟩
            refine ⟨_, rfl, _, rfl, _, rfl, td, v, w, p, ts, ND, none, rfl, FD, .kind k ne, .inr ⟨fun r _ e => (by cases e), fun l HE sE nl L => ?_⟩⟩
            refine ⟨_, rfl, _, rfl, iteE rfl ⟨one_le, fun l2 hl2 => ?_⟩⟩
            have k2 := same_new (o := .lst [.str "path"]) hl2
            refine ⟨.list [.str "path"], .list [.str "path"], .lst (sqL_of (k2 _ _ L)) (.cons (.str _) .nil), .lst (sqL_of upd_same) (.cons (.str _) .nil), by decide +kernel, by decide +kernel, _, rfl, iteE (by decide +kernel) ?_⟩
            exact ⟨(sD.trans sE).trans k2, _, _, rfl⟩
          | @tup a9 d9 o k pv dw sh iff =>
            obtain ⟨ty, mem⟩ := id k
            have kt := T.kit _ mem
            have iff9 := iff ((paths p).map (·.1)) fun ks hk => by
              obtain ⟨r, hr, rfl⟩ := List.mem_map.mp hk
              exact fun k hk => (road_small F.ok (by omega) hr k hk).1
            rw [List.map_map] at iff9
            refine ⟨_, rfl, _, _, _, _, _, rfl, .ty _, ty, kt.tup, _, rfl, iteT' rfl ?_⟩
            refine ⟨_, rfl, .ref a9, d9, rfl, dw, sh, _, rfl, tx, _, rfl, .inl (sqL_of kD.ht), rfl, all_flat _, ?_⟩
            have e9 : inV (V.str d9.shown) (((paths p).map fun r => textR r.1).map V.str) = decide (∃ r ∈ paths p, o = some r.1) := by
              rw [inV_strs]
              refine decide_eq_decide.mpr (iff9.trans ⟨fun ⟨ks, h, e⟩ => ?_, fun ⟨r, h, e⟩ => ⟨r.1, List.mem_map.mpr ⟨r, h, rfl⟩, e⟩⟩)
              obtain ⟨r, hr, rfl⟩ := List.mem_map.mp h
              exact ⟨r, hr, e⟩
            rw [if_neg (by simp), e9]
            by_cases hin : ∃ r ∈ paths p, o = some r.1
            · rw [decide_eq_true hin]
              obtain ⟨r, hr, rfl⟩ := hin
              refine ⟨_, rfl, _, rfl, _, rfl, td, v, .ref a9, p, ts, ND, some r.1, rfl, FD, pv, .inl ⟨r, hr, rfl, fun HE sE => ?_⟩⟩
              have ha9 : HD a9 = some (.tup (r.1.map V.int)) := by
                cases pv with
                | road e => exact e
              have dg : DGet HE pd (.ref a9) (some (.str r.2)) := by
                rw [← dictR_at (paths_once p) hr]
                exact .t (sE _ _ kD.hd) (by rw [keyR_kV]; exact sE _ _ ha9)
              refine ⟨_, rfl, _, rfl, iteT' rfl ⟨_, rfl, _, rfl, pd, _, rfl, dg, ?_⟩⟩
              refine ⟨.str r.2, .str r.2, .str _, .str _, shaped_name (road_good F.g F.ok hr), shaped_name (road_good F.g F.ok hr), _, rfl, iteE (by simp [PyData.eqv]) ?_⟩
              exact ⟨sD.trans sE, _, _, rfl⟩
            · rw [decide_eq_false hin]
              refine ⟨_, rfl, _, rfl, _, rfl, td, v, .ref a9, p, ts, ND, o, rfl, FD, pv, .inr ⟨fun r hr e => hin ⟨r, hr, e⟩, fun l HE sE nl L => ?_⟩⟩
              refine ⟨_, rfl, _, rfl, iteE rfl ⟨one_le, fun l2 hl2 => ?_⟩⟩
              have k2 := same_new (o := .lst [.str "path"]) hl2
              refine ⟨.list [.str "path"], .list [.str "path"], .lst (sqL_of (k2 _ _ L)) (.cons (.str _) .nil), .lst (sqL_of upd_same) (.cons (.str _) .nil), by decide +kernel, by decide +kernel, _, rfl, iteE (by decide +kernel) ?_⟩
              exact ⟨(sD.trans sE).trans k2, _, _, rfl⟩
        · rintro σ HD ⟨sD, o15', o16', rfl⟩
          exact ⟨_, _, by rw [show (7 * ((i + 1 : Nat) : Int)) = 7 * (i : Int) + 1 + 6 by push_cast; omega]; exact kC.same sD, _, _, _, _, _, _, _, _, _, _, _, rfl⟩
      · rintro σ H8 ⟨x, y, kp, o4, o5, o6, o7, o8, o9, o10, o11, o14, o15, o16, rfl⟩
        obtain ⟨N8, F8⟩ := kp.fb.fit
        have kz := kp.dr
        have fin : ∀ H', Same H8 H' → Q (.bl true) H' := fun H' sm => hQ H' x y ((kz.same sm).mono (by split <;> omega))
        refine ⟨_, rfl, Nat.zero_le _, fun e0 he0 => ?_⟩
        have k1 := same_new (o := .lst []) he0
        have E1 := upd_same (H := H8) (a := e0) (o := .lst [])
        refine ⟨.list ((paths p).map pairD), .list [], .lst (sqL_of (k1 _ _ kp.hl)) (dp_pairs (pImp (fun _ _ z => roadB_tk z (same_tb k1)) kp.pp)), .lst (sqL_of E1) .nil, shaped_pairs fun r hr => road_good F.g F.ok hr, by decide +kernel, _, rfl, ?_⟩
        generalize upd H8 e0 (.lst []) = H9 at *
        cases hp : paths p with
        | cons r l => exact iteT' (by simp [PyData.eqv, PyData.eqvAll]) (fin _ k1)
        | nil =>
          refine iteE (by simp [PyData.eqv, PyData.eqvAll]) ?_
          refine ⟨_, rfl, _, rfl, Nat.zero_le _, fun e2 he2 => ?_⟩
          have k2 := same_new (o := .tup []) he2
          have E2 := upd_same (H := H9) (a := e2) (o := .tup [])
          generalize upd H9 e2 (.tup []) = HX at *
          have k12 := k1.trans k2
          refine ⟨td, v, .ref e2, p, ts, N8, some [], rfl, F8.same k12, .road (ks := []) E2 (by decide), .inr ⟨fun r hr e => (by rw [hp] at hr; cases hr), fun l HE sE nl L => ⟨one_le, fun l2 hl2 => ?_⟩⟩⟩
          have k3 := same_new (o := .lst [.str "path"]) hl2
          refine ⟨.list [.str "path"], .list [.str "path"], .lst (sqL_of (k3 _ _ L)) (.cons (.str _) .nil), .lst (sqL_of upd_same) (.cons (.str _) .nil), by decide +kernel, by decide +kernel, ?_⟩
          rw [show PyData.eqv (.list [.str "path"]) (.list [.str "path"]) = true by decide +kernel]
          exact fin _ ((k12.trans sE).trans k3)
end
end L10
set_option maxRecDepth 100000
set_option maxHeartbeats 4000000
namespace L10
open PySem PySem.Spec PyProof.Rows L2 Q7
section
variable {P : Program} {w : World} {K : PySem.W.Frag} {mg : Str → Option Value} {base : Heap}
/-! ### a lap -/
theorem good_names {ts : List (Str × TaskD)} (g : GoodTs ts) : ∀ n ∈ ts.map (·.1), GoodN n := fun n h => by
  obtain ⟨t, ht, rfl⟩ := List.mem_map.mp h
  exact g.nm t ht
def spHolds (K : PySem.W.Frag) : Sp := fun vs H Q _ => ∃ bs s0 s1 s2, vs = [.ref bs] ∧ SrcAt H bs s0 s1 s2 ∧ 0 ≤ s2 ∧ s2 < 2 ^ 33 ∧ s1.natAbs < 2 ^ 150 ∧ ∀ H', Sb bs H H' → Q (.bl true) H'
theorem ok__law_holds (T : Txt w K mg) : FnG P w K mg base 23 (He.ga K "_law_holds") T.fd__law_holds ["source"] (spHolds K) := by
  refine okG T.F__law_holds sc__law_holds (fun vs H Q E h => ?_) (fun cdv A outer s H vs Q E g hr h => ⟨_, PSs.nox
    (pss_cons (ps_for PassesOwn.never rfl (pi_range1 (by rfl) T.m_range (pa_cons pe_int pa_nil)) (pg_name (i := 1) sc__law_holds.nd rfl (.inl rfl)) (pss_cons (ps_set (i := 2) sc__law_holds.nd rfl (.inl rfl) (pe_call (ok__law_tasks T) (hr.mono (by decide)) (by rfl) T.g__law_tasks T.F__law_tasks.kp T.b__law_tasks .nil pass0 (pa_cons (pv 0) pa_nil)))
      (pss_cons (ps_set (i := 3) sc__law_holds.nd rfl (.inl rfl) (pe_call (ok__law_drawn T) (hr.mono (by decide)) (by rfl) T.g__law_drawn T.F__law_drawn.kp T.b__law_drawn .nil pass0 (pa_cons (pv 0) (pa_cons (pe_callB (call_sortedD rfl) (by rfl) T.m_sorted (by decide +kernel) (pa_cons (pv 2) pa_nil)) (pa_cons (pe_ix ix_list (pe_lst (pa_cons pe_int (pa_cons pe_int (pa_cons pe_int pa_nil)))) (pe_call (ok__law_draw T) (hr.mono (by decide)) (by rfl) T.g__law_draw T.F__law_draw.kp T.b__law_draw .nil pass0 (pa_cons (pv 0) (pa_cons pe_int pa_nil))) (fun _ _ => rfl)) pa_nil)))))
      (pss_cons (ps_set (i := 4) sc__law_holds.nd rfl (.inl rfl) (pe_callB (call_reprW T.sys g (un70 hr)) (by rfl) T.m_repr (by decide +kernel) (pa_cons (pe_lst (pa_cons (pv 2) (pa_cons (pv 3) pa_nil))) pa_nil)))
      (pss_one (ps_if (PW.pt (pw_or (PW.pt (pw_and (pt_cmpR op_eq (pe_call (ok__law_excess T) (hr.mono (by decide)) (by rfl) T.g__law_excess T.F__law_excess.kp T.b__law_excess .nil pass0 (pa_cons (pv 2) (pa_cons (pv 3) pa_nil))) pe_int (nomark _)) (pw_and1 (pt_not (pt_val (pe_callG (ok__law_right T) (hr.mono (by decide)) g (by rfl) T.g__law_right T.F__law_right.kp T.b__law_right (pa_cons (pv 0) (pa_cons (pv 2) (pa_cons (pv 3) pa_nil))))))))) (pw_or1 (pt_cmpR op_ne (pe_callB (call_reprW T.sys g (un70 hr)) (by rfl) T.m_repr (by decide +kernel) (pa_cons (pe_lst (pa_cons (pv 2) (pa_cons (pv 3) pa_nil))) pa_nil)) (pv 4) (nomark _))))) (pss_one (ps_ret pe_bl)) pss_nil))))))
      (pss_one (ps_ret pe_bl))), ?_⟩)
  · obtain ⟨bs, s0, s1, s2, rfl, _⟩ := h
    rfl
  · obtain ⟨b, s0, s1, s2, rfl, hs, d0, d1, e1, hQ⟩ := h
    have l64 := line64
    refine ⟨_, rfl, by decide, by decide, ?_⟩
    refine for_range (lo := 0) (n := (2 : Int).toNat) (fun i σ H' => ∃ t0 t2, Dr b s1 s2 (2000 * (i : Int)) H H' t0 t2 ∧ ∃ o1 o2 o3 o4, σ = [some (.ref b), o1, o2, o3, o4]) ⟨s0, s2, (Dr.start hs).mono (by omega), _, _, _, _, rfl⟩ ?_ ?_
    · rintro i σ H1 hi8' ⟨t0, t2, D1, o1, o2, o3, o4, rfl⟩
      have hi8 : i < 2 := hi8'
      have q0 := D1.lo; have q0' := D1.hi
      refine ⟨_, rfl, b, t0, s1, t2, rfl, D1.sr, by omega, by omega, e1, fun d kvs ts u4 u5 G1 Dc2 hd0 hd B gT => ?_⟩
      have D3 := D1.then Dc2
      have q6 := D3.lo; have q7 := D3.hi
      have ne_hd : d ≠ b := n_ne D1.sr hd0
      have g1 := gT.l1
      have g0 := gT.l0
      refine ⟨_, rfl, _, rfl, d, kvs, ts.map (·.1), rfl, .inl hd, tsP_keys B.p, by rw [List.length_map]; omega, fun ys nm hp hys hnm => ?_⟩
      have yl : ys.length = ts.length := by rw [hp.length_eq, List.length_map]
      have ne_NM := n_ne D3.sr hnm
      have k9 := same_new (o := .lst (ys.map V.str)) hnm
      have NM := upd_same (H := G1) (a := nm) (o := .lst (ys.map V.str))
      replace hd := k9 _ _ hd
      replace B := B.sb D3.sr (Sb.of k9)
      have D10 := D3.same k9
      generalize upd G1 nm (.lst (ys.map V.str)) = G8 at *
      clear D3
      refine ⟨three_le, fun l1 hl1 => ?_⟩
      have ne_L1 := n_ne D10.sr hl1
      have k12 := same_new (o := .lst [.int 2, .int 3, .int 20]) hl1
      have L1 := upd_same (H := G8) (a := l1) (o := .lst [.int 2, .int 3, .int 20])
      replace hd := k12 _ _ hd
      replace B := B.sb D10.sr (Sb.of k12)
      replace NM := k12 _ _ NM
      have D13 := D10.same k12
      generalize upd G8 l1 (.lst [.int 2, .int 3, .int 20]) = G11 at *
      clear D10
      refine ⟨_, rfl, b, u4, s1, u5, 3, rfl, D13.sr, by omega, by omega, e1, by decide, by decide, fun r14 x15 x16 h17 h18 h19 h20 => ?_⟩
      obtain ⟨tries, htr, tr0, tr1⟩ : ∃ t : Int, atI [V.int 2, V.int 3, V.int 20] r14 = some (.int t) ∧ 1 ≤ t ∧ t ≤ 20 := by
        rcases pick3 (x := V.int 2) (y := V.int 3) (z := V.int 20) h17 h18 with h | h | h
        · exact ⟨2, h, by decide, by decide⟩
        · exact ⟨3, h, by decide, by decide⟩
        · exact ⟨20, h, by decide, by decide⟩
      replace hd := kept (u := .lst [.int x15, .int s1, .int x16]) D13.sr hd ne_hd
      replace B := B.sb D13.sr (Sb.upd (o := .lst [.int x15, .int s1, .int x16]))
      replace NM := kept (u := .lst [.int x15, .int s1, .int x16]) D13.sr NM ne_NM
      replace L1 := kept (u := .lst [.int x15, .int s1, .int x16]) D13.sr L1 ne_L1
      have D22 := D13.draw (r0 := x15) h19 h20
      generalize upd G11 b (.lst [.int x15, .int s1, .int x16]) = G21 at *
      have q23 := D22.lo; have q24 := D22.hi
      clear D13
      refine ⟨l1, _, _, _, rfl, rfl, sqL_of L1, htr, ?_⟩
      clear L1
      refine ⟨b, x15, s1, x16, nm, ys, tries, rfl, D22.sr, by omega, by omega, e1, NM, by omega, by omega, tr0, tr1, fun v p u28 u29 G25 Dc26 PN okp cp dp => ?_⟩
      replace hd := Dc26.sb _ _ hd ne_hd
      replace B := B.sb D22.sr Dc26.sb
      replace NM := Dc26.sb _ _ NM ne_NM
      have D27 := D22.then Dc26
      have q30 := D27.lo; have q31 := D27.hi
      have P := B.p
      have PV := PN.pv
      have ok : p.ok (ts.map (·.1)) := ok_mono (fun n hn => hp.mem_iff.mp hn) okp
      have hn := good_names gT
      have cp' : p.count ≤ 40 := by omega
      have dp' : p.deep ≤ 8 := by omega
      have TX : TasksV K G25 d ts := ⟨kvs, hd, P⟩
      have shB := shw_both gT ok cp' dp'
      refine ⟨_, rfl, _, rfl, two_le, fun l2 hl2 => ?_⟩
      have k1 := same_new (o := .lst [.ref d, v]) hl2
      refine ⟨.ref l2, .list [.dict (dTasks ts), dPlan p], rfl, .lst (sqL_of upd_same) (.cons (.dct (k1 _ _ hd) (dpW_tasks (tsP_same P k1))) (.cons (dpW_plan (planV_same PV k1)) .nil)), shB, ?_⟩
      generalize upd G25 l2 (.lst [.ref d, v]) = Hb at *
      have last : ∀ (H8 : Hp) (w0 w2 : Int) (n : Int), Dr b s1 s2 n H H8 w0 w2 → n ≤ 2000 * ((i + 1 : Nat) : Int) → H8 d = some (.dK kvs) → TsB K H8 b kvs ts → (∃ N, PlanV K H8 N v p) →
          ∀ (l3 : Addr), H8 l3 = none → DpW K (upd H8 l3 (.lst [.ref d, v])) (.ref l3) (.list [.dict (dTasks ts), dPlan p]) ∧ (∃ t0 t2, Dr b s1 s2 (2000 * ((i + 1 : Nat) : Int)) H (upd H8 l3 (.lst [.ref d, v])) t0 t2) := by
        intro H8 w0 w2 n dr hn8 h8 b8 ⟨N, p8⟩ l3 hl3
        have k3 := same_new (o := .lst [.ref d, v]) hl3
        exact ⟨.lst (sqL_of upd_same) (.cons (.dct (k3 _ _ h8) (dpW_tasks (tsP_same b8.p k3))) (.cons (dpW_plan (planV_same p8 k3)) .nil)), _, _, (dr.same k3).mono hn8⟩
      have Db := D27.same k1
      refine ⟨_, rfl, _, rfl, d, v, p, _, G25, ts, rfl, k1, TX, gT, PV, ok, cp', dp', fun e H7 s7 he => ⟨rfl, _, rfl, ?_⟩⟩
      have D7 := Db.same s7
      have B7 := B.sb D27.sr (Sb.of (k1.trans s7))
      have hd7 := (k1.trans s7) _ _ hd
      have PN7 := PN.same (k1.trans s7)
      by_cases e0 : e = 0
      · refine iteT' (decide_eq_true (by rw [e0])) ?_
        obtain ⟨hz1, hz2⟩ := he e0
        refine ⟨_, rfl, _, rfl, _, rfl, b, u28, s1, u29, d, v, p, ts, rfl, D7.sr, by omega, by omega, e1, ⟨_, ⟨⟨kvs, hd7, B7⟩, ne_hd, gT, PN7, ok, cp', dp', hz1, hz2⟩⟩, fun H8 w0 w2 D8 => ?_⟩
        have D9 := D7.then D8
        refine ⟨_, rfl, iteF ?_⟩
        refine ⟨_, rfl, _, rfl, two_le, fun l3 hl3 => ?_⟩
        obtain ⟨dp3, x0, x2, dr3⟩ := last H8 w0 w2 _ D9 (by push_cast; omega) (D8.sb _ _ hd7 ne_hd) (B7.sb D7.sr D8.sb) ⟨_, (PN7.sb D7.sr D8.sb).pv⟩ l3 hl3
        refine ⟨.ref l3, _, rfl, dp3, shB, _, rfl, rfl, _, rfl, iteE (by simp) ?_⟩
        exact ⟨x0, x2, dr3, _, _, _, _, rfl⟩
      · refine iteE (decide_eq_false (by simpa using e0)) ?_
        refine ⟨_, rfl, _, rfl, two_le, fun l3 hl3 => ?_⟩
        obtain ⟨dp3, x0, x2, dr3⟩ := last H7 _ _ _ D7 (by push_cast; omega) hd7 B7 ⟨_, PN7.pv⟩ l3 hl3
        refine ⟨.ref l3, _, rfl, dp3, shB, _, rfl, rfl, _, rfl, iteE (by simp) ?_⟩
        exact ⟨x0, x2, dr3, _, _, _, _, rfl⟩
    · rintro σ H1 ⟨t0, t2, D, o1, o2, o3, o4, rfl⟩
      exact hQ H1 D.sb
end
end L10
set_option maxRecDepth 100000
set_option maxHeartbeats 4000000
namespace L10
open PySem PySem.Spec PyProof.Rows L2 Q7
section
variable {P : Program} {w : World} {K : PySem.W.Frag} {mg : Str → Option Value} {base : Heap}
/-! ### the law -/
def spLaw (K : PySem.W.Frag) : Sp := fun vs H Q _ => ∃ (a : Addr) (ns : List Int), vs = [.ref a] ∧ SqL K H a (ns.map V.int) ∧ ns.length ≤ 63 ∧ ∀ H', Q (.bl true) H'
theorem cut_ints (ns : List Int) (lo hi : Option Int) : ∃ ms : List Int, cutV (ns.map V.int) lo hi = ms.map V.int ∧ (∀ t ∈ ms, t ∈ ns) ∧ ms.length ≤ ns.length := by
  unfold cutV
  refine ⟨(ns.drop (HT.sIx (ns.map V.int).length 0 lo)).take (HT.sIx (ns.map V.int).length (ns.map V.int).length hi - HT.sIx (ns.map V.int).length 0 lo), ?_, ?_, ?_⟩
  · rw [List.map_take, List.map_drop]
  · intro t ht
    exact List.mem_of_mem_drop (List.mem_of_mem_take ht)
  · rw [List.length_take, List.length_drop]
    omega
theorem ok_law (T : Txt w K mg) : FnG P w K mg base 24 (He.ga K "law") T.fd_law ["script"] (spLaw K) := by
  refine okG T.F_law sc_law (fun vs H Q E h => ?_) (fun cdv A outer s H vs Q E g hr h => ⟨_, PSs.nox
    (pss_cons (ps_for PassesOwn.never rfl (pi_enum (by rfl) T.m_enumerate (pa_cons (pe_slice sl_list (pe_op op_catS (pv 0) (pe_lst (pa_cons pe_int pa_nil))) po_none (po_some (pe_callB (call_max2 rfl) (by rfl) T.m_max (by decide +kernel) (pa_cons pe_int (pa_cons (pe_callB (call_min2 rfl) (by rfl) T.m_min (by decide +kernel) (pa_cons (pe_callB call_len_seq (by rfl) T.m_len (by decide +kernel) (pa_cons (pv 0) pa_nil)) (pa_cons pe_int pa_nil))) pa_nil))))) pa_nil)) (pg_tup rfl (pgs_cons (pg_name (i := 1) sc_law.nd rfl (.inl rfl)) (pgs_cons (pg_name (i := 2) sc_law.nd rfl (.inl rfl)) pgs_nil))) (pss_one (ps_if (pt_not (pt_val (pe_callG (ok__law_holds T) (hr.mono (by decide)) g (by rfl) T.g__law_holds T.F__law_holds.kp T.b__law_holds (pa_cons (pe_call (ok__law_source T) (hr.mono (by decide)) (by rfl) T.g__law_source T.F__law_source.kp T.b__law_source .nil pass0 (pa_cons (pv 2) (pa_cons (pv 1) pa_nil))) pa_nil)))) (pss_one (ps_ret pe_bl)) pss_nil)))
      (pss_one (ps_ret pe_bl))), ?_⟩)
  · obtain ⟨a, ns, rfl, _⟩ := h
    rfl
  · obtain ⟨a, ns, rfl, S, hl, hQ⟩ := h
    have l64 := line64
    refine ⟨_, rfl, one_le, fun z hz => ?_⟩
    have s1 := same_new (o := .lst [.int 0]) hz
    refine ⟨a, z, _, _, rfl, rfl, Q7.sqL_same s1 S, sqL_of upd_same, by rw [List.length_map]; show _ + 1 ≤ _; omega, fun p hp => ?_⟩
    have s2 := s1.trans (same_new (o := .lst (ns.map V.int ++ [.int 0])) hp)
    refine ⟨_, rfl, a, _, rfl, .inl (Q7.sqL_same s2 S), _, _, rfl, _, _, rfl, ?_⟩
    obtain ⟨cs, hcs, _, hcl⟩ := cut_ints (ns ++ [0]) none (some (if (if (6 : Int) < ((ns.map V.int).length : Int) then (6 : Int) else ((ns.map V.int).length : Int)) > 1 then (if (6 : Int) < ((ns.map V.int).length : Int) then (6 : Int) else ((ns.map V.int).length : Int)) else 1))
    refine ⟨_, rfl, p, _, rfl, sqL_of upd_same, fun m hm => ?_⟩
    have hm2 := upd_same (H := upd (upd H z (.lst [.int 0])) p (.lst (ns.map V.int ++ [.int 0]))) (a := m) (o := .lst (cs.map V.int))
    rw [show ns.map V.int ++ [V.int 0] = (ns ++ [0]).map V.int by rw [List.map_append]; rfl] at *
    rw [hcs]
    generalize upd (upd (upd H z (.lst [.int 0])) p (.lst ((ns ++ [0]).map V.int))) m (.lst (cs.map V.int)) = H5 at *
    have hcl2 : cs.length ≤ 64 := by rw [List.length_append, List.length_singleton] at hcl; omega
    refine ⟨m, _, rfl, sqL_of hm2, ?_⟩
    refine for_it (walk_enum (K := K) (a := m) (xs := cs.map V.int)) (fun i σ H' => H' m = some (.lst (cs.map V.int)) ∧ ∃ o1 o2, σ = [some (.ref a), o1, o2]) ⟨hm2, _, _, rfl⟩ (fun i σ H' _ q => sqL_of q.1) ?_ ?_
    · rintro i v σ H' H'' hi ⟨hM, o1, o2, rfl⟩ ⟨TT', x, y, rfl, hT, rfl, hx, hy⟩
      cases hx
      have hi2 : i < cs.length := by rwa [List.length_map] at hi
      have hy' : (cs.map V.int)[i]? = some y := hy
      rw [List.getElem?_map, List.getElem?_eq_getElem hi2] at hy'
      cases hy'
      have mT : m ≠ TT' := ne_of_none hM hT
      refine ⟨TT', _, rfl, sqT_of upd_same, rfl, _, _, rfl, _, _, rfl, rfl, ?_⟩
      refine ⟨_, rfl, _, rfl, _, _, rfl, by omega, by omega, fun b t0 t1 hb e => ?_⟩
      have hM1 : upd H' TT' (.tup [.int (i : Nat), .int cs[i]]) m = some (.lst (cs.map V.int)) := by rw [upd_ne mT]; exact hM
      have mb : m ≠ b := ne_of_none hM1 hb
      refine ⟨b, t0, t1, 0, rfl, upd_same, by decide, by decide, e, fun H2 sb => ⟨_, rfl, iteF ?_⟩⟩
      exact ⟨sb _ _ (by rw [upd_ne mb]; exact hM1) mb, _, _, rfl⟩
    · rintro σ H' ⟨hM, o1, o2, rfl⟩
      exact hQ H'
end
end L10
set_option maxRecDepth 100000
set_option maxHeartbeats 4000000
namespace L10
open PySem PySem.Spec PyProof.Rows L2 Q7
section
variable {P : Program} {w : World} {K : PySem.W.Frag} {mg : Str → Option Value} {base : Heap}
/-! ### the head -/
abbrev R : PySem.W.OpenRow := PySem.W.OpenLaw.row PySem.Challenge.rw_prepaidplans_k10_names_and_task_paths
abbrev hk : PySem.W.Hook := hookZ 6 fas fns tabs exs
def ob (s : PySem.W.SharedT) : He.AlT × Bool := obZ 6 fas fns tabs exs (HandSHeadRun.getT s)
theorem ob_eq (s : PySem.W.SharedT) : ob s = hk.obs s.abs := obZ_eq (HandSHeadRun.getT_eq s)
def loose0 : List Str := ["is_whole", "is_between", "is_fraction", "sum_of", "_reduced", "_sum", "is_task", "check_tasks", "is_name", "is_known", "last_tick", "_has_names", "_is_money", "_is_end", "_is_end_word", "_is_end_share", "_are_ends", "fault_of", "names_in", "task_paths", "name_at", "check_plan", "check_size", "check_form", "steps_of", "all_steps_of", "named_paths", "is_path", "_has_form", "_has_numbers"]
def loose1 : List Str := ["_size", "_span", "_law_source", "_law_draw", "_law_tasks", "_law_unary", "_law_plan", "_law_drawn", "_law_inner", "_law_size", "_law_span", "_law_excess", "_law_paths", "_law_told", "_law_near", "_law_right", "_law_holds", "PlanError", "InvalidName", "InvalidTask", "InvalidPath", "InvalidTasks", "InvalidPlan", "TooLarge", "ZERO", "PLAN_WORDS", "END_WORDS", "MOST_MONEY", "MOST_TASKS", "MOST_LETTERS"]
def loose2 : List Str := ["MOST_ENDS", "LAST_TICK", "MOST_BOTTOM", "LIST_WORDS", "NUMBERS", "MOST_PLANS", "MOST_LEVELS", "MOST_SIZE", "gcd"]
def looses : List Str := loose0 ++ loose1 ++ loose2
set_option maxHeartbeats 0 in
theorem run0 (w : World) : HandSHeadRun.RunEqI R (PySem.W.view R.prog [75]) hk ob 12000 looses (w.withFollow "special-get-raises" false) := by
  unfold HandSHeadRun.RunEqI
  kernel_rfl
set_option maxHeartbeats 0 in
theorem run1 (w : World) : HandSHeadRun.RunEqI R (PySem.W.view R.prog [75]) hk ob 12000 looses (w.withFollow "special-get-raises" true) := by
  unfold HandSHeadRun.RunEqI
  kernel_rfl
theorem run (w : World) : HandSHeadRun.RunEqI R (PySem.W.view R.prog [75]) hk ob 12000 looses w := PySem.W.byRow2 "special-get-raises" (P := fun w => HandSHeadRun.RunEqI R (PySem.W.view R.prog [75]) hk ob 12000 looses w) run0 run1 w
theorem fin {h : Heap} {f : Addr} (X : K.In h) (G : h.Ns mainGlobals mg) (hfa : mg ("law" : Str) = some (.ref f)) (c : He.SaysT fas fns tabs w K) (x : (exs.all fun f => f K) = true) :
    ∃ fd : FuncData, (∀ (s : Shared) (v : Value), BindsTo s fd ⟨[v], []⟩ [("script", v)]) ∧ ∀ base : Heap, K.In base → base.Ns mainGlobals mg → FnG P w K mg base 24 f fd ["script"] (spLaw K) := by
  obtain ⟨T⟩ := txt X G c x
  have e := hfa.symm.trans T.g_law
  cases e
  have b := FunD.bindsA (ps := ["script"]) T.F_law fun _ _ _ _ _ _ us hl => match us, hl with | [_], _ => rfl
  exact ⟨T.fd_law, fun s v => b s [v] rfl, fun base _ _ => ok_law T⟩
end
end L10
open PySem PySem.W PySem.Calls PyProof.Rows
theorem PySem.Challenge.cw_prepaidplans_k10_names_and_task_paths_holds : PySem.Challenge.rw_prepaidplans_k10_names_and_task_paths.Holds := by
  w_on; o_law
  refine HandSHeadRun.head_imp (r := OpenLaw.row PySem.Challenge.rw_prepaidplans_k10_names_and_task_paths) (q := view (OpenLaw.row PySem.Challenge.rw_prepaidplans_k10_names_and_task_paths).prog [75]) (H := L10.hk) (ob := L10.ob) (M := 12000) (loose := L10.looses) (d := HandSHeadRun.topDef (OpenLaw.row PySem.Challenge.rw_prepaidplans_k10_names_and_task_paths).prog 75) (kwd := []) L10.ob_eq
    L10.run (by kernel_rfl) (by kernel_rfl) (by kernel_rfl) (by rfl) (by first | assumption | decide +kernel) (by decide +kernel) ⟨rfl, rfl, rfl, rfl, rfl, by decide +kernel⟩ ?hw ?hc
  case hw => w_witness2
  case hc =>
    refine Q7.walk_ofG (l := PySem.Challenge.rw_prepaidplans_k10_names_and_task_paths) (most := 63) (lev := 24) (x := "script") rfl (by decide) (by kernel_rfl) ⟨rfl, by decide, by decide⟩ ?F
    intro w mg fa h Y G hmg0
    obtain ⟨K, KX, c, x⟩ := Y
    have hmg : mg ("law" : PySem.Str) = some (.ref fa) := by
      have e : (HandSHeadRun.topDef (OpenLaw.row PySem.Challenge.rw_prepaidplans_k10_names_and_task_paths).prog 75).name = ("law" : PySem.Str) := by kernel_rfl
      rw [← e]
      exact hmg0
    obtain ⟨fd, hb, hF⟩ := L10.fin (P := (PySem.Challenge.rw_prepaidplans_k10_names_and_task_paths).prog) (w := w) KX G hmg c x
    exact ⟨K, fd, L10.spLaw K, KX, hb, fun H a ns hl hS => ⟨a, ns, rfl, hS, hl, fun _ => rfl⟩, hF⟩
