import PyProof.Rows.All
import Wide.All
import OpenK.AllK
import Wide.FinOn
import PyProof.InstNe
import HandS.ForMost
import HandS.Wide
import HandS.WideBits
import HandS.Gcd
import HandS.IsInst
import HandS.DictEq
import HandS.DictComp
import HandS.ListItems
import HandS.Defaults
import HandS.SlotsOwn
import HandS.Style
import HandS.Head0
import HandS.Head1
import HandS.Head2
import HandS.HeadEnd
import HandS.HeadHook1
import HandS.HeadHook2
import HandS.WordsList
import HandS.NoneIn
import HandS.Head3
import PySem.Challenge.RW_prepaidplans_k86_whole_row_algebra
set_option Elab.async false
set_option linter.all false
namespace Q7
/-! ### fractions in lowest terms are rationals -/
theorem div_num_pos (a : Int) {b : Int} (hb : 0 < b) : (Rat.divInt a b).num = a / ((Nat.gcd a.natAbs b.natAbs : Nat) : Int) ∧ ((Rat.divInt a b).den : Int) = b / ((Nat.gcd a.natAbs b.natAbs : Nat) : Int) := by
  rw [Rat.num_divInt, Rat.den_divInt, if_neg (by omega), Int.sign_eq_one_of_pos hb, Int.one_mul]
  have e : b.gcd a = Nat.gcd a.natAbs b.natAbs := by rw [Int.gcd_comm]; rfl
  refine ⟨by rw [e], ?_⟩
  rw [e]
  have h1 : ((b.natAbs / Nat.gcd a.natAbs b.natAbs : Nat) : Int) = (b.natAbs : Int) / ((Nat.gcd a.natAbs b.natAbs : Nat) : Int) := by simp
  rw [h1, Int.natAbs_of_nonneg (by omega)]
theorem div_num_neg (a : Int) {b : Int} (hb : b < 0) : (Rat.divInt a b).num = a / (-((Nat.gcd a.natAbs b.natAbs : Nat) : Int)) ∧ ((Rat.divInt a b).den : Int) = b / (-((Nat.gcd a.natAbs b.natAbs : Nat) : Int)) := by
  have e : Rat.divInt a b = Rat.divInt (-a) (-b) := by
    rw [Rat.neg_divInt_neg]
  have h := div_num_pos (-a) (b := -b) (by omega)
  rw [e]
  rw [Int.natAbs_neg, Int.natAbs_neg] at h
  have g1 : ((Nat.gcd a.natAbs b.natAbs : Nat) : Int) ∣ a := by
    have := Nat.gcd_dvd_left a.natAbs b.natAbs
    exact Int.dvd_natAbs.mp (Int.ofNat_dvd.mpr this)
  have g2 : ((Nat.gcd a.natAbs b.natAbs : Nat) : Int) ∣ b := by
    have := Nat.gcd_dvd_right a.natAbs b.natAbs
    exact Int.dvd_natAbs.mp (Int.ofNat_dvd.mpr this)
  rw [Int.ediv_neg, Int.ediv_neg]
  rw [h.1, h.2, Int.neg_ediv_of_dvd g1, Int.neg_ediv_of_dvd g2]
  exact ⟨rfl, rfl⟩
/-- what the program's reduction gives -/
theorem red (a b : Int) (hb : b ≠ 0) (d : Int) (hd : d = if b < 0 then -((Nat.gcd a.natAbs b.natAbs : Nat) : Int) else ((Nat.gcd a.natAbs b.natAbs : Nat) : Int)) :
    a.fdiv d = (Rat.divInt a b).num ∧ b.fdiv d = ((Rat.divInt a b).den : Int) ∧ d ≠ 0 := by
  have hg : 0 < Nat.gcd a.natAbs b.natAbs := Nat.gcd_pos_of_pos_right _ (by omega)
  have g1 : ((Nat.gcd a.natAbs b.natAbs : Nat) : Int) ∣ a := Int.dvd_natAbs.mp (Int.ofNat_dvd.mpr (Nat.gcd_dvd_left a.natAbs b.natAbs))
  have g2 : ((Nat.gcd a.natAbs b.natAbs : Nat) : Int) ∣ b := Int.dvd_natAbs.mp (Int.ofNat_dvd.mpr (Nat.gcd_dvd_right a.natAbs b.natAbs))
  by_cases h : b < 0
  · rw [if_pos h] at hd
    subst hd
    have q := div_num_neg a h
    rw [Int.fdiv_eq_ediv_of_dvd (Int.neg_dvd.mpr g1), Int.fdiv_eq_ediv_of_dvd (Int.neg_dvd.mpr g2), q.1, q.2]
    exact ⟨rfl, rfl, by omega⟩
  · rw [if_neg h] at hd
    subst hd
    have q := div_num_pos a (b := b) (by omega)
    rw [Int.fdiv_eq_ediv_of_dvd g1, Int.fdiv_eq_ediv_of_dvd g2, q.1, q.2]
    exact ⟨rfl, rfl, by omega⟩
theorem rat_gcd (q : Rat) : Nat.gcd q.num.natAbs ((q.den : Int)).natAbs = 1 := q.reduced
theorem add_eq (p q : Rat) : p + q = Rat.divInt (p.num * q.den + q.num * p.den) ((p.den : Int) * q.den) := by
  rw [Rat.add_def', ← Rat.divInt_ofNat]
  simp
theorem mul_eq (p q : Rat) : p * q = Rat.divInt (p.num * q.num) ((p.den : Int) * q.den) := by
  rw [Rat.mul_def']
  rw [← Rat.divInt_ofNat]
  simp
theorem divq_eq (p q : Rat) : p / q = Rat.divInt (p.num * q.den) ((p.den : Int) * q.num) := by
  rw [Rat.div_def, Rat.inv_def]
  conv => lhs; lhs; rw [← Rat.num_divInt_den p]
  rw [Rat.divInt_mul_divInt]
theorem den_pos (q : Rat) : (0 : Int) < q.den := by have := q.den_pos; omega
theorem den_mul_pos (p q : Rat) : (0 : Int) < (p.den : Int) * q.den := Int.mul_pos (den_pos p) (den_pos q)
/-! ### sizes -/
def B (n : Nat) (q : Rat) : Prop := q.num.natAbs < 2 ^ n ∧ q.den < 2 ^ n
theorem B.mono {n m : Nat} {q : Rat} (h : B n q) (hm : n ≤ m) : B m q := ⟨Nat.lt_of_lt_of_le h.1 (Nat.pow_le_pow_right (by omega) hm), Nat.lt_of_lt_of_le h.2 (Nat.pow_le_pow_right (by omega) hm)⟩
theorem div_le (a b : Int) (hb : b ≠ 0) : (Rat.divInt a b).num.natAbs ≤ a.natAbs ∧ (Rat.divInt a b).den ≤ b.natAbs := by
  refine ⟨?_, ?_⟩
  · rw [Rat.num_divInt]
    have h : (b.sign * a / ((b.gcd a : Nat) : Int)).natAbs ≤ (b.sign * a).natAbs := Int.natAbs_ediv_le_natAbs _ _
    refine Nat.le_trans h ?_
    rw [Int.natAbs_mul, Int.natAbs_sign_of_ne_zero hb, Nat.one_mul]
    exact Nat.le_refl _
  · rw [Rat.den_divInt, if_neg hb]
    exact Nat.div_le_self _ _
theorem B.div {n : Nat} {a b : Int} (ha : a.natAbs < 2 ^ n) (hb : b.natAbs < 2 ^ n) (h0 : b ≠ 0) : B n (Rat.divInt a b) := ⟨Nat.lt_of_le_of_lt (div_le a b h0).1 ha, Nat.lt_of_le_of_lt (div_le a b h0).2 hb⟩
theorem abs_mul_lt {a b : Int} {n m : Nat} (ha : a.natAbs < 2 ^ n) (hb : b.natAbs < 2 ^ m) : (a * b).natAbs < 2 ^ (n + m) := by
  rw [Int.natAbs_mul, Nat.pow_add]
  exact Nat.mul_lt_mul'' ha hb
theorem B.add {n m : Nat} {p q : Rat} (hp : B n p) (hq : B m q) : B (n + m + 1) (p + q) := by
  rw [add_eq]
  have h1 := abs_mul_lt (a := p.num) (b := q.den) hp.1 (by simpa using hq.2)
  have h2 := abs_mul_lt (a := q.num) (b := p.den) hq.1 (by simpa using hp.2)
  have h3 := abs_mul_lt (a := p.den) (b := q.den) (n := n) (m := m) (by simpa using hp.2) (by simpa using hq.2)
  refine B.div ?_ ?_ (Int.ne_of_gt (den_mul_pos p q))
  · rw [Nat.pow_succ]
    rw [Nat.add_comm m n] at h2
    omega
  · rw [Nat.pow_succ]
    omega
theorem B.mul {n m : Nat} {p q : Rat} (hp : B n p) (hq : B m q) : B (n + m) (p * q) := by
  rw [mul_eq]
  exact B.div (abs_mul_lt hp.1 hq.1) (abs_mul_lt (by simpa using hp.2) (by simpa using hq.2)) (Int.ne_of_gt (den_mul_pos p q))
theorem B.neg {n : Nat} {q : Rat} (h : B n q) : B n (-q) := ⟨by rw [Rat.neg_num, Int.natAbs_neg]; exact h.1, h.2⟩
theorem B.zero : B 1 0 := ⟨by decide, by decide⟩

/-! ### rows: lists of pairs, seen through all weights -/
abbrev Rw := List (Int × Rat)
def wt (f : Int → Rat) : Rw → Rat
  | [] => 0
  | (t, q) :: r => q * f t + wt f r
theorem wt_append (f : Int → Rat) : ∀ a b : Rw, wt f (a ++ b) = wt f a + wt f b
  | [], b => by simp [wt, Rat.zero_add]
  | (t, q) :: r, b => by
    simp only [List.cons_append, wt, wt_append f r b]
    grind
theorem wt_perm (f : Int → Rat) {a b : Rw} (h : a.Perm b) : wt f a = wt f b := by
  induction h with
  | nil => rfl
  | cons x _ ih => obtain ⟨t, q⟩ := x; simp only [wt, ih]
  | swap x y l => obtain ⟨t, q⟩ := x; obtain ⟨u, r⟩ := y; simp only [wt]; grind
  | trans _ _ h1 h2 => exact h1.trans h2
theorem wt_filter (f : Int → Rat) : ∀ a : Rw, wt f (a.filter fun p => decide (p.2 ≠ 0)) = wt f a
  | [] => rfl
  | (t, q) :: r => by
    have ih := wt_filter f r
    by_cases h : q = 0
    · subst h
      simp only [List.filter, wt]
      simp only [ne_eq, not_true_eq_false, decide_false]
      rw [ih]
      grind
    · have : decide (q ≠ 0) = true := by simp [h]
      simp only [List.filter, this, wt, ih]
/-- the weights at one tick -/
def at_ (t : Int) : Int → Rat := fun u => if u = t then 1 else 0
/-- strictly ascending, without zeros -/
structure Nf (a : Rw) : Prop where
  asc : a.Pairwise fun x y => x.1 < y.1
  nz : ∀ p ∈ a, p.2 ≠ 0
theorem wt_at_none {t : Int} : ∀ {a : Rw}, (∀ p ∈ a, p.1 ≠ t) → wt (at_ t) a = 0
  | [], _ => rfl
  | (u, q) :: r, h => by
    have h1 : u ≠ t := h (u, q) List.mem_cons_self
    simp only [wt, at_, if_neg h1, wt_at_none (a := r) fun p hp => h p (List.mem_cons_of_mem _ hp)]
    grind
theorem wt_at_head {t : Int} {q : Rat} {r : Rw} (h : ∀ p ∈ r, p.1 ≠ t) : wt (at_ t) ((t, q) :: r) = q := by
  simp only [wt, at_, wt_at_none h]
  simp only [if_pos]
  grind
theorem Nf.tail {p : Int × Rat} {r : Rw} (h : Nf (p :: r)) : Nf r := ⟨(List.pairwise_cons.mp h.asc).2, fun x hx => h.nz x (List.mem_cons_of_mem _ hx)⟩
theorem Nf.head {p : Int × Rat} {r : Rw} (h : Nf (p :: r)) : ∀ x ∈ r, p.1 < x.1 := (List.pairwise_cons.mp h.asc).1
/-- two normal rows of equal weights are one -/
theorem Nf.eq : ∀ {a b : Rw}, Nf a → Nf b → (∀ f, wt f a = wt f b) → a = b
  | [], [], _, _, _ => rfl
  | [], (t, q) :: r, _, hb, h => by
    have h1 := h (at_ t)
    rw [wt_at_head fun p hp => Ne.symm (Int.ne_of_lt (hb.head p hp))] at h1
    exact absurd h1.symm (hb.nz _ List.mem_cons_self)
  | (t, q) :: r, [], ha, _, h => by
    have h1 := h (at_ t)
    rw [wt_at_head fun p hp => Ne.symm (Int.ne_of_lt (ha.head p hp))] at h1
    exact absurd h1 (ha.nz _ List.mem_cons_self)
  | (t, q) :: r, (u, x) :: s, ha, hb, h => by
    have hr : ∀ p ∈ r, p.1 ≠ t := fun p hp => Ne.symm (Int.ne_of_lt (ha.head p hp))
    have hs : ∀ p ∈ s, p.1 ≠ u := fun p hp => Ne.symm (Int.ne_of_lt (hb.head p hp))
    have e : t = u := by
      rcases Int.lt_trichotomy t u with l | l | l
      · have h1 := h (at_ t)
        rw [wt_at_head hr, wt_at_none (a := (u, x) :: s)] at h1
        · exact absurd h1 (ha.nz _ List.mem_cons_self)
        · intro p hp
          rcases List.mem_cons.mp hp with rfl | hp
          · exact Ne.symm (Int.ne_of_lt l)
          · exact Ne.symm (Int.ne_of_lt (Int.lt_trans l (hb.head p hp)))
      · exact l
      · have h1 := h (at_ u)
        rw [wt_at_head hs, wt_at_none (a := (t, q) :: r)] at h1
        · exact absurd h1.symm (hb.nz _ List.mem_cons_self)
        · intro p hp
          rcases List.mem_cons.mp hp with rfl | hp
          · exact Ne.symm (Int.ne_of_lt l)
          · exact Ne.symm (Int.ne_of_lt (Int.lt_trans l (ha.head p hp)))
    subst e
    have h1 := h (at_ t)
    rw [wt_at_head hr, wt_at_head hs] at h1
    subst h1
    have h2 : r = s := Nf.eq ha.tail hb.tail fun f => by
      have := h f
      simp only [wt] at this
      grind
    rw [h2]

/-! ### a dict of sums -/
/-- m[t] = m.get(t, 0) + q, in the order of insertion -/
def putS (m : Rw) (t : Int) (q : Rat) : Rw := match m with
  | [] => [(t, 0 + q)]
  | (u, x) :: r => if u = t then (u, x + q) :: r else (u, x) :: putS r t q
theorem wt_put (f : Int → Rat) (t : Int) (q : Rat) : ∀ m : Rw, wt f (putS m t q) = wt f m + q * f t
  | [] => by simp only [putS, wt]; grind
  | (u, x) :: r => by
    unfold putS
    by_cases h : u = t
    · rw [if_pos h]; subst h; simp only [wt]; grind
    · rw [if_neg h]; simp only [wt, wt_put f t q r]; grind
theorem put_keys (t : Int) (q : Rat) : ∀ m : Rw, (putS m t q).map (·.1) = if t ∈ m.map (·.1) then m.map (·.1) else m.map (·.1) ++ [t]
  | [] => by simp [putS]
  | (u, x) :: r => by
    unfold putS
    by_cases h : u = t
    · rw [if_pos h]; subst h; simp
    · rw [if_neg h]
      have ih := put_keys t q r
      simp only [List.map_cons, ih, List.mem_cons]
      by_cases h2 : t ∈ r.map (·.1)
      · rw [if_pos h2, if_pos (Or.inr h2)]
      · rw [if_neg h2, if_neg (by rintro (e | e); exact h e.symm; exact h2 e)]
        rfl
theorem put_nodup {m : Rw} (t : Int) (q : Rat) (h : (m.map (·.1)).Nodup) : ((putS m t q).map (·.1)).Nodup := by
  rw [put_keys]
  by_cases h2 : t ∈ m.map (·.1)
  · rw [if_pos h2]; exact h
  · rw [if_neg h2]
    rw [List.nodup_append]
    refine ⟨h, by simp, ?_⟩
    intro a ha b hb e
    simp only [List.mem_singleton] at hb
    subst hb; subst e
    exact h2 ha
def sums (ps : Rw) : Rw := ps.foldl (fun m p => putS m p.1 p.2) []
theorem wt_sums_go (f : Int → Rat) : ∀ (ps m : Rw), wt f (ps.foldl (fun m p => putS m p.1 p.2) m) = wt f m + wt f ps
  | [], m => by simp only [List.foldl, wt]; grind
  | (t, q) :: r, m => by simp only [List.foldl, wt_sums_go f r, wt_put, wt]; grind
theorem wt_sums (f : Int → Rat) (ps : Rw) : wt f (sums ps) = wt f ps := by
  unfold sums
  rw [wt_sums_go]
  simp only [wt]
  grind
theorem sums_nodup_go : ∀ (ps m : Rw), (m.map (·.1)).Nodup → ((ps.foldl (fun m p => putS m p.1 p.2) m).map (·.1)).Nodup
  | [], _, h => h
  | (t, q) :: r, m, h => sums_nodup_go r _ (put_nodup t q h)
theorem sums_nodup (ps : Rw) : ((sums ps).map (·.1)).Nodup := sums_nodup_go ps [] (by simp)
theorem sums_snoc (ps : Rw) (p : Int × Rat) : sums (ps ++ [p]) = putS (sums ps) p.1 p.2 := by unfold sums; rw [List.foldl_append]; rfl
def look (m : Rw) (t : Int) : Rat := match m with
  | [] => 0
  | (u, x) :: r => if u = t then x else look r t
/-- the ticks ys, in this order, with their sums, without zeros -/
def pick (m : Rw) (ys : List Int) : Rw := (ys.map fun t => (t, look m t)).filter fun p => decide (p.2 ≠ 0)
theorem look_self : ∀ {m : Rw}, (m.map (·.1)).Nodup → (m.map (·.1)).map (fun t => (t, look m t)) = m
  | [], _ => rfl
  | (u, x) :: r, h => by
    have h1 := List.nodup_cons.mp h
    simp only [List.map_cons, look, if_pos]
    congr 1
    have ih := look_self (m := r) h1.2
    conv => rhs; rw [← ih]
    apply List.map_congr_left
    intro t ht
    rw [if_neg (fun e => h1.1 (by rw [e]; exact ht))]
theorem pick_nf {m : Rw} {ys : List Int} (hn : (m.map (·.1)).Nodup) (hp : ys.Perm (m.map (·.1))) (hs : ys.Pairwise (· ≤ ·)) : Nf (pick m ys) := by
  have hs2 : ys.Pairwise (· < ·) := by
    have nd : ys.Nodup := hp.nodup_iff.mpr hn
    have := List.Pairwise.and hs nd
    exact this.imp fun h => Int.lt_iff_le_and_ne.mpr h
  refine ⟨?_, ?_⟩
  · unfold pick
    apply List.Pairwise.filter
    rw [List.pairwise_map]
    exact hs2
  · intro p hp'
    have := (List.mem_filter.mp hp').2
    simpa using this
theorem wt_pick (f : Int → Rat) {m : Rw} {ys : List Int} (hn : (m.map (·.1)).Nodup) (hp : ys.Perm (m.map (·.1))) : wt f (pick m ys) = wt f m := by
  unfold pick
  rw [wt_filter]
  rw [wt_perm f (hp.map fun t => (t, look m t)), look_self hn]
/-- the normal row of a list of pairs -/
def norm (ps : Rw) : Rw := pick (sums ps) (((sums ps).map (·.1)).mergeSort)
theorem norm_nf (ps : Rw) : Nf (norm ps) := pick_nf (sums_nodup ps) (List.mergeSort_perm _ _) (by
  have h := List.pairwise_mergeSort (le := fun (a b : Int) => decide (a ≤ b)) (fun a b c h1 h2 => by simp only [decide_eq_true_eq] at *; omega) (fun a b => by simp only [Bool.or_eq_true, decide_eq_true_eq]; omega) ((sums ps).map (·.1))
  exact h.imp fun h => of_decide_eq_true h)
theorem wt_norm (f : Int → Rat) (ps : Rw) : wt f (norm ps) = wt f ps := by
  unfold norm
  rw [wt_pick f (sums_nodup ps) (List.mergeSort_perm _ _), wt_sums]
theorem norm_pick {ps : Rw} {ys : List Int} (hp : ys.Perm ((sums ps).map (·.1))) (hs : ys.Pairwise (· ≤ ·)) : pick (sums ps) ys = norm ps :=
  Nf.eq (pick_nf (sums_nodup ps) hp hs) (norm_nf ps) fun f => by rw [wt_norm, wt_pick f (sums_nodup ps) hp, wt_sums]
theorem norm_eq {a b : Rw} (h : ∀ f, wt f a = wt f b) : norm a = norm b := Nf.eq (norm_nf a) (norm_nf b) fun f => by rw [wt_norm, wt_norm, h f]
theorem norm_of {a b : Rw} (ha : Nf a) (h : ∀ f, wt f a = wt f b) : norm b = a := Nf.eq (norm_nf b) ha fun f => by rw [wt_norm, h f]
theorem norm_self {a : Rw} (ha : Nf a) : norm a = a := norm_of ha fun _ => rfl
/-- the product, pair by pair -/
def prod (a b : Rw) : Rw := a.flatMap fun p => b.map fun q => (p.1 + q.1, p.2 * q.2)
theorem wt_map (f : Int → Rat) (t : Int) (x : Rat) : ∀ b : Rw, wt f (b.map fun q => (t + q.1, x * q.2)) = x * wt (fun u => f (t + u)) b
  | [] => by simp only [List.map, wt]; grind
  | (u, y) :: r => by simp only [List.map, wt, wt_map f t x r]; grind
theorem wt_prod (f : Int → Rat) : ∀ a b : Rw, wt f (prod a b) = wt (fun t => wt (fun u => f (t + u)) b) a
  | [], b => rfl
  | (t, x) :: r, b => by
    show wt f ((b.map fun q => (t + q.1, x * q.2)) ++ prod r b) = _
    rw [wt_append, wt_map, wt_prod f r b]
    rfl
theorem wt_add (f g : Int → Rat) : ∀ a : Rw, wt (fun t => f t + g t) a = wt f a + wt g a
  | [] => by simp only [wt]; grind
  | (t, q) :: r => by simp only [wt, wt_add f g r]; grind
theorem wt_smul (x : Rat) (f : Int → Rat) : ∀ a : Rw, wt (fun t => x * f t) a = x * wt f a
  | [] => by simp only [wt]; grind
  | (t, q) :: r => by simp only [wt, wt_smul x f r]; grind
theorem wt_zero : ∀ a : Rw, wt (fun _ => 0) a = 0
  | [] => rfl
  | (t, q) :: r => by simp only [wt, wt_zero r]; grind
theorem wt_swap (F : Int → Int → Rat) : ∀ a b : Rw, wt (fun t => wt (F t) b) a = wt (fun u => wt (fun t => F t u) a) b
  | [], b => by simp only [wt]; rw [wt_zero]
  | (t, x) :: r, b => by
    simp only [wt]
    rw [wt_swap F r b, ← wt_smul, ← wt_add]
end Q7
set_option maxRecDepth 100000
set_option maxHeartbeats 4000000
namespace Q7
open PySem PySem.Spec PyProof.Rows L2

/-! ### reading an item of a list, for an augmented store -/
def rGetL (K : PySem.W.Frag) : V → V → Hp → VK → Prop := fun o i H Q => ∃ p xs k v, o = .ref p ∧ i = .int k ∧ SqL K H p xs ∧ 0 ≤ k ∧ xs[k.toNat]? = some v ∧ Q v H
theorem get_list {X : Cx} : PGet X (rGetL X.K) := by
  intro pins s σ H o i ov iv Q I ro ri h
  obtain ⟨p, xs, k, z, rfl, rfl, hs, h0, hx, q⟩ := h
  cases ro
  obtain ⟨t, rfl⟩ := ri
  obtain ⟨its, r, pl, hz⟩ := I.list hs
  obtain ⟨u, eu, ru⟩ := r.get hx
  have hk : k.toNat < xs.length := (List.getElem?_eq_some_iff.mp hx).1
  have hl := line63
  have hsz := sizeLine_eq
  exact wpAny_getItem_list pl.isList h0 (by omega) (by simpa using eu) ⟨z, H, I, ru, q⟩

/-! ### list + list where the operands are only read -/
def rCatS (K : PySem.W.Frag) : R2 := fun x y H Q => ∃ l b xs zs, x = .ref l ∧ y = .ref b ∧ SqL K H l xs ∧ SqL K H b zs ∧ xs.length + zs.length ≤ sizeLine ∧ ∀ p, H p = none → Q (.ref p) (upd H p (.lst (xs ++ zs)))
theorem op_catS {X : Cx} : OpR X (binaryOp .Add) (rCatS X.K) := by
  intro pins s σ H x y v u Q I rx ry h
  obtain ⟨l, b, xs, zs, rfl, rfl, hl, hb, hz, q⟩ := h
  cases rx
  cases ry
  obtain ⟨its, r, pl, _⟩ := I.list hl
  obtain ⟨its2, r2, pl2, _⟩ := I.list hb
  obtain ⟨⟨c1, d1, t1, s1⟩, n1, e1, k1, j1, g1⟩ := pl
  obtain ⟨⟨c2, d2, t2, s2⟩, n2, e2, k2, j2, g2⟩ := pl2
  simp only at k1 j1 g1 k2 j2 g2
  subst k1 g1 k2 g2
  have hl1 := r.length
  have hl2 := r2.length
  have ea : its.toArray ++ its2.toArray = (its ++ its2).toArray := by simp
  refine concat_meets ⟨_, e1, rfl⟩ ⟨_, e2, rfl⟩ noFill_list_add seq_list_add PySem.F.slot_list_add PySem.F.entry_list_add (PySem.F.args_list_add_2 _ _)
    (list_addW l b its.toArray its2.toArray n1 n2 d1 d2 s1 s2 (by simp only [List.size_toArray]; omega)) ⟨e1, e2, ?_⟩
  rw [ea]
  exact ⟨.ref _, _, I.lnew (t' := s.toks) (r.append r2) (by rw [List.length_append]; omega), rfl, q _ I.fresh⟩

/-! ### operators of the program's own class -/
section
variable {X : Cx} {CX : CXT} {n : Nat} {g C : Addr} {fd : FuncData} {ps : List Str} {sp : Sp} {E : XK}
/-- x op y, both instances of the class at C, whose method for op keeps sp -/
def rOwn2 (C : Addr) (sp : Sp) (E : XK) : R2 := fun x y H Q => ∃ a dx fs b dy gs, x = .ref a ∧ y = .ref b ∧ H a = some (.ins C dx fs) ∧ H b = some (.ins C dy gs) ∧ sp [x, y] H Q E
theorem look2 {pins : List (Addr × Obj)} {s : Shared} {σ : L2.St} {H : Hp} {a dx : Addr} {fs : List (Str × V)} (I : Inv X pins σ H s) (h : H a = some (.ins C dx fs)) : ∃ ox od, PySem.W.InstAt s.heap a ox C od := by
  obtain ⟨mA, O, _⟩ := ins_get I.hok h
  obtain ⟨od, J, _⟩ := O.look
  exact ⟨_, _, J⟩
theorem op_own2 {op : Operator} (hc : PySem.W.selfFirst X.K C = true) (hs : PySem.W.findIn X.K (.ref C) (PySem.dunder op.info.2) = some (some (.ref g))) (hf : PySem.W.isFn X.K (.ref g) = true)
    (F : FnOk X.prog X.w X.K X.mg X.base CX n g fd ps sp) (hr : Room n X.A) (hb : Binds X.K fd ps []) (hx : Passes CX X E) : OpR X (binaryOp op) (rOwn2 C sp E) := by
  intro pins s σ H x y v u Q I rx ry h
  obtain ⟨a, dx, fs, b, dy, gs, rfl, rfl, ha, hb', q⟩ := h
  cases rx
  cases ry
  obtain ⟨ox, od, J⟩ := look2 I ha
  obtain ⟨oy, od', J'⟩ := look2 I hb'
  obtain ⟨m, hF⟩ := I.fr
  refine PySem.W.binop_K hF I.ok.mod.kin J J'.type hc hs hf ?_
  refine wpAny_mono (run_fn (us := [.ref a, .ref b]) (vs := [.ref a, .ref b]) F hr hb .nil hx I (.cons rfl (.cons rfl .nil)) q) (fun w s' z => ?_) fun _ _ z => z
  obtain ⟨z', H', I', rz, qz⟩ := z
  exact SlX.cmpback rz ⟨z', H', I', rz, qz⟩
theorem op_ownEq (hs : PySem.W.findIn X.K (.ref C) "__eq__" = some (some (.ref g))) (hf : PySem.W.isFn X.K (.ref g) = true)
    (F : FnOk X.prog X.w X.K X.mg X.base CX n g fd ps sp) (hr : Room n X.A) (hb : Binds X.K fd ps []) (hx : Passes CX X E) : OpR X (compareOp .Eq) (rOwn2 C sp E) := by
  intro pins s σ H x y v u Q I rx ry h
  obtain ⟨a, dx, fs, b, dy, gs, rfl, rfl, ha, hb', q⟩ := h
  cases rx
  cases ry
  obtain ⟨ox, od, J⟩ := look2 I ha
  obtain ⟨oy, od', J'⟩ := look2 I hb'
  obtain ⟨m, hF⟩ := I.fr
  unfold compareOp
  refine PySem.W.cmp_K (op := .Eq) (tb := .ref C) hr.units0 hF I.ok.mod.kin J J'.type (by simp [PySem.W.notFirst]) hs hf ?_
  refine wpAny_mono (run_fn (us := [.ref a, .ref b]) (vs := [.ref a, .ref b]) F hr hb .nil hx I (.cons rfl (.cons rfl .nil)) q) (fun w s' z => ?_) fun _ _ z => z
  obtain ⟨z', H', I', rz, qz⟩ := z
  exact SlX.cmpback rz ⟨z', H', I', rz, qz⟩
/-- x in y, y an instance of the class at C whose __contains__ keeps sp and hands back a bool -/
def rOwnIn (C : Addr) (sp : Sp) (E : XK) : R2 := fun x y H Q => ∃ b dy gs, y = .ref b ∧ H b = some (.ins C dy gs) ∧ sp [y, x] H (fun v H' => ∃ k, v = .bl k ∧ Q (.bl k) H') E
theorem op_ownIn (hs : PySem.W.findIn X.K (.ref C) "__contains__" = some (some (.ref g))) (hf : PySem.W.isFn X.K (.ref g) = true)
    (F : FnOk X.prog X.w X.K X.mg X.base CX n g fd ps sp) (hr : Room n X.A) (hb : Binds X.K fd ps []) (hx : Passes CX X E) : OpR X (compareOp .In) (rOwnIn C sp E) := by
  intro pins s σ H x y v u Q I rx ry h
  obtain ⟨b, dy, gs, rfl, hb', q⟩ := h
  cases ry
  obtain ⟨ox, od, J⟩ := look2 I hb'
  obtain ⟨m, hF⟩ := I.fr
  refine PySem.W.in_K hF I.ok.mod.kin J hs hf ?_
  refine wpAny_mono (run_fn (us := [.ref b, v]) (vs := [.ref b, x]) F hr hb .nil hx I (.cons rfl (.cons rx .nil)) q) (fun w s' z => ?_) fun _ _ z => z
  obtain ⟨z', H', I', rz, k, rfl, qz⟩ := z
  cases rz
  exact wpAny_truthy_bool ⟨.bl k, H', I', rfl, qz⟩
/-- len(x), x an instance of the class at C whose __len__ keeps sp -/
def rOwnLen (C : Addr) (sp : Sp) (E : XK) : List V → Hp → VK → Prop := fun xs H Q => ∃ a dx fs, xs = [.ref a] ∧ H a = some (.ins C dx fs) ∧ sp [.ref a] H (fun v H' => ∃ k : Int, v = .int k ∧ 0 ≤ k ∧ k < 2 ^ 63 ∧ Q (.int k) H') E
theorem Env0.in1' {P : Program} {w : World} {K : PySem.W.Frag} {mg : Str → Option Value} {base : Heap} {A : Around} {outer : List Env} {s : Shared} {H : Hp} (e : Env0 P w K mg base A outer s H) : Env0 P w K mg base A.in1 outer s H := e.in1
theorem call_ownLen (hs : PySem.W.findIn X.K (.ref C) "__len__" = some (some (.ref g))) (hf : PySem.W.isFn X.K (.ref g) = true)
    (F : FnOk X.prog X.w X.K X.mg X.base CX n g fd ps sp) (hr : Room (n + 1) X.A) (hb : Binds X.K fd ps []) (hx : ∀ H s e s', CX X.stack H s E e s' → False) : CallR X (.builtin "len") (rOwnLen C sp E) := by
  intro pins s σ H xs us Q I r h
  obtain ⟨a, dx, fs, rfl, ha, q⟩ := h
  obtain ⟨u, rfl, rx⟩ := vals1 r
  cases rx
  obtain ⟨ox, od, J⟩ := look2 I ha
  obtain ⟨m, hF⟩ := I.fr
  refine PySem.W.len_K hF I.ok.mod.kin J hs hf ?_
  have hl := F.len _ _ _ _ q
  have r2 : Vals [V.ref a] [Value.ref a] := .cons rfl .nil
  refine wpAny_call (codeAny_mono (F.run X.A.in1 X.stack s H ⟨[.ref a], []⟩ [.ref a] [.ref a] _ E hr.in1 I.env0.in1 (by
    have := hb s [.ref a] I.kIn (by simpa using hl)
    simpa using this) r2 q) fun r s' hq => ?_)
  cases r with
  | error e => exact (hx _ _ _ _ hq).elim
  | ok fl =>
    cases fl with
    | ret w =>
      obtain ⟨z, H', I', rz, k, rfl, h0, h1, qz⟩ := I.after hq
      obtain ⟨t, rfl⟩ := rz
      exact ⟨⟨h0, h1⟩, .int k, H', I'.tok _, ⟨_, rfl⟩, qz⟩
    | next => exact False.elim hq
    | brk => exact False.elim hq
    | cont => exact False.elim hq
end

/-! ### != by an own __eq__ (no __ne__ of the class's own) -/
structure NeTxt (K : PySem.W.Frag) (C g : Addr) : Prop where
  cls : ∃ nm q N bs sn sub ab col dd k0 k1 k2 k3 k5 nid, K.lookup C = some (excClassObj nm q C N bs [.type "object"] true sn sub ab col dd k0 k1 k2 k3 k5 nid) ∧
    PySem.W.nsOkIn K N = true ∧ PySem.W.nsIn K N "__eq__" = some (some (.ref g)) ∧ PySem.W.nsIn K N "__ne__" = some none
  fn : ∃ of, K.lookup g = some of ∧ of.cls = .type "function"
theorem ns_some_of {K : PySem.W.Frag} {h : Heap} {N : Addr} {mg : Str → Option Value} {n : Str} {v : Value} (X : K.In h) (G : h.Ns N mg) (e : PySem.W.nsIn K N n = some (some v)) : mg n = some v := by
  obtain ⟨o, es, ep, ho, hd, _, hf⟩ := G
  unfold PySem.W.nsIn at e
  split at e
  · rename_i c d es' n' sl q
    have z := X _ _ q
    rw [ho] at z
    cases z
    cases hd
    split at e
    · rename_i en he
      have ev : en.val = v := Option.some.inj (Option.some.inj e)
      rw [← hf, ← ev]
      unfold nsFind findBy
      rw [← Array.find?_toList, he]
      rfl
    · split at e <;> cases e
  · cases e
section
variable {X : Cx} {CX : CXT} {n : Nat} {g C : Addr} {fd : FuncData} {ps : List Str} {sp : Sp} {E : XK}
theorem look3 {pins : List (Addr × Obj)} {s : Shared} {σ : L2.St} {H : Hp} {a dx : Addr} {fs : List (Str × V)} (I : Inv X pins σ H s) (h : H a = some (.ins C dx fs)) : ∃ o, s.heap.get? a = some o ∧ o.cls = .ref C := by
  obtain ⟨mA, O, _⟩ := ins_get I.hok h
  exact ⟨_, O.obj, rfl⟩
def rOwnNe (C : Addr) (sp : Sp) (E : XK) : R2 := fun x y H Q => ∃ a dx fs b dy gs, x = .ref a ∧ y = .ref b ∧ H a = some (.ins C dx fs) ∧ H b = some (.ins C dy gs) ∧ sp [x, y] H (fun v H' => ∃ k, v = .bl k ∧ Q (.bl (!k)) H') E
theorem op_ownNe (T : NeTxt X.K C g) (F : FnOk X.prog X.w X.K X.mg X.base CX n g fd ps sp) (hr : Room (n + 1) X.A) (hb : Binds X.K fd ps []) (hx : ∀ H s e s', CX X.stack H s E e s' → False) : OpR X (compareOp .NotEq) (rOwnNe C sp E) := by
  intro pins s σ H x y v u Q I rx ry h
  obtain ⟨a, dx, fs, b, dy, gs, rfl, rfl, ha, hb', q⟩ := h
  cases rx
  cases ry
  obtain ⟨nm, qn, N, bs, sn, sub, ab, col, dd, k0, k1, k2, k3, k5, nid, hC, hN, hE, hNe⟩ := T.cls
  obtain ⟨of, hof, hoc⟩ := T.fn
  obtain ⟨oa, ea, ca⟩ := look3 I ha
  obtain ⟨ob, eb, cb⟩ := look3 I hb'
  have KX := I.kIn
  have G : s.heap.Ns N (s.heap.nsMap N) := .of_isNs (PySem.W.isNs_of_in KX hN)
  have OX : s.heap.OwnEqNoNe a C g "object" [.type "object"] := ⟨oa, of, nm, qn, N, bs, true, sn, sub, ab, col, dd, k0, k1, k2, k3, k5, nid, s.heap.nsMap N, _, ea, ca, KX _ _ hC, G, ns_some_of KX G hE, KX _ _ hof, hoc, PySem.F.cmp_object.mro, PySem.F.cmp_object.eq.lookup, PySem.W.nsMap_none_of_in KX hN hNe⟩
  have hl := F.len _ _ _ _ q
  have r2 : Vals [V.ref a, V.ref b] [Value.ref a, Value.ref b] := .cons rfl (.cons rfl .nil)
  have key : ∀ (s0 : Shared), s0 = s → wpAny (model X.prog X.w) X.A (compareOp .NotEq (.ref a) (.ref b)) (EP X pins σ Q) X.xe ⟨s0.heap, s0.gens, s0.drawn, s0.toks, s0.os⟩ := by
    rintro s0 rfl
    refine compareOp_ne_ownEq PySem.F.cmp_object OX eb cb (by have := hr.un; omega) ?_
    refine wpAny_call (codeAny_mono (F.run X.A.in1 X.stack s0 H ⟨[.ref a, .ref b], []⟩ [.ref a, .ref b] [.ref a, .ref b] _ E hr.in1 I.env0.in1 (by
      have := hb s0 [.ref a, .ref b] I.kIn (by simpa using hl)
      simpa using this) r2 q) fun r s' hq => ?_)
    cases r with
    | error e => exact (hx _ _ _ _ hq).elim
    | ok fl =>
      cases fl with
      | ret w =>
        obtain ⟨z, H', I', rz, k, rfl, qz⟩ := I.after hq
        cases rz
        exact ⟨k, rfl, .bl (!k), H', I', rfl, qz⟩
      | next => exact False.elim hq
      | brk => exact False.elim hq
      | cont => exact False.elim hq
  exact key s rfl
end
/-
  refine wpAny_mono (run_fn (us := [.ref a, .ref b]) (vs := [.ref a, .ref b]) F hr hb .nil hx I (.cons rfl (.cons rfl .nil)) q) (fun w s' z => ?_) fun _ _ z => z
  obtain ⟨z', H', I', rz, k, rfl, qz⟩ := z
  cases rz
-/

end Q7
set_option maxRecDepth 100000
set_option maxHeartbeats 4000000
namespace Q7
open PySem PySem.Spec PyProof.Rows L2
abbrev St7 := L2.St
/-! ### what stays: every tracked thing; every tuple -/
theorem same_new {H : Hp} {p : Addr} {o : HO} (h : H p = none) : Same H (upd H p o) := fun b u e => by
  rw [upd_ne (ne_of_none e h)]
  exact e
theorem same_newer {H H' : Hp} {p : Addr} {o : HO} (s : Same H H') (h : H' p = none) : Same H (upd H' p o) := s.trans (same_new h)
/-- an object that H does not know may change -/
theorem same_mut {H H' : Hp} {p : Addr} {o : HO} (s : Same H H') (h : H p = none) : Same H (upd H' p o) := fun b u e => by
  rw [upd_ne (ne_of_none e h)]
  exact s b u e
def TK (H H' : Hp) : Prop := ∀ a xs, Rd H a (.tup xs) → Rd H' a (.tup xs)
theorem TK.refl (H : Hp) : TK H H := fun _ _ h => h
theorem TK.trans {H H1 H2 : Hp} (a : TK H H1) (b : TK H1 H2) : TK H H2 := fun x o h => b x o (a x o h)
theorem same_tk {H H' : Hp} (s : Same H H') : TK H H' := fun a xs h => h.elim (fun h => .inl (s _ _ h)) fun ⟨o, h⟩ => .inr ⟨o, s _ _ h⟩
theorem tk_upd {H : Hp} {p : Addr} {o u : HO} (h : H p = some u) (hu : ∀ xs, u ≠ .tup xs) (hf : ∀ o xs, u ≠ .frz o (.tup xs)) : TK H (upd H p o) := fun a xs q => by
  rcases q with q | ⟨z, q⟩
  · exact .inl (by rw [upd_ne (ne_of q h fun e => hu xs e.symm)]; exact q)
  · exact .inr ⟨z, by rw [upd_ne (ne_of q h fun e => hf z xs e.symm)]; exact q⟩
theorem tk_lst {H : Hp} {p : Addr} {o : HO} {ys : List V} (h : H p = some (.lst ys)) : TK H (L2.upd H p o) := tk_upd h (fun _ e => by cases e) fun _ _ e => by cases e
theorem tk_dk {H : Hp} {p : Addr} {o : HO} {ys : List (Key × V)} (h : H p = some (.dK ys)) : TK H (L2.upd H p o) := tk_upd h (fun _ e => by cases e) fun _ _ e => by cases e
theorem tk_ins {H : Hp} {p C dx : Addr} {o : HO} {ys : List (Str × V)} (h : H p = some (.ins C dx ys)) : TK H (L2.upd H p o) := tk_upd h (fun _ e => by cases e) fun _ _ e => by cases e
section
variable {K : PySem.W.Frag} {H H' : Hp} {v : V} {q : Rat} {a : Addr} {xs : List V}
theorem sqT_tk (h : SqT K H a xs) (t : TK H H') : SqT K H' a xs := h.elim (fun h => .inl (t _ _ h)) .inr
theorem sqT_of (h : H a = some (.tup xs)) : SqT K H a xs := .inl (.inl h)
theorem sqL_of (h : H a = some (.lst xs)) : SqL K H a xs := .inl (.inl h)
/-! ### a fraction, a pair, a list of pairs -/
def FrV (K : PySem.W.Frag) (H : Hp) (v : V) (q : Rat) : Prop := ∃ p, v = .ref p ∧ SqT K H p [.int q.num, .int q.den]
def PrV (K : PySem.W.Frag) (H : Hp) (v : V) (t : Int × Rat) : Prop := ∃ p x, v = .ref p ∧ SqT K H p [.int t.1, x] ∧ FrV K H x t.2
abbrev PrsV (K : PySem.W.Frag) (H : Hp) : List V → Rw → Prop := Paired (PrV K H)
theorem frV_tk (h : FrV K H v q) (t : TK H H') : FrV K H' v q := by
  obtain ⟨p, e, s⟩ := h
  exact ⟨p, e, sqT_tk s t⟩
theorem prV_tk {x : Int × Rat} (h : PrV K H v x) (t : TK H H') : PrV K H' v x := by
  obtain ⟨p, y, e, s, f⟩ := h
  exact ⟨p, y, e, sqT_tk s t, frV_tk f t⟩
theorem prsV_tk : ∀ {xs : List V} {ps : Rw}, PrsV K H xs ps → TK H H' → PrsV K H' xs ps
  | _, _, .nil, _ => .nil
  | _, _, .cons h r, t => .cons (prV_tk h t) (prsV_tk r t)
def fr (q : Rat) : PyData := .tuple [.int q.num, .int q.den]
def pr (p : Int × Rat) : PyData := .tuple [.int p.1, fr p.2]
theorem frV_dp (h : FrV K H v q) : Dp K H v (fr q) := by
  obtain ⟨p, rfl, s⟩ := h
  exact .tup s (.cons (.int _) (.cons (.int _) .nil))
theorem prV_dp {x : Int × Rat} (h : PrV K H v x) : Dp K H v (pr x) := by
  obtain ⟨p, y, rfl, s, f⟩ := h
  exact .tup s (.cons (.int _) (.cons (frV_dp f) .nil))
theorem prsV_dp : ∀ {xs : List V} {ps : Rw}, PrsV K H xs ps → DpAll K H xs (ps.map pr)
  | _, _, .nil => .nil
  | _, _, .cons h r => .cons (prV_dp h) (prsV_dp r)
theorem pLen {α β : Type} {R : α → β → Prop} : ∀ {xs : List α} {ys : List β}, Paired R xs ys → xs.length = ys.length
  | _, _, .nil => rfl
  | _, _, .cons _ r => congrArg (· + 1) (pLen r)
theorem pGet {α β : Type} {R : α → β → Prop} : ∀ {xs : List α} {ys : List β}, Paired R xs ys → ∀ {i : Nat} {x : α}, xs[i]? = some x → ∃ y, ys[i]? = some y ∧ R x y
  | _, _, .nil, i, x, h => by simp at h
  | _, _, .cons r t, 0, x, h => by simp at h; subst h; exact ⟨_, rfl, r⟩
  | _, _, .cons r t, i + 1, x, h => by
    obtain ⟨y, h1, h2⟩ := pGet t (i := i) (x := x) (by simpa using h)
    exact ⟨y, by simpa using h1, h2⟩
theorem pApp {α β : Type} {R : α → β → Prop} : ∀ {xs xs' : List α} {ys ys' : List β}, Paired R xs ys → Paired R xs' ys' → Paired R (xs ++ xs') (ys ++ ys')
  | _, _, _, _, .nil, h => h
  | _, _, _, _, .cons r t, h => .cons r (pApp t h)
theorem pImp {α β : Type} {R S : α → β → Prop} (f : ∀ a b, R a b → S a b) : ∀ {xs : List α} {ys : List β}, Paired R xs ys → Paired S xs ys
  | _, _, .nil => .nil
  | _, _, .cons r t => .cons (f _ _ r) (pImp f t)
theorem pRev {α β : Type} {R : α → β → Prop} {xs : List α} {ys : List β} (h : Paired R xs ys) : Paired R xs.reverse ys.reverse := by
  induction h with
  | nil => exact .nil
  | cons r _ ih => rw [List.reverse_cons, List.reverse_cons]; exact pApp ih (.cons r .nil)
end
/-! ### == of this data -/
theorem eqv_fr (p q : Rat) : PyData.eqv (fr p) (fr q) = decide (p = q) := by
  simp only [fr, PyData.eqv, PyData.eqvAll, Bool.and_true]
  by_cases h : p = q
  · subst h; simp
  · rw [decide_eq_false h]
    by_cases h1 : p.num = q.num
    · have h2 : p.den ≠ q.den := fun e => h (Rat.ext h1 e)
      have : ((p.den : Int) == (q.den : Int)) = false := by simp; omega
      rw [this, Bool.and_false]
    · have : (p.num == q.num) = false := by simp [h1]
      rw [this, Bool.false_and]
theorem eqv_pr (p q : Int × Rat) : PyData.eqv (pr p) (pr q) = decide (p = q) := by
  have e : PyData.eqv (pr p) (pr q) = ((p.1 == q.1) && PyData.eqv (fr p.2) (fr q.2)) := by
    simp only [pr, PyData.eqv, PyData.eqvAll, Bool.and_true]
  rw [e, eqv_fr]
  obtain ⟨a, b⟩ := p
  obtain ⟨c, d⟩ := q
  by_cases h1 : a = c
  · subst h1; simp [Prod.ext_iff]
  · simp [Prod.ext_iff, h1]
theorem eqv_prs : ∀ a b : Rw, PyData.eqvAll (a.map pr) (b.map pr) = decide (a = b)
  | [], [] => by simp [PyData.eqvAll]
  | [], _ :: _ => by simp [PyData.eqvAll]
  | _ :: _, [] => by simp [PyData.eqvAll]
  | p :: a, q :: b => by
    simp only [List.map_cons, PyData.eqvAll, eqv_pr, eqv_prs a b]
    by_cases h1 : p = q
    · by_cases h2 : a = b
      · subst h1 h2; simp
      · simp [h1, h2]
    · simp [h1]
theorem lay_fr (q : Rat) : (fr q).canLay0 = true := by simp [fr, PyData.canLay0, PyData.canLayAll0]
theorem dep_fr (q : Rat) : (fr q).depth = 1 := by simp [fr, PyData.depth, PyData.depthAll]
theorem sh_fr (q : Rat) : SeqAt.shaped (fr q) = true := by
  show ((fr q).canLay0 && decide ((fr q).depth ≤ 64)) = true
  rw [lay_fr, dep_fr]; decide
theorem lay_pr (q : Int × Rat) : (pr q).canLay0 = true := by simp [pr, PyData.canLay0, PyData.canLayAll0, lay_fr]
theorem dep_pr (q : Int × Rat) : (pr q).depth = 2 := by simp [pr, PyData.depth, PyData.depthAll, dep_fr]
theorem lay_prs : ∀ a : Rw, PyData.canLayAll0 (a.map pr) = true
  | [] => by simp [PyData.canLayAll0]
  | p :: a => by simp [PyData.canLayAll0, lay_pr p, lay_prs a]
theorem dep_prs : ∀ a : Rw, PyData.depthAll (a.map pr) ≤ 2
  | [] => by simp [PyData.depthAll]
  | p :: a => by
    have := dep_prs a
    have := dep_pr p
    simp only [List.map_cons, PyData.depthAll]
    omega
theorem sh_prs (a : Rw) : SeqAt.shaped (.list (a.map pr)) = true := by
  have h := dep_prs a
  have h2 : PyData.depth (.list (a.map pr)) ≤ 64 := by simp only [PyData.depth]; omega
  show (PyData.canLay0 (.list (a.map pr)) && decide (PyData.depth (.list (a.map pr)) ≤ 64)) = true
  rw [Bool.and_eq_true]
  exact ⟨by simp only [PyData.canLay0]; exact lay_prs a, decide_eq_true h2⟩
theorem eqv_lists (a b : Rw) : PyData.eqv (.list (a.map pr)) (.list (b.map pr)) = decide (a = b) := by simp only [PyData.eqv]; exact eqv_prs a b
theorem sh_ints (ns : List Int) : SeqAt.shaped (.list (ns.map PyData.int)) = true := PySem.W.shaped_ints ns

/-! ### // by any divisor but 0 -/
def CDivA (_ j : Int) : Prop := j ≠ 0 ∧ j.natAbs.log2 < 9000
theorem op_fdivA {X : Cx} : OpR X (binaryOp .FloorDiv) (rI CDivA fun i j => .int (i.fdiv j)) := opI fun i j _ _ _ _ _ hc q => floordiv_int hc.1 q (.inl (PyProof.noPylong_of_log2 hc.2))
theorem cdiv_of {i j : Int} {b : Nat} (h0 : j ≠ 0) (h : j.natAbs < 2 ^ b) (hb : 0 < b) (h9 : b ≤ 9000) : CDivA i j := ⟨h0, Nat.lt_of_lt_of_le (PySem.Flt.log2_lt_of hb h) h9⟩
theorem cmul_of {i j : Int} {a b : Nat} (ha : i.natAbs < 2 ^ a) (hb : j.natAbs < 2 ^ b) (h : a + b ≤ 900000) : CMulW i j := by
  refine wide_mul (a := a + 1) (b := b + 1) (Nat.lt_of_lt_of_le ha (Nat.pow_le_pow_right (by omega) (by omega))) (Nat.lt_of_lt_of_le hb (Nat.pow_le_pow_right (by omega) (by omega))) (by omega) (by omega) (by omega)

/-! ### == of two dicts whose values are data -/
def KvD (K : PySem.W.Frag) (H : Hp) : List (Key × V) → List (Key × PyData) → Prop := Paired fun p q => p.1 = q.1 ∧ Dp K H p.2 q.2 ∧ SeqAt.shaped q.2 = true
def findD (es : List (Key × PyData)) (k : Key) : Option PyData := (es.find? fun q => decide (q.1 = k)).map (·.2)
def eqKv (ds es : List (Key × PyData)) : Bool := ds.length == es.length && ds.all fun p => match findD es p.1 with | some e => PyData.eqv p.2 e | none => false
section
variable {X : Cx} {pins : List (Addr × Obj)} {σ : St7} {H : Hp} {s : Shared}
theorem find_kv (I : Inv X pins σ H s) (k : Key) : ∀ {ls : List (Key × V)} {es : List (Key × PyData)} {vb : List (Key × Value)}, KvD X.K H ls es → KV ls vb →
    (findD es k = none ∧ PySem.valueAt vb k = none) ∨ ∃ e y as, findD es k = some e ∧ PySem.valueAt vb k = some y ∧ Reads s.heap y e as ∧ SeqAt.shaped e = true
  | [], _, _, h, r => by
    cases h
    cases r
    exact .inl ⟨rfl, rfl⟩
  | p :: ls, _, _, h, r => by
    cases h with
    | @cons _ q _ es h1 h2 =>
      cases r with
      | @cons _ w _ vb r1 r2 =>
        obtain ⟨e1, d1, s1⟩ := h1
        obtain ⟨c1, c2⟩ := r1
        by_cases hk : p.1 = k
        · obtain ⟨as, rd⟩ := Dp.reads I q.2 p.2 w.2 d1 c2
          refine .inr ⟨q.2, w.2, as, ?_, ?_, rd, s1⟩
          · unfold findD
            rw [List.find?_cons_of_pos (by rw [← e1]; exact decide_eq_true hk)]
            rfl
          · unfold PySem.valueAt
            rw [List.find?_cons_of_pos (by rw [← c1]; exact decide_eq_true hk)]
            rfl
        · rcases find_kv I k h2 r2 with ⟨a, b⟩ | ⟨e, y, as, a, b, c, d⟩
          · refine .inl ⟨?_, ?_⟩
            · unfold findD
              rw [List.find?_cons_of_neg (by rw [← e1]; simpa using hk)]
              exact a
            · unfold PySem.valueAt
              rw [List.find?_cons_of_neg (by rw [← c1]; simpa using hk)]
              exact b
          · refine .inr ⟨e, y, as, ?_, ?_, c, d⟩
            · unfold findD
              rw [List.find?_cons_of_neg (by rw [← e1]; simpa using hk)]
              exact a
            · unfold PySem.valueAt
              rw [List.find?_cons_of_neg (by rw [← c1]; simpa using hk)]
              exact b
theorem hits_kv (I : Inv X pins σ H s) {A : Around} (hu : A.units + 64 < cLine) {ls : List (Key × V)} {es : List (Key × PyData)} {vb : List (Key × Value)} (hl : KvD X.K H ls es) (rb : KV ls vb) :
    ∀ {ks : List (Key × V)} {ds : List (Key × PyData)} {va : List (Key × Value)}, KvD X.K H ks ds → KV ks va →
      PySem.W.KeqHitsP X.prog X.w A s vb va (ds.all fun p => match findD es p.1 with | some e => PyData.eqv p.2 e | none => false)
  | [], _, _, h, r => by
    cases h
    cases r
    exact .nil
  | p :: ks, _, _, h, r => by
    cases h with
    | @cons _ q _ ds h1 h2 =>
      cases r with
      | @cons _ w _ va r1 r2 =>
        obtain ⟨e1, d1, s1⟩ := h1
        obtain ⟨c1, c2⟩ := r1
        obtain ⟨k, z⟩ := w
        simp only at c1 c2
        subst c1
        rw [List.all_cons, ← e1]
        rcases find_kv I p.1 hl rb with ⟨a, b⟩ | ⟨e, y, bs, a, b, c, d⟩
        · rw [a]
          exact .miss b
        · rw [a]
          obtain ⟨as, rd⟩ := Dp.reads I q.2 p.2 z d1 c2
          exact .hit b (SeqAt.eqAt_reads q.2 e A s z y as bs rd c (SeqAt.canLay_of_shaped s1) (SeqAt.canLay_of_shaped d) (SeqAt.room_of_shaped s1 hu)).eqP (hits_kv I hu hl rb h2 r2)
def rEqDd (K : PySem.W.Frag) : R2 := fun x y H Q => ∃ a b ks ls ds es, x = .ref a ∧ y = .ref b ∧ H a = some (.dK ks) ∧ H b = some (.dK ls) ∧ KvD K H ks ds ∧ KvD K H ls es ∧ Q (.bl (eqKv ds es)) H
end
theorem op_eqDd {X : Cx} (hu : X.A.units + 70 < cLine) : OpR X (compareOp .Eq) (rEqDd X.K) := by
  intro pins s σ H x y v u Q I rx ry h
  obtain ⟨a, b, ks, ls, ds, es, rfl, rfl, ha, hb, hk, hl, q⟩ := h
  cases rx
  cases ry
  obtain ⟨_, ya, va, ra, da⟩ := (show ObjOk X.prog X.w H s.heap a (.dK ks) from I.hok a _ ha)
  obtain ⟨_, yb, vb, rb, db⟩ := (show ObjOk X.prog X.w H s.heap b (.dK ls) from I.hok b _ hb)
  unfold compareOp
  refine PySem.W.rcP_dicts (knd := mixKind X.prog X.w) ya yb da db (by omega) (fun _ => hits_kv I (by show X.A.units + 1 + 64 < cLine; omega) hl rb hk ra) _ _ ?_
  have l1 : va.length = ds.length := by rw [← ra.length, Paired.length hk]
  have l2 : vb.length = es.length := by rw [← rb.length, Paired.length hl]
  rw [l1, l2]
  exact ⟨.bl _, H, I, rfl, q⟩
end Q7
set_option maxRecDepth 100000
set_option maxHeartbeats 4000000
namespace Q7
open PySem PySem.Spec PyProof.Rows L2
/-! ### a head's facts, and tests of one's own beside them -/
abbrev Tst : Type := PySem.W.Frag → Bool
def hookX (n : Nat) (fa : List He.Fa) (fn : List He.DefD) (ex : List Tst) : PySem.W.Hook where
  α := He.AlD × Bool
  obs := fun s => (He.obsD fa fn (He.frG s.heap.get? (He.asD s.heap.get? n)), ex.all fun f => f (He.frG s.heap.get? (He.asD s.heap.get? n)))
  val := fun _ => (He.valD fn, true)
  says := fun _ h => ∃ K : PySem.W.Frag, K.In h ∧ He.SaysD fa fn K ∧ (ex.all fun f => f K) = true
  of := fun _ _ e => ⟨_, He.frG_in, congrArg (fun z : He.AlD × Bool => z.1) e, congrArg (fun z : He.AlD × Bool => z.2) e⟩
  keeps := fun _ _ _ ⟨K, hK, c⟩ k => ⟨K, PySem.W.Frag.In.keeps hK k, c⟩
def obX (n : Nat) (fa : List He.Fa) (fn : List He.DefD) (ex : List Tst) (g : Addr → Option Obj) : He.AlD × Bool := (He.obsD fa fn (He.frG g (He.asD g n)), ex.all fun f => f (He.frG g (He.asD g n)))
theorem obX_eq {n : Nat} {fa : List He.Fa} {fn : List He.DefD} {ex : List Tst} {g : Addr → Option Obj} {s : Shared} (h : ∀ a, g a = s.heap.get? a) : obX n fa fn ex g = (hookX n fa fn ex).obs s := by
  have e : g = s.heap.get? := funext h
  rw [e] <;> rfl
theorem tst_at {ex : List Tst} {K : PySem.W.Frag} (h : (ex.all fun f => f K) = true) (i : Nat) {f : Tst} (e : ex[i]? = some f := by rfl) : f K = true := List.all_eq_true.mp h f (List.mem_of_getElem? e)
/-! ### such tests -/
def tFind (x : Str) (m : Str) (v : Value) : Tst := fun K => He.eqO (PySem.W.findIn K (.ref (He.ga K x)) m) (some (some v))
def tGlo (x : Str) (v : Value) : Tst := fun K => He.eqO (PySem.W.nsIn K mainGlobals x) (some (some v))
theorem tGlo_ok {x : Str} {v : Value} {K : PySem.W.Frag} {h : Heap} {mg : Str → Option Value} (X : K.In h) (G : h.Ns mainGlobals mg) (c : tGlo x v K = true) : mg x = some v := PySem.W.mg_of X G (He.eqO_ok c)
def tKit (a b : String) (r : Bool) : Tst := fun K => decide (PySem.W.kitOne K (.type a) (.type b) = some r)
theorem tKit_ok {a b : String} {r : Bool} {K : PySem.W.Frag} (c : tKit a b r K = true) : PySem.W.kitOne K (.type a) (.type b) = some r := of_decide_eq_true c
def tFirst (x : Str) : Tst := fun K => PySem.W.selfFirst K (He.ga K x)
/-- an instance of the class at x is one of it -/
def tIns (x : Str) : Tst := fun K => He.eqO (PySem.W.findIn K (.ref (He.ga K x)) "__class__") (some (some (.builtin "object.__class__"))) &&
  (He.eqO (PySem.W.specialIn K (.builtin "object.__class__") "__get__") (some (some (.builtin "getset_descriptor.__get__"))) && (decide (PySem.W.takesIn K (.builtin "object.__class__") = some true) &&
  (decide (PySem.W.mroIn K (He.ga K x) (.type "object") = some true) && decide (PySem.W.kitOne K (.ref (He.ga K x)) (.ref (He.ga K x)) = some true))))
structure InsC (K : PySem.W.Frag) (C : Addr) : Prop where
  ha : PySem.W.findIn K (.ref C) "__class__" = some (some (.builtin "object.__class__"))
  hn : PySem.W.specialIn K (.builtin "object.__class__") "__get__" = some (some (.builtin "getset_descriptor.__get__"))
  ht : PySem.W.takesIn K (.builtin "object.__class__") = some true
  hm : PySem.W.mroIn K C (.type "object") = some true
  is : PySem.W.kitOne K (.ref C) (.ref C) = some true
theorem tIns_ok {x : Str} {K : PySem.W.Frag} (c : tIns x K = true) : InsC K (He.ga K x) := by
  obtain ⟨h1, c⟩ := He.ba c
  obtain ⟨h2, c⟩ := He.ba c
  obtain ⟨h3, c⟩ := He.ba c
  obtain ⟨h4, h5⟩ := He.ba c
  exact ⟨He.eqO_ok h1, He.eqO_ok h2, of_decide_eq_true h3, of_decide_eq_true h4, of_decide_eq_true h5⟩
theorem InsC.ty {K : PySem.W.Frag} {C : Addr} (i : InsC K C) (cl : Cls K C) {H : Hp} {a dx : Addr} {fs : List (Str × V)} (e : H a = some (.ins C dx fs)) : TyX K H (.ref a) (.ref C) := .base (.ins e cl i.ha i.hn i.ht i.hm)
/-- the class at x, straight below object, has an __eq__ and no __ne__ -/
def tNe (x : Str) : Tst := fun K => match K.lookup (He.ga K x) with
  | some ⟨.type t, _, .cls cd, sl⟩ => decide (t = "type") && (decide (cd.mro = [.ref (He.ga K x), .type "object"]) && (cd.hasDict && (!cd.hasDel && ((match sl.toList with
      | [_, _, _, _, some (.builtin _), _] => true
      | _ => false) &&
      (PySem.W.nsOkIn K cd.ns && (He.eqO (PySem.W.nsIn K cd.ns "__eq__") (some (some (.ref (He.ma K (He.ga K x) "__eq__")))) && (He.eqO (PySem.W.nsIn K cd.ns "__ne__") (some none) &&
      (match K.lookup (He.ma K (He.ga K x) "__eq__") with
        | some ⟨.type f, _, _, _⟩ => decide (f = "function")
        | _ => false))))))))
  | _ => false
theorem tNe_ok {x : Str} {K : PySem.W.Frag} (c : tNe x K = true) : NeTxt K (He.ga K x) (He.ma K (He.ga K x) "__eq__") := by
  unfold tNe at c
  cases e : K.lookup (He.ga K x) with
  | none => rw [e] at c; cases c
  | some o =>
    rw [e] at c
    obtain ⟨oc, od, dt, sl⟩ := o
    cases oc with
    | type t =>
      cases dt with
      | cls cd =>
        obtain ⟨h1, c⟩ := He.ba c
        obtain ⟨h2, c⟩ := He.ba c
        obtain ⟨h3, c⟩ := He.ba c
        obtain ⟨h4, c⟩ := He.ba c
        obtain ⟨h5, c⟩ := He.ba c
        obtain ⟨h6, c⟩ := He.ba c
        obtain ⟨h7, c⟩ := He.ba c
        obtain ⟨h8, h9⟩ := He.ba c
        have e1 := of_decide_eq_true h1
        have e2 := of_decide_eq_true h2
        subst e1
        obtain ⟨nm, bs, mro, ns, qn, hdct, sn, sub, ab, col, hd⟩ := cd
        simp only at e2 h3 h4 h6 h7 h8
        subst e2
        cases hdct with
        | false => cases h3
        | true =>
          cases hd with
          | true => cases h4
          | false =>
            obtain ⟨sl⟩ := sl
            simp only at h5
            rcases sl with _ | ⟨a0, _ | ⟨a1, _ | ⟨a2, _ | ⟨a3, _ | ⟨a4, _ | ⟨a5, _ | ⟨a6, sl⟩⟩⟩⟩⟩⟩⟩
            case cons.cons.cons.cons.cons.cons.nil =>
              rcases a4 with _ | a4
              · cases h5
              cases a4 with
              | builtin n =>
                refine ⟨⟨nm, qn, ns, bs, sn, sub, ab, col, od, a0, a1, a2, a3, a5, n, e, h6, He.eqO_ok h7, He.eqO_ok h8⟩, ?_⟩
                cases e9 : K.lookup (He.ma K (He.ga K x) "__eq__") with
                | none => rw [e9] at h9; cases h9
                | some of =>
                  rw [e9] at h9
                  obtain ⟨fc, fdd, fdt, fsl⟩ := of
                  cases fc with
                  | type f => exact ⟨_, rfl, by rw [of_decide_eq_true h9]⟩
                  | _ => cases h9
              | _ => cases h5
            all_goals first | (cases h5; done) | (simp at h5; done) | (rcases a4 with _ | ⟨_⟩ <;> first | (cases h5; done) | (simp at h5; done))
      | _ => cases c
    | _ => cases dt <;> cases c
end Q7
set_option maxHeartbeats 2000000
namespace Q7
/-- q is n / D with n of size at most M -/
def ND (D M : Nat) (q : Rat) : Prop := ∃ n : Int, q = Rat.divInt n D ∧ n.natAbs ≤ M
theorem ND.mono {D M M' : Nat} {q : Rat} (h : ND D M q) (l : M ≤ M') : ND D M' q := by
  obtain ⟨n, e, b⟩ := h
  exact ⟨n, e, by omega⟩
theorem ND.zero (D : Nat) : ND D 0 0 := ⟨0, by rw [Rat.zero_divInt], by decide⟩
theorem ND.zeroM (D M : Nat) : ND D M 0 := (ND.zero D).mono (by omega)
theorem ND.add {D M M' : Nat} {p q : Rat} (hD : 0 < D) (hp : ND D M p) (hq : ND D M' q) : ND D (M + M') (p + q) := by
  obtain ⟨n, rfl, b⟩ := hp
  obtain ⟨m, rfl, c⟩ := hq
  refine ⟨n + m, ?_, by omega⟩
  have hD' : (D : Int) ≠ 0 := by omega
  rw [Rat.divInt_add_divInt _ _ hD' hD', ← Int.add_mul]
  exact Rat.divInt_mul_right (by omega)
theorem ND.neg {D M : Nat} {q : Rat} (h : ND D M q) : ND D M (-q) := by
  obtain ⟨n, rfl, b⟩ := h
  exact ⟨-n, by rw [Rat.neg_divInt], by omega⟩
theorem ND.mul {D M D' M' : Nat} {p q : Rat} (hp : ND D M p) (hq : ND D' M' q) : ND (D * D') (M * M') (p * q) := by
  obtain ⟨n, rfl, b⟩ := hp
  obtain ⟨m, rfl, c⟩ := hq
  refine ⟨n * m, ?_, ?_⟩
  · rw [Rat.divInt_mul_divInt]
    rw [Int.natCast_mul]
  · rw [Int.natAbs_mul]
    exact Nat.mul_le_mul b c
theorem ND.scale {D M k : Nat} {q : Rat} (hk : 0 < k) (h : ND D M q) : ND (D * k) (M * k) q := by
  obtain ⟨n, rfl, b⟩ := h
  refine ⟨n * k, ?_, ?_⟩
  · rw [Int.natCast_mul]
    exact (Rat.divInt_mul_right (by omega)).symm
  · rw [Int.natAbs_mul, Int.natAbs_natCast]
    exact Nat.mul_le_mul b (Nat.le_refl _)
theorem ND.B {D M n : Nat} {q : Rat} (hD : 0 < D) (h : ND D M q) (h1 : D < 2 ^ n) (h2 : M < 2 ^ n) : B n q := by
  obtain ⟨m, rfl, b⟩ := h
  exact B.div (by omega) (by omega) (by omega)
/-- a list of pairs within bounds -/
structure Gd (D M T L : Nat) (ps : Rw) : Prop where
  nd : ∀ p ∈ ps, ND D M p.2
  lo : ∀ p ∈ ps, 0 ≤ p.1
  hi : ∀ p ∈ ps, p.1 ≤ T
  len : ps.length ≤ L
theorem Gd.mono {D M T L M' T' L' : Nat} {ps : Rw} (h : Gd D M T L ps) (h1 : M ≤ M') (h2 : T ≤ T') (h3 : L ≤ L') : Gd D M' T' L' ps :=
  ⟨fun p hp => (h.nd p hp).mono h1, h.lo, fun p hp => by have := h.hi p hp; omega, by have := h.len; omega⟩
theorem Gd.app {D M T L L' : Nat} {a b : Rw} (ha : Gd D M T L a) (hb : Gd D M T L' b) : Gd D M T (L + L') (a ++ b) := by
  refine ⟨?_, ?_, ?_, ?_⟩
  · intro p hp; rcases List.mem_append.mp hp with h | h; exact ha.nd p h; exact hb.nd p h
  · intro p hp; rcases List.mem_append.mp hp with h | h; exact ha.lo p h; exact hb.lo p h
  · intro p hp; rcases List.mem_append.mp hp with h | h; exact ha.hi p h; exact hb.hi p h
  · rw [List.length_append]; have := ha.len; have := hb.len; omega
theorem Gd.sub {D M T L : Nat} {a b : Rw} (h : Gd D M T L b) (s : a.Sublist b) : Gd D M T L a :=
  ⟨fun p hp => h.nd p (s.subset hp), fun p hp => h.lo p (s.subset hp), fun p hp => h.hi p (s.subset hp), Nat.le_trans s.length_le h.len⟩
theorem Gd.prod {D M T L D' M' T' L' : Nat} {a b : Rw} (ha : Gd D M T L a) (hb : Gd D' M' T' L' b) : Gd (D * D') (M * M') (T + T') (L * L') (prod a b) := by
  refine ⟨?_, ?_, ?_, ?_⟩
  · intro p hp
    obtain ⟨x, hx, h⟩ := List.mem_flatMap.mp hp
    obtain ⟨y, hy, rfl⟩ := List.mem_map.mp h
    exact (ha.nd x hx).mul (hb.nd y hy)
  · intro p hp
    obtain ⟨x, hx, h⟩ := List.mem_flatMap.mp hp
    obtain ⟨y, hy, rfl⟩ := List.mem_map.mp h
    have := ha.lo x hx; have := hb.lo y hy
    show 0 ≤ x.1 + y.1
    omega
  · intro p hp
    obtain ⟨x, hx, h⟩ := List.mem_flatMap.mp hp
    obtain ⟨y, hy, rfl⟩ := List.mem_map.mp h
    have := ha.hi x hx; have := hb.hi y hy
    show x.1 + y.1 ≤ _
    omega
  · have e : (Q7.prod a b).length = a.length * b.length := by
      unfold Q7.prod
      rw [List.length_flatMap]
      simp [List.map_const']
    rw [e]
    exact Nat.mul_le_mul ha.len hb.len
theorem ND.wt {D M : Nat} (hD : 0 < D) (t : Int) : ∀ {ps : Rw}, (∀ p ∈ ps, ND D M p.2) → ND D (ps.length * M) (wt (at_ t) ps)
  | [], _ => by simpa [Q7.wt] using ND.zero D
  | (u, q) :: r, h => by
    have ih := ND.wt hD t (ps := r) fun p hp => h p (List.mem_cons_of_mem _ hp)
    have h1 := h (u, q) List.mem_cons_self
    rw [List.length_cons, Nat.succ_mul, Nat.add_comm]
    show ND D (M + r.length * M) (q * at_ t u + Q7.wt (at_ t) r)
    refine ND.add hD ?_ ih
    unfold at_
    by_cases e : u = t
    · rw [if_pos e, Rat.mul_one]; exact h1
    · rw [if_neg e, Rat.mul_zero]; exact ND.zeroM D M
theorem Nf.wt_mem : ∀ {a : Rw}, Nf a → ∀ p ∈ a, wt (at_ p.1) a = p.2
  | (t, q) :: r, h, p, hp => by
    rcases List.mem_cons.mp hp with rfl | hp
    · exact wt_at_head fun x hx => by have := h.head x hx; show x.1 ≠ t; simp only at this; omega
    · have e := Nf.wt_mem h.tail p hp
      have l := h.head p hp
      show q * at_ p.1 t + wt (at_ p.1) r = _
      unfold at_ at *
      rw [if_neg (by simp only at l; omega), Rat.mul_zero, Rat.zero_add]
      exact e
theorem len_range : ∀ {l : List Int} {lo hi : Int}, l.Pairwise (· < ·) → (∀ x ∈ l, lo ≤ x ∧ x ≤ hi) → lo ≤ hi + 1 → (l.length : Int) ≤ hi + 1 - lo
  | [], lo, hi, _, _, h => by simp only [List.length_nil]; omega
  | x :: r, lo, hi, hp, hb, h => by
    have h1 := hb x List.mem_cons_self
    have h2 := List.pairwise_cons.mp hp
    have := len_range (l := r) (lo := x + 1) (hi := hi) h2.2 (fun y hy => ⟨by have := h2.1 y hy; omega, (hb y (List.mem_cons_of_mem _ hy)).2⟩) (by omega)
    rw [List.length_cons]
    omega
theorem look_mem : ∀ {m : Rw} {t : Int}, (∀ p ∈ m, p.1 ≠ t) → look m t = 0
  | [], _, _ => rfl
  | (u, x) :: r, t, h => by
    unfold look
    rw [if_neg (h (u, x) List.mem_cons_self)]
    exact look_mem fun p hp => h p (List.mem_cons_of_mem _ hp)
theorem look_wt : ∀ {m : Rw}, (m.map (·.1)).Nodup → ∀ t, look m t = wt (at_ t) m
  | [], _, t => rfl
  | (u, x) :: r, h, t => by
    have h1 := List.nodup_cons.mp h
    unfold look
    by_cases e : u = t
    · subst e
      rw [if_pos rfl]
      exact (wt_at_head fun p hp e => h1.1 (List.mem_map.mpr ⟨p, hp, e⟩)).symm
    · rw [if_neg e, look_wt h1.2 t]
      show _ = x * at_ t u + _
      unfold at_
      rw [if_neg e, Rat.mul_zero, Rat.zero_add]
theorem look_sums (ps : Rw) (t : Int) : look (sums ps) t = wt (at_ t) ps := by rw [look_wt (sums_nodup ps), wt_sums]
theorem sums_keys_go : ∀ (ps m : Rw) (k : Int), k ∈ (ps.foldl (fun m p => putS m p.1 p.2) m).map (·.1) → k ∈ m.map (·.1) ∨ k ∈ ps.map (·.1)
  | [], m, k, h => .inl h
  | (t, q) :: r, m, k, h => by
    rcases sums_keys_go r _ k h with h | h
    · rw [put_keys] at h
      by_cases h2 : t ∈ m.map (·.1)
      · rw [if_pos h2] at h; exact .inl h
      · rw [if_neg h2] at h
        rcases List.mem_append.mp h with h | h
        · exact .inl h
        · rw [List.mem_singleton] at h
          subst h
          exact .inr (by simp)
    · exact .inr (List.mem_cons_of_mem _ h)
theorem sums_keys {ps : Rw} {k : Int} (h : k ∈ (sums ps).map (·.1)) : k ∈ ps.map (·.1) := by
  rcases sums_keys_go ps [] k h with h | h
  · simp at h
  · exact h
theorem put_len (t : Int) (q : Rat) (m : Rw) : (putS m t q).length ≤ m.length + 1 := by
  have := congrArg List.length (put_keys t q m)
  rw [List.length_map] at this
  rw [this]
  split <;> simp
theorem sums_len_go : ∀ (ps m : Rw), (ps.foldl (fun m p => putS m p.1 p.2) m).length ≤ m.length + ps.length
  | [], m => by simp
  | (t, q) :: r, m => by
    have h := sums_len_go r (putS m t q)
    have := put_len t q m
    simp only [List.foldl, List.length_cons]
    omega
theorem sums_len (ps : Rw) : (sums ps).length ≤ ps.length := by
  have := sums_len_go ps []
  simpa [sums] using this
theorem norm_sub (ps : Rw) : ∀ p ∈ norm ps, p.1 ∈ ps.map (·.1) := by
  intro p hp
  unfold norm pick at hp
  obtain ⟨k, hk, rfl⟩ := List.mem_map.mp (List.mem_filter.mp hp).1
  exact sums_keys (List.mem_mergeSort.mp hk)
theorem norm_len (ps : Rw) : (norm ps).length ≤ ps.length := by
  unfold norm pick
  refine Nat.le_trans (List.length_filter_le _ _) ?_
  rw [List.length_map, List.length_mergeSort, List.length_map]
  exact sums_len ps
theorem Gd.norm {D M T L : Nat} {ps : Rw} (hD : 0 < D) (h : Gd D M T L ps) : Gd D (L * M) T L (norm ps) := by
  have key : ∀ p ∈ Q7.norm ps, 0 ≤ p.1 ∧ p.1 ≤ T := fun p hp => by
    obtain ⟨x, hx, e⟩ := List.mem_map.mp (norm_sub ps p hp)
    rw [← e]
    exact ⟨h.lo x hx, h.hi x hx⟩
  refine ⟨fun p hp => ?_, fun p hp => (key p hp).1, fun p hp => (key p hp).2, Nat.le_trans (norm_len ps) h.len⟩
  rw [← (norm_nf ps).wt_mem p hp, wt_norm]
  exact (ND.wt hD _ h.nd).mono (Nat.mul_le_mul h.len (Nat.le_refl _))
/-- as many as ticks, at most -/
theorem Gd.short {D M T L : Nat} {a : Rw} (n : Nf a) (h : Gd D M T L a) : Gd D M T (T + 1) a := by
  refine ⟨h.nd, h.lo, h.hi, ?_⟩
  have := len_range (l := a.map (·.1)) (lo := 0) (hi := T) (List.pairwise_map.mpr n.asc) (fun x hx => by
    obtain ⟨p, hp, rfl⟩ := List.mem_map.mp hx
    exact ⟨h.lo p hp, h.hi p hp⟩) (by omega)
  rw [List.length_map] at this
  omega
theorem Gd.normT {D M T L : Nat} {ps : Rw} (hD : 0 < D) (h : Gd D M T L ps) : Gd D (L * M) T (T + 1) (Q7.norm ps) := (h.norm hD).short (norm_nf ps)
theorem ND.sum {D M : Nat} (hD : 0 < D) : ∀ {qs : List Rat}, (∀ q ∈ qs, ND D M q) → ND D (qs.length * M) qs.sum
  | [], _ => by simpa using ND.zero D
  | q :: r, h => by
    have ih := ND.sum hD (qs := r) fun p hp => h p (List.mem_cons_of_mem _ hp)
    rw [List.length_cons, Nat.succ_mul, Nat.add_comm, List.sum_cons]
    exact ND.add hD (h q List.mem_cons_self) ih
/-- within the bounds of one row -/
def Gq (ps : Rw) : Prop := ∃ D M T, Gd D M T 63 ps ∧ 0 < D ∧ D < 2 ^ 1000 ∧ M < 2 ^ 1000
theorem Gq.of {D M T L : Nat} {ps : Rw} (h : Gd D M T L ps) (hD : 0 < D) (h1 : D < 2 ^ 1000) (h2 : M < 2 ^ 1000) (h3 : L ≤ 63) : Gq ps := ⟨D, M, T, h.mono (Nat.le_refl _) (Nat.le_refl _) h3, hD, h1, h2⟩
theorem pow_le' {a b : Nat} (h : a ≤ b) : (2 : Nat) ^ a ≤ 2 ^ b := Nat.pow_le_pow_right (by omega) h
theorem lt_1000 {D : Nat} (h : D < 2 ^ 1000) : D < 2 ^ 3000 := Nat.lt_of_lt_of_le h (pow_le' (by omega))
theorem lt_1006 {M n : Nat} (h : M < 2 ^ 1000) (hn : n ≤ 64) : n * M < 2 ^ 3000 := by
  have h1 : n * M ≤ 2 ^ 6 * M := Nat.mul_le_mul (by omega) (Nat.le_refl _)
  have h2 : 2 ^ 6 * M < 2 ^ 6 * 2 ^ 1000 := Nat.mul_lt_mul_of_pos_left h (by omega)
  rw [← Nat.pow_add] at h2
  have h3 := pow_le' (show 6 + 1000 ≤ 3000 by omega)
  omega
theorem Gq.mem {ps : Rw} (h : Gq ps) : ∀ p ∈ ps, B 3000 p.2 := fun p hp => by
  obtain ⟨D, M, T, g, hD, h1, h2⟩ := h
  exact (g.nd p hp).B hD (lt_1000 h1) (Nat.lt_of_lt_of_le h2 (pow_le' (by omega)))
theorem Gq.lo {ps : Rw} (h : Gq ps) : ∀ p ∈ ps, 0 ≤ p.1 := fun p hp => by
  obtain ⟨D, M, T, g, _⟩ := h
  exact g.lo p hp
theorem Gq.len {ps : Rw} (h : Gq ps) : ps.length ≤ 63 := by
  obtain ⟨D, M, T, g, _⟩ := h
  exact g.len
theorem Gq.sub {a b : Rw} (h : Gq b) (s : a.Sublist b) : Gq a := by
  obtain ⟨D, M, T, g, r⟩ := h
  exact ⟨D, M, T, g.sub s, r⟩
theorem Gq.look {ps : Rw} (h : Gq ps) (i : Nat) (t : Int) : B 3000 (look (sums (ps.take i)) t) := by
  obtain ⟨D, M, T, g, hD, h1, h2⟩ := h
  rw [look_sums]
  refine (ND.wt hD t (ps := ps.take i) (M := M) fun p hp => g.nd p (List.mem_of_mem_take hp)).B hD (lt_1000 h1) (lt_1006 h2 ?_)
  rw [List.length_take]
  have := g.len
  omega
theorem Gq.look' {ps : Rw} (h : Gq ps) (t : Int) : B 3000 (Q7.look (sums ps) t) := by
  have := h.look ps.length t
  rwa [List.take_length] at this
theorem Gq.psum {ps : Rw} (h : Gq ps) (i : Nat) : B 3000 ((ps.map (·.2)).take i).sum := by
  obtain ⟨D, M, T, g, hD, h1, h2⟩ := h
  refine (ND.sum hD (qs := (ps.map (·.2)).take i) (M := M) fun q hq => ?_).B hD (lt_1000 h1) (lt_1006 h2 ?_)
  · obtain ⟨p, hp, rfl⟩ := List.mem_map.mp (List.mem_of_mem_take hq)
    exact g.nd p hp
  · rw [List.length_take, List.length_map]
    have := g.len
    omega
end Q7
set_option maxRecDepth 100000
set_option maxHeartbeats 4000000
namespace Q7
open PySem PySem.Spec PyProof.Rows L2
theorem tyT {K : PySem.W.Frag} {H : Hp} {p : Addr} {xs : List V} (h : SqT K H p xs) : TyX K H (.ref p) (.type "tuple") := by
  rcases h with (h | ⟨o, h⟩) | ⟨o, us, n, h, hc, _⟩
  · exact .base (.tup h)
  · exact .fTuple h
  · exact .kTuple h hc
theorem tyL {K : PySem.W.Frag} {H : Hp} {p : Addr} {xs : List V} (h : SqL K H p xs) : TyX K H (.ref p) (.type "list") := by
  rcases h with (h | ⟨o, h⟩) | ⟨o, us, n, h, hc, _⟩
  · exact .base (.lst h)
  · exact .base (.frz h)
  · exact .kList h hc
/-- a dict comprehension over a list that stays -/
theorem dc_list {K : PySem.W.Frag} {a : Addr} {xs : List V} {g : TG} {tt : TT} {tk tv : TE} {vs : List Nat} {σ : L2.St} {H1 : Hp} {D : Addr} {Qd : Hp → Prop} (Pv : Nat → Hp → Prop) (h0 : Pv 0 (upd H1 D (.dK []))) (hl : ∀ i H, i ≤ xs.length → Pv i H → SqL K H a xs)
    (hs : ∀ i x H, xs[i]? = some x → Pv i H → g x (wipe σ vs) H fun σ2 H2 => wipe σ2 vs = wipe σ vs ∧ tt σ2 H2 fun b H3 =>
      if b = true then tk σ2 H3 fun y H4 => tv σ2 H4 fun z H5 => ∃ kvs k, y = kV k ∧ H5 D = some (.dK kvs) ∧ kvs.length < sizeLine ∧ Pv (i + 1) (upd H5 D (.dK (putK kvs k z))) else Pv (i + 1) H3) (hd : ∀ H, Pv xs.length H → Qd H) :
    ∃ W : Nat → Nat → Hp → Prop, (∃ m, W 0 m (upd H1 D (.dK []))) ∧ ∀ i m H, W i m H →
      ((Itl K a).stop i H ∧ Qd H) ∨ ((Itl K a).go i H ∧ ∃ Nx : Hp → Prop, (∀ H', Nx H' → ∃ m', m' < m ∧ W (i + 1) m' H') ∧ ∀ x H', (Itl K a).yld i H x H' → g x (wipe σ vs) H' fun σ2 H2 => wipe σ2 vs = wipe σ vs ∧ tt σ2 H2 fun b H3 =>
        if b = true then tk σ2 H3 fun y H4 => tv σ2 H4 fun z H5 => ∃ kvs k, y = kV k ∧ H5 D = some (.dK kvs) ∧ kvs.length < sizeLine ∧ Nx (upd H5 D (.dK (putK kvs k z))) else Nx H3) := by
  refine ⟨fun i m H => m = xs.length - i ∧ i ≤ xs.length ∧ Pv i H, ⟨xs.length, by simp, Nat.zero_le _, h0⟩, ?_⟩
  rintro i m H ⟨rfl, hi, p⟩
  have q := hl i H hi p
  by_cases hlt : i < xs.length
  · refine .inr ⟨⟨xs, xs[i], q, by simp [hlt]⟩, Pv (i + 1), fun H' p' => ⟨xs.length - (i + 1), by omega, rfl, hlt, p'⟩, fun x H' y => ?_⟩
    obtain ⟨e, y⟩ := y
    subst e
    exact hs i x _ (y xs q) p
  · have e : i = xs.length := by omega
    subst e
    exact .inl ⟨⟨xs, q, Nat.le_refl _⟩, hd H p⟩
/-! ### dicts of fractions -/
def KvF (K : PySem.W.Frag) (H : Hp) : List (Key × V) → Rw → Prop := Paired fun kv p => kv.1 = Sum.inl p.1 ∧ FrV K H kv.2 p.2
section
variable {K : PySem.W.Frag} {H H' : Hp}
theorem kvF_tk : ∀ {ks : List (Key × V)} {m : Rw}, KvF K H ks m → TK H H' → KvF K H' ks m
  | _, _, .nil, _ => .nil
  | _, _, .cons h r, t => .cons ⟨h.1, frV_tk h.2 t⟩ (kvF_tk r t)
theorem kvF_get (t : Int) : ∀ {ks : List (Key × V)} {m : Rw}, KvF K H ks m → (valV ks (Sum.inl t) = none ∧ t ∉ m.map (·.1) ∧ look m t = 0) ∨ ∃ v, valV ks (Sum.inl t) = some v ∧ t ∈ m.map (·.1) ∧ FrV K H v (look m t)
  | _, _, .nil => .inl ⟨rfl, by simp, rfl⟩
  | _, _, .cons (a := kv) (b := (u, x)) (l₁ := ks) (l₂ := m) h r => by
    by_cases e : u = t
    · subst e
      exact .inr ⟨kv.2, valV_pos h.1, by simp, by unfold look; rw [if_pos rfl]; exact h.2⟩
    · have e2 : ¬ kv.1 = Sum.inl t := fun q => e (by rw [h.1] at q; exact Sum.inl.inj q)
      unfold look
      rw [valV_neg e2, if_neg e]
      rcases kvF_get t r with ⟨a, b, c⟩ | ⟨v, a, b, c⟩
      · exact .inl ⟨a, by simp only [List.map_cons, List.mem_cons]; rintro (q | q); exact e q.symm; exact b q, c⟩
      · exact .inr ⟨v, a, List.mem_cons_of_mem _ b, c⟩
theorem putK_eq {kv : Key × V} {r : List (Key × V)} {k : Key} {v : V} (e : kv.1 = k) (n : valV r k = none) : putK (kv :: r) k v = (kv.1, v) :: r := by
  unfold putK
  rw [if_pos (by rw [List.any_cons, decide_eq_true e]; rfl), List.map_cons, if_pos e]
  congr 1
  have : ∀ q ∈ r, (if q.1 = k then (q.1, v) else q) = q := fun q hq => by
    have h1 : (r.any fun kv => decide (kv.1 = k)) = false := by rw [valV_any, n]; rfl
    rw [if_neg fun e => by
      have := List.any_eq_false.mp h1 q hq
      exact this (decide_eq_true e)]
  exact (List.map_congr_left this).trans (List.map_id r)
theorem putK_ne {kv : Key × V} {r : List (Key × V)} {k : Key} {v : V} (e : ¬ kv.1 = k) : putK (kv :: r) k v = kv :: putK r k v := by
  unfold putK
  rw [List.any_cons, decide_eq_false e, Bool.false_or]
  by_cases h : (r.any fun kv => decide (kv.1 = k)) = true
  · rw [if_pos h, if_pos h, List.map_cons, if_neg e]
  · rw [if_neg h, if_neg h]
    rfl
theorem kvF_put {t : Int} {v : V} {q : Rat} : ∀ {ks : List (Key × V)} {m : Rw}, KvF K H ks m → (m.map (·.1)).Nodup → FrV K H v (look m t + q) → KvF K H (putK ks (Sum.inl t) v) (putS m t q)
  | _, _, .nil, _, f => .cons ⟨rfl, f⟩ .nil
  | _, _, .cons (a := kv) (b := (u, x)) (l₁ := ks) (l₂ := m) h r, nd, f => by
    have h1 := List.nodup_cons.mp nd
    unfold look at f
    unfold putS
    by_cases e : u = t
    · subst e
      rw [if_pos rfl] at f
      rw [if_pos rfl]
      rcases kvF_get u r with ⟨a, b, c⟩ | ⟨w, a, b, c⟩
      · rw [putK_eq h.1 a]
        exact .cons ⟨h.1, f⟩ r
      · exact absurd b h1.1
    · have e2 : ¬ kv.1 = Sum.inl t := fun q => e (by rw [h.1] at q; exact Sum.inl.inj q)
      rw [if_neg e] at f
      rw [if_neg e, putK_ne e2]
      exact .cons h (kvF_put r h1.2 f)
theorem kvF_keys : ∀ {ks : List (Key × V)} {m : Rw}, KvF K H ks m → ks.map (·.1) = (m.map (·.1)).map Sum.inl
  | _, _, .nil => rfl
  | _, _, .cons h r => by
    simp only [List.map_cons]
    rw [h.1, kvF_keys r]
theorem kvF_items {ts : List Addr} {ks : List (Key × V)} {m : Rw} (h : KvF K H ks m) (s : TK H H') (p : Paired (fun (t : Addr) (q : Key × V) => H' t = some (.tup [kV q.1, q.2])) ts ks) : PrsV K H' (ts.map V.ref) m := by
  induction p generalizing m with
  | nil => cases h; exact .nil
  | cons r _ ih =>
    cases h with
    | @cons _ q _ m h1 h2 =>
      obtain ⟨e, f⟩ := h1
      refine .cons ⟨_, _, rfl, sqT_of ?_, frV_tk f s⟩ (ih h2)
      rw [r, e]
      rfl
/-- an own row at v: its shares are a -/
def RowAt (K : PySem.W.Frag) (C : Addr) (H : Hp) (v : V) (a : Rw) : Prop := ∃ x dx d ks, v = .ref x ∧ H x = some (.ins C dx [("_shares", .ref d)]) ∧ H d = some (.dK ks) ∧ KvF K H ks a ∧ Nf a
theorem rowAt_same {C : Addr} {v : V} {a : Rw} (h : RowAt K C H v a) (s : Same H H') : RowAt K C H' v a := by
  obtain ⟨x, dx, d, ks, e, h1, h2, h3, n⟩ := h
  exact ⟨x, dx, d, ks, e, s _ _ h1, s _ _ h2, kvF_tk h3 (same_tk s), n⟩
theorem pick_snoc {m : Rw} {ys : List Int} {i : Nat} {t : Int} (h : ys[i]? = some t) : pick m (ys.take (i + 1)) = if look m t = 0 then pick m (ys.take i) else pick m (ys.take i) ++ [(t, look m t)] := by
  unfold pick
  rw [List.take_succ, h, List.map_append, List.filter_append]
  by_cases e : look m t = 0
  · rw [if_pos e]
    simp [e]
  · rw [if_neg e]
    simp [e]
theorem kvF_snoc {ks : List (Key × V)} {m : Rw} {t : Int} {v : V} {q : Rat} (h : KvF K H ks m) (f : FrV K H v q) : KvF K H (ks ++ [(Sum.inl t, v)]) (m ++ [(t, q)]) := pApp h (.cons ⟨rfl, f⟩ .nil)
theorem sums_take {ps : Rw} {i : Nat} {p : Int × Rat} (h : ps[i]? = some p) : sums (ps.take (i + 1)) = putS (sums (ps.take i)) p.1 p.2 := by
  rw [List.take_succ, h]
  exact sums_snoc _ p
theorem pick_key {m : Rw} {ys : List Int} (nd : ys.Nodup) {i : Nat} {t : Int} (h : ys[i]? = some t) : t ∉ (pick m (ys.take i)).map (·.1) := by
  intro q
  obtain ⟨p, hp, e⟩ := List.mem_map.mp q
  unfold pick at hp
  obtain ⟨k, hk, rfl⟩ := List.mem_map.mp (List.mem_filter.mp hp).1
  simp only at e
  subst e
  obtain ⟨j, hj, e2⟩ := List.getElem_of_mem hk
  rw [List.getElem_take] at e2
  rw [List.length_take] at hj
  have e3 : ys[j]? = ys[i]? := by rw [h, List.getElem?_eq_getElem (by omega), e2]
  have := (List.getElem?_inj (by omega) nd).mp e3
  omega
theorem frV_same {v : V} {q : Rat} (h : FrV K H v q) (s : Same H H') : FrV K H' v q := frV_tk h (same_tk s)
end
end Q7
set_option maxRecDepth 100000
set_option maxHeartbeats 4000000
namespace Q7
open PySem PySem.Spec PyProof.Rows L2
/-- the turns over a list that stays, from any heap, with any body -/
theorem turn_list {K : PySem.W.Frag} {a : Addr} {xs : List V} {g : TG} {tt : TT} (Bd : L2.St → Hp → (Hp → Prop) → Prop) {vs : List Nat} {σ : L2.St} {Hs : Hp} {Qd : Hp → Prop} (Pv : Nat → Hp → Prop) (h0 : Pv 0 Hs) (hl : ∀ i H, i ≤ xs.length → Pv i H → SqL K H a xs)
    (hs : ∀ i x H, xs[i]? = some x → Pv i H → g x (wipe σ vs) H fun σ2 H2 => wipe σ2 vs = wipe σ vs ∧ tt σ2 H2 fun b H3 =>
      if b = true then Bd σ2 H3 (Pv (i + 1)) else Pv (i + 1) H3) (hd : ∀ H, Pv xs.length H → Qd H) :
    ∃ W : Nat → Nat → Hp → Prop, (∃ m, W 0 m Hs) ∧ ∀ i m H, W i m H →
      ((Itl K a).stop i H ∧ Qd H) ∨ ((Itl K a).go i H ∧ ∃ Nx : Hp → Prop, (∀ H', Nx H' → ∃ m', m' < m ∧ W (i + 1) m' H') ∧ ∀ x H', (Itl K a).yld i H x H' → g x (wipe σ vs) H' fun σ2 H2 => wipe σ2 vs = wipe σ vs ∧ tt σ2 H2 fun b H3 =>
        if b = true then Bd σ2 H3 Nx else Nx H3) := by
  refine ⟨fun i m H => m = xs.length - i ∧ i ≤ xs.length ∧ Pv i H, ⟨xs.length, by simp, Nat.zero_le _, h0⟩, ?_⟩
  rintro i m H ⟨rfl, hi, p⟩
  have q := hl i H hi p
  by_cases hlt : i < xs.length
  · refine .inr ⟨⟨xs, xs[i], q, by simp [hlt]⟩, Pv (i + 1), fun H' p' => ⟨xs.length - (i + 1), by omega, rfl, hlt, p'⟩, fun x H' y => ?_⟩
    obtain ⟨e, y⟩ := y
    subst e
    exact hs i x _ (y xs q) p
  · have e : i = xs.length := by omega
    subst e
    exact .inl ⟨⟨xs, q, Nat.le_refl _⟩, hd H p⟩
/-! ### equality of dicts of fractions -/
def enc (a : Rw) : List (Key × PyData) := a.map fun p => (Sum.inl p.1, fr p.2)
theorem kvF_kvd {K : PySem.W.Frag} {H : Hp} : ∀ {ks : List (Key × V)} {m : Rw}, KvF K H ks m → KvD K H ks (enc m)
  | _, _, .nil => .nil
  | _, _, .cons h r => .cons ⟨h.1, frV_dp h.2, sh_fr _⟩ (kvF_kvd r)
theorem find_enc (t : Int) : ∀ {b : Rw}, (∃ q, findD (enc b) (Sum.inl t) = some (fr q) ∧ (t, q) ∈ b) ∨ (findD (enc b) (Sum.inl t) = none ∧ t ∉ b.map (·.1))
  | [] => .inr ⟨rfl, by simp⟩
  | (u, x) :: b => by
    by_cases e : u = t
    · subst e
      refine .inl ⟨x, ?_, List.mem_cons_self⟩
      unfold findD enc
      rw [List.map_cons, List.find?_cons_of_pos (by simp)]
      rfl
    · have e2 : findD (enc ((u, x) :: b)) (Sum.inl t) = findD (enc b) (Sum.inl t) := by
        unfold findD enc
        rw [List.map_cons, List.find?_cons_of_neg (by simp; exact e)]
      rw [e2]
      rcases find_enc t (b := b) with ⟨q, h1, h2⟩ | ⟨h1, h2⟩
      · exact .inl ⟨q, h1, List.mem_cons_of_mem _ h2⟩
      · exact .inr ⟨h1, by simp only [List.map_cons, List.mem_cons]; rintro (q | q); exact e q.symm; exact h2 q⟩
theorem sub_len : ∀ {b a : Rw}, (a.Pairwise fun x y => x.1 < y.1) → (b.Pairwise fun x y => x.1 < y.1) → (∀ p ∈ a, p ∈ b) → a.length ≤ b.length ∧ (a.length = b.length → a = b)
  | [], a, _, _, s => by
    cases a with
    | nil => exact ⟨Nat.le_refl _, fun _ => rfl⟩
    | cons p r => exact absurd (s p List.mem_cons_self) (by simp)
  | q :: b, [], _, _, _ => ⟨by simp, fun h => by simp at h⟩
  | q :: b, p :: a, ha, hb, s => by
    have a2 := List.pairwise_cons.mp ha
    have b2 := List.pairwise_cons.mp hb
    rcases List.mem_cons.mp (s p List.mem_cons_self) with e | h
    · subst e
      have ih := sub_len (b := b) (a := a) a2.2 b2.2 fun x hx => by
        rcases List.mem_cons.mp (s x (List.mem_cons_of_mem _ hx)) with e | h
        · subst e; have := a2.1 x hx; omega
        · exact h
      refine ⟨by simp only [List.length_cons]; omega, fun h => ?_⟩
      rw [ih.2 (by simp only [List.length_cons] at h; omega)]
    · have ih := sub_len (b := b) (a := p :: a) ha b2.2 fun x hx => by
        rcases List.mem_cons.mp hx with rfl | hx2
        · exact h
        · rcases List.mem_cons.mp (s x hx) with e | h2
          · subst e; have h3 := a2.1 x hx2; have h4 := b2.1 p h; omega
          · exact h2
      refine ⟨by simp only [List.length_cons] at *; omega, fun h => ?_⟩
      simp only [List.length_cons] at *
      omega
theorem nd_of_asc {b : Rw} (h : b.Pairwise fun x y => x.1 < y.1) {t : Int} {x y : Rat} (h1 : (t, x) ∈ b) (h2 : (t, y) ∈ b) : x = y := by
  induction b with
  | nil => simp at h1
  | cons p r ih =>
    have h3 := List.pairwise_cons.mp h
    rcases List.mem_cons.mp h1 with e | m1
    · rcases List.mem_cons.mp h2 with e2 | m2
      · rw [← e] at e2; exact (Prod.mk.inj e2).2.symm
      · have := h3.1 _ m2; rw [← e] at this; simp at this
    · rcases List.mem_cons.mp h2 with e2 | m2
      · have := h3.1 _ m1; rw [← e2] at this; simp at this
      · exact ih h3.2 m1 m2
theorem eqKv_enc {a b : Rw} (na : Nf a) (nb : Nf b) : eqKv (enc a) (enc b) = decide (a = b) := by
  unfold eqKv
  rw [show (enc a).length = a.length from List.length_map .., show (enc b).length = b.length from List.length_map ..]
  by_cases hl : a.length = b.length
  · rw [show (a.length == b.length) = true by simpa using hl, Bool.true_and]
    by_cases h : ∀ p ∈ a, p ∈ b
    · have e := (sub_len na.asc nb.asc h).2 hl
      subst e
      rw [decide_eq_true rfl, List.all_eq_true]
      intro q hq
      obtain ⟨p, hp, rfl⟩ := List.mem_map.mp hq
      simp only
      rcases find_enc p.1 (b := a) with ⟨x, h1, h2⟩ | ⟨_, h2⟩
      · rw [h1]
        simp only
        rw [nd_of_asc na.asc h2 hp, eqv_fr, decide_eq_true rfl]
      · exact absurd (List.mem_map.mpr ⟨p, hp, rfl⟩) h2
    · rw [decide_eq_false fun e => h (by subst e; exact fun p hp => hp)]
      rw [List.all_eq_false]
      have ⟨p, hp⟩ := Classical.not_forall.mp h
      have ⟨hp1, hp2⟩ := Classical.not_imp.mp hp
      refine ⟨_, List.mem_map.mpr ⟨p, hp1, rfl⟩, ?_⟩
      simp only
      rcases find_enc p.1 (b := b) with ⟨x, h1, h2⟩ | ⟨h1, _⟩
      · rw [h1]
        simp only
        rw [eqv_fr, decide_eq_false]
        · simp
        · intro e; exact hp2 (by rw [← e] at h2; exact h2)
      · rw [h1]
        simp
  · rw [show (a.length == b.length) = false by simpa using hl, Bool.false_and, decide_eq_false fun e => hl (by rw [e])]
end Q7
set_option maxHeartbeats 2000000
namespace Q7
def mv (n : Int) (a : Rw) : Rw := a.map fun p => (p.1 + n, p.2)
def upTo (n : Int) (a : Rw) : Rw := a.filter fun p => decide (p.1 ≤ n)
def eqAt (n : Int) (a : Rw) : Rw := a.filter fun p => decide (p.1 = n)
theorem wt_mv (f : Int → Rat) (n : Int) : ∀ a : Rw, wt f (mv n a) = wt (fun t => f (t + n)) a
  | [] => rfl
  | (t, q) :: r => by
    show q * f (t + n) + wt f (mv n r) = _
    rw [wt_mv f n r]
    rfl
theorem nf_mv {n : Int} {a : Rw} (h : Nf a) : Nf (mv n a) := by
  refine ⟨?_, ?_⟩
  · unfold mv
    rw [List.pairwise_map]
    exact h.asc.imp fun h => by show _ + n < _ + n; omega
  · intro p hp
    obtain ⟨x, hx, rfl⟩ := List.mem_map.mp hp
    exact h.nz x hx
theorem nf_sub {a b : Rw} (h : Nf b) (s : a.Sublist b) : Nf a := ⟨h.asc.sublist s, fun p hp => h.nz p (s.subset hp)⟩
theorem nf_upTo {n : Int} {a : Rw} (h : Nf a) : Nf (upTo n a) := nf_sub h List.filter_sublist
theorem one_mv (n : Int) (a : Rw) : norm (mv n a) = norm (prod a (norm [(n, 1)])) := norm_eq fun f => by
  rw [wt_mv, wt_prod]
  congr 1
  funext t
  rw [wt_norm]
  show _ = 1 * f (t + n) + 0
  rw [Rat.one_mul, Rat.add_zero]
theorem sum_at (n : Int) : ∀ a : Rw, ((eqAt n a).map (·.2)).sum = wt (at_ n) a
  | [] => rfl
  | (t, q) :: r => by
    have ih := sum_at n r
    unfold eqAt at *
    show _ = q * at_ n t + wt (at_ n) r
    unfold at_ at *
    by_cases e : t = n
    · rw [if_pos e, Rat.mul_one, List.filter_cons_of_pos (by simpa using e), List.map_cons, List.sum_cons, ih]
    · rw [if_neg e, Rat.mul_zero, Rat.zero_add, List.filter_cons_of_neg (by simpa using e), ih]
theorem look_nf {a : Rw} (h : Nf a) (t : Int) : look a t = wt (at_ t) a := look_wt (List.nodup_iff_pairwise_ne.mpr (by
  rw [List.pairwise_map]
  exact h.asc.imp fun h => by omega)) t
theorem look_at {a : Rw} (h : Nf a) (n : Int) : look a n = ((eqAt n a).map (·.2)).sum := by rw [look_nf h, sum_at]
theorem norm_rev (ps : Rw) : norm ps.reverse = norm ps := norm_eq fun f => wt_perm f (List.reverse_perm ps)
theorem norm_norm (ps : Rw) : norm (norm ps) = norm ps := norm_self (norm_nf ps)
/-- two ascending lists with the same members -/
theorem asc_eq : ∀ {l l' : List Int}, l.Pairwise (· < ·) → l'.Pairwise (· < ·) → (∀ x, x ∈ l ↔ x ∈ l') → l = l'
  | [], [], _, _, _ => rfl
  | [], y :: r, _, _, h => absurd ((h y).mpr List.mem_cons_self) (by simp)
  | x :: r, [], _, _, h => absurd ((h x).mp List.mem_cons_self) (by simp)
  | x :: r, y :: s, h1, h2, h => by
    have a1 := List.pairwise_cons.mp h1
    have a2 := List.pairwise_cons.mp h2
    have e : x = y := by
      rcases List.mem_cons.mp ((h x).mp List.mem_cons_self) with e | m
      · exact e
      · rcases List.mem_cons.mp ((h y).mpr List.mem_cons_self) with e | m2
        · exact e.symm
        · have := a1.1 y m2; have := a2.1 x m; omega
    subst e
    rw [asc_eq a1.2 a2.2 fun z => ⟨fun m => by
      rcases List.mem_cons.mp ((h z).mp (List.mem_cons_of_mem _ m)) with e | m2
      · subst e; have := a1.1 z m; omega
      · exact m2, fun m => by
      rcases List.mem_cons.mp ((h z).mpr (List.mem_cons_of_mem _ m)) with e | m2
      · subst e; have := a2.1 z m; omega
      · exact m2⟩]
/-- the ticks below n of a row within -/
def ticksIn (n : Nat) (a : Rw) : List Int := ((List.range n).map fun k => ((k : Nat) : Int)).filter fun t => decide (t ∈ a.map (·.1))
theorem ticks_all {n : Nat} {a : Rw} (h : Nf a) (hb : ∀ p ∈ a, 0 ≤ p.1 ∧ p.1 < n) : ticksIn n a = a.map (·.1) := by
  refine asc_eq ?_ (List.pairwise_map.mpr h.asc) fun x => ?_
  · refine List.Pairwise.filter _ ?_
    rw [List.pairwise_map]
    exact List.pairwise_lt_range.imp fun h => by omega
  · unfold ticksIn
    rw [List.mem_filter]
    constructor
    · intro ⟨_, h⟩; exact of_decide_eq_true h
    · intro hx
      refine ⟨?_, decide_eq_true hx⟩
      obtain ⟨p, hp, rfl⟩ := List.mem_map.mp hx
      have := hb p hp
      exact List.mem_map.mpr ⟨p.1.toNat, List.mem_range.mpr (by omega), by omega⟩
/-! ### the identities of rows -/
theorem add_ok (a b : Rw) : norm (norm a ++ norm b) = norm (a ++ b) := norm_eq fun f => by rw [wt_append, wt_append, wt_norm, wt_norm]
theorem mul_ok (a b : Rw) : norm (prod (norm a) (norm b)) = norm (prod a b) := norm_eq fun f => by
  rw [wt_prod, wt_prod, wt_norm]
  congr 1
  funext t
  rw [wt_norm]
theorem mul_comm' (a b : Rw) : norm (prod a b) = norm (prod b a) := norm_eq fun f => by
  rw [wt_prod, wt_prod, wt_swap]
  congr 1
  funext t
  congr 1
  funext u
  rw [Int.add_comm]
theorem add_comm' (a b : Rw) : norm (a ++ b) = norm (b ++ a) := norm_eq fun f => by rw [wt_append, wt_append, Rat.add_comm]
theorem mul_assoc' (a b c : Rw) : norm (prod (norm (prod a b)) c) = norm (prod a (norm (prod b c))) := norm_eq fun f => by
  rw [wt_prod, wt_norm, wt_prod, wt_prod]
  congr 1
  funext t
  rw [wt_norm, wt_prod]
  congr 1
  funext u
  congr 1
  funext v
  rw [Int.add_assoc]
theorem mul_add' (a b c : Rw) : norm (prod a (norm (b ++ c))) = norm (norm (prod a b) ++ norm (prod a c)) := norm_eq fun f => by
  rw [wt_append, wt_norm, wt_norm, wt_prod, wt_prod, wt_prod, ← wt_add]
  congr 1
  funext t
  rw [wt_norm, wt_append]
/-! ### sizes -/
theorem Gd.mv {D M T L : Nat} {a : Rw} (h : Gd D M T L a) {n : Int} {N : Nat} (h0 : 0 ≤ n) (h1 : n ≤ N) : Gd D M (T + N) L (mv n a) := by
  refine ⟨?_, ?_, ?_, ?_⟩
  · intro p hp; obtain ⟨x, hx, rfl⟩ := List.mem_map.mp hp; exact h.nd x hx
  · intro p hp; obtain ⟨x, hx, rfl⟩ := List.mem_map.mp hp; have := h.lo x hx; show 0 ≤ x.1 + n; omega
  · intro p hp; obtain ⟨x, hx, rfl⟩ := List.mem_map.mp hp; have := h.hi x hx; show x.1 + n ≤ _; omega
  · unfold Q7.mv; rw [List.length_map]; exact h.len
theorem ND.one : ND 1 1 1 := ⟨1, by rfl, by decide⟩
theorem Gd.single {n : Int} {N : Nat} (h0 : 0 ≤ n) (h1 : n ≤ N) : Gd 1 1 N 1 [(n, 1)] := by
  refine ⟨?_, ?_, ?_, by simp⟩
  · intro p hp; rw [List.mem_singleton] at hp; subst hp; exact ND.one
  · intro p hp; rw [List.mem_singleton] at hp; subst hp; exact h0
  · intro p hp; rw [List.mem_singleton] at hp; subst hp; exact h1
/-- as rows of the law are -/
def Gs (ps : Rw) : Prop := ∃ D M, Gd D M 8 63 ps ∧ 0 < D ∧ D < 2 ^ 900 ∧ M < 2 ^ 900
theorem lt_k {M n a b : Nat} (h : M < 2 ^ a) (hn : n ≤ 2 ^ 8) (hab : a + 8 ≤ b) : n * M < 2 ^ b := by
  have h1 : n * M ≤ 2 ^ 8 * M := Nat.mul_le_mul hn (Nat.le_refl _)
  have h2 : 2 ^ 8 * M < 2 ^ 8 * 2 ^ a := Nat.mul_lt_mul_of_pos_left h (by decide)
  rw [← Nat.pow_add] at h2
  have h3 := pow_le' (show 8 + a ≤ b by omega)
  omega
theorem Gs.q {ps : Rw} (h : Gs ps) : Gq ps := by
  obtain ⟨D, M, g, hD, h1, h2⟩ := h
  exact ⟨D, M, 8, g, hD, Nat.lt_of_lt_of_le h1 (pow_le' (by decide)), Nat.lt_of_lt_of_le h2 (pow_le' (by decide))⟩
theorem Gs.norm {ps : Rw} (h : Gs ps) : Gq (norm ps) := by
  obtain ⟨D, M, g, hD, h1, h2⟩ := h
  exact ⟨D, 63 * M, 8, g.norm hD, hD, Nat.lt_of_lt_of_le h1 (pow_le' (by decide)), lt_k h2 (by decide) (by decide)⟩
theorem Gs.mv {ps : Rw} (h : Gs ps) {n : Int} (h0 : 0 ≤ n) (h1' : n ≤ 8) : Gq (mv n (Q7.norm ps)) := by
  obtain ⟨D, M, g, hD, h1, h2⟩ := h
  exact ⟨D, 63 * M, 8 + 8, (g.norm hD).mv (N := 8) h0 (by omega), hD, Nat.lt_of_lt_of_le h1 (pow_le' (by decide)), lt_k h2 (by decide) (by decide)⟩
theorem Gq.single {n : Int} (h0 : 0 ≤ n) (h1 : n ≤ 8) : Gq [(n, 1)] := ⟨1, 1, 8, (Gd.single (N := 8) h0 (by omega)).mono (Nat.le_refl _) (Nat.le_refl _) (by decide), by decide, Nat.one_lt_two_pow (by decide), Nat.one_lt_two_pow (by decide)⟩
theorem Gq.singleN {n : Int} (h0 : 0 ≤ n) (h1 : n ≤ 8) : Gq (norm [(n, 1)]) := ⟨1, 1 * 1, 8, ((Gd.single (N := 8) h0 (by omega)).norm (by decide)).mono (Nat.le_refl _) (Nat.le_refl _) (by decide), by decide, Nat.one_lt_two_pow (by decide), Nat.one_lt_two_pow (by decide)⟩
theorem Gs.single {ps : Rw} (h : Gs ps) {n : Int} (h0 : 0 ≤ n) (h1' : n ≤ 8) : Gq (prod (Q7.norm ps) (Q7.norm [(n, 1)])) := by
  obtain ⟨D, M, g, hD, h1, h2⟩ := h
  have := (g.norm hD).prod ((Gd.single (N := 8) h0 (by omega)).norm (by decide))
  exact ⟨D * 1, (63 * M) * (1 * 1), 8 + 8, this, by omega, by rw [Nat.mul_one]; exact Nat.lt_of_lt_of_le h1 (pow_le' (by decide)), by rw [Nat.mul_one]; exact lt_k h2 (by decide) (by decide)⟩
theorem Gs.tick {ps : Rw} (h : Gs ps) : ∀ p ∈ Q7.norm ps, 0 ≤ p.1 ∧ p.1 < (9 : Nat) := by
  obtain ⟨D, M, g, hD, h1, h2⟩ := h
  intro p hp
  have g2 := g.norm hD
  have := g2.lo p hp
  have := g2.hi p hp
  omega
theorem p900 {D : Nat} (h : D < 2 ^ 100) : D < 2 ^ 900 := Nat.lt_of_lt_of_le h (pow_le' (by decide))
theorem p1000 {D : Nat} (h : D < 2 ^ 100) : D < 2 ^ 1000 := Nat.lt_of_lt_of_le h (pow_le' (by decide))
abbrev Gp (ps : Rw) : Prop := Gd 60 240 4 5 ps
section
variable {a b c : Rw}
theorem Gp.s (h : Gp a) : Gs a := ⟨60, 240, h.mono (by decide) (by decide) (by decide), by decide, p900 (by decide), p900 (by decide)⟩
theorem Gp.n (h : Gp a) : Gd 60 1200 4 5 (norm a) := h.norm (by decide)
theorem Gp.gq (h : Gp a) : Gq (norm a) := h.s.norm
theorem Gp.pr (h : Gp a) (k : Gp b) : Gd 3600 57600 8 25 (prod a b) := h.prod k
theorem Gp.prq (h : Gp a) (k : Gp b) : Gq (prod a b) := Gq.of (h.pr k) (by decide) (p1000 (by decide)) (p1000 (by decide)) (by decide)
theorem Gp.prs (h : Gp a) (k : Gp b) : Gs (norm (prod a b)) := ⟨3600, 25 * 57600, ((h.pr k).norm (by decide)).mono (Nat.le_refl _) (by decide) (by decide), by decide, p900 (by decide), p900 (by decide)⟩
theorem Gp.sum (h : Gp a) (k : Gp b) : Gd 60 240 4 10 (a ++ b) := h.app k
theorem Gp.sumq (h : Gp a) (k : Gp b) : Gq (a ++ b) := Gq.of (h.sum k) (by decide) (p1000 (by decide)) (p1000 (by decide)) (by decide)
theorem Gp.sumn (h : Gp a) (k : Gp b) : Gd 60 1200 4 10 (norm a ++ norm b) := h.n.app k.n
theorem Gp.sumnq (h : Gp a) (k : Gp b) : Gq (norm a ++ norm b) := Gq.of (h.sumn k) (by decide) (p1000 (by decide)) (p1000 (by decide)) (by decide)
theorem Gp.sumN (h : Gp a) (k : Gp b) : Gd 60 12000 4 5 (norm (norm a ++ norm b)) := (h.sumn k).normT (by decide)
theorem Gp.sumNq (h : Gp a) (k : Gp b) : Gq (norm (norm a ++ norm b)) := Gq.of (h.sumN k) (by decide) (p1000 (by decide)) (p1000 (by decide)) (by decide)
theorem Gp.prn (h : Gp a) (k : Gp b) : Gd 3600 1440000 8 25 (prod (norm a) (norm b)) := h.n.prod k.n
theorem Gp.prnq (h : Gp a) (k : Gp b) : Gq (prod (norm a) (norm b)) := Gq.of (h.prn k) (by decide) (p1000 (by decide)) (p1000 (by decide)) (by decide)
theorem Gp.prN (h : Gp a) (k : Gp b) : Gd 3600 36000000 8 9 (norm (prod (norm a) (norm b))) := (h.prn k).normT (by decide)
theorem Gp.prNq (h : Gp a) (k : Gp b) : Gq (norm (prod (norm a) (norm b))) := Gq.of (h.prN k) (by decide) (p1000 (by decide)) (p1000 (by decide)) (by decide)
theorem Gp.pr3 (h : Gp a) (k : Gp b) (l : Gp c) : Gq (prod (norm (prod (norm a) (norm b))) (norm c)) := Gq.of ((h.prN k).prod l.n) (by decide) (p1000 (by decide)) (p1000 (by decide)) (by decide)
theorem Gp.pr3' (h : Gp a) (k : Gp b) (l : Gp c) : Gq (prod (norm a) (norm (prod (norm b) (norm c)))) := Gq.of (h.n.prod (k.prN l)) (by decide) (p1000 (by decide)) (p1000 (by decide)) (by decide)
theorem Gp.prs3 (h : Gp a) (k : Gp b) (l : Gp c) : Gq (prod (norm a) (norm (norm b ++ norm c))) := Gq.of (h.n.prod (k.sumN l)) (by decide) (p1000 (by decide)) (p1000 (by decide)) (by decide)
theorem Gp.spr3 (h : Gp a) (k : Gp b) (l : Gp c) : Gq (norm (prod (norm a) (norm b)) ++ norm (prod (norm a) (norm c))) := Gq.of ((h.prN k).app (h.prN l)) (by decide) (p1000 (by decide)) (p1000 (by decide)) (by decide)
end
end Q7
set_option maxRecDepth 100000
set_option maxHeartbeats 4000000
namespace L86
open PySem PySem.Spec PyProof.Rows L2 Q7
def top (i : Nat) : Stmt := PySem.Challenge.pw_prepaidplans_k86_whole_row_algebra.main.body.getD i (.Pass ⟨0, 0, 0, 0⟩)
abbrev s_is_whole : Stmt := top 2
abbrev s_is_tick : Stmt := top 3
abbrev s_is_fraction : Stmt := top 11
abbrev s_fraction : Stmt := top 12
abbrev s_plus : Stmt := top 13
abbrev s_minus : Stmt := top 14
abbrev s_times : Stmt := top 15
abbrev s_over : Stmt := top 16
abbrev s_is_less : Stmt := top 17
abbrev s_sum_of : Stmt := top 18
abbrev s__check_fractions : Stmt := top 19
abbrev s__reduced : Stmt := top 20
abbrev s__sum : Stmt := top 21
abbrev s__product : Stmt := top 22
abbrev s__is_pair : Stmt := top 23
abbrev s__check_tick : Stmt := top 24
abbrev s__check_row : Stmt := top 25
abbrev s_Row___init__ : Stmt := inClass (top 26) 0
abbrev s_Row___add__ : Stmt := inClass (top 26) 1
abbrev s_Row___mul__ : Stmt := inClass (top 26) 2
abbrev s_Row___eq__ : Stmt := inClass (top 26) 3
abbrev s_Row___len__ : Stmt := inClass (top 26) 4
abbrev s_Row___contains__ : Stmt := inClass (top 26) 5
abbrev s_Row_moved : Stmt := inClass (top 26) 6
abbrev s_Row_cut : Stmt := inClass (top 26) 7
abbrev s_Row_at : Stmt := inClass (top 26) 8
abbrev s_Row_up_to : Stmt := inClass (top 26) 9
abbrev s_Row_total : Stmt := inClass (top 26) 10
abbrev s_Row_pairs : Stmt := inClass (top 26) 11
abbrev s__law_bag : Stmt := top 28
abbrev s__law_draw : Stmt := top 29
abbrev s__law_low : Stmt := top 30
abbrev s__law_pairs : Stmt := top 31
abbrev s__law_added : Stmt := top 32
abbrev s__law_times : Stmt := top 33
abbrev s__law_plain : Stmt := top 34
abbrev s__law_product : Stmt := top 35
abbrev s__law_sum : Stmt := top 36
abbrev s__law_one_right : Stmt := top 37
abbrev s__law_fractions_right : Stmt := top 38
abbrev s__law_right : Stmt := top 39
abbrev s_law : Stmt := top 40
theorem sc_is_whole : FnScope ["value"] ["value"] (defScope s_is_whole) := ⟨rfl, rfl, rfl, by decide +kernel, rfl, by decide +kernel, by decide +kernel⟩
theorem sc_is_tick : FnScope ["value"] ["value"] (defScope s_is_tick) := ⟨rfl, rfl, rfl, by decide +kernel, rfl, by decide +kernel, by decide +kernel⟩
theorem sc_is_fraction : FnScope ["value", "top", "bottom"] ["value"] (defScope s_is_fraction) := ⟨rfl, rfl, rfl, by decide +kernel, rfl, by decide +kernel, by decide +kernel⟩
theorem sc_fraction : FnScope ["top", "bottom"] ["top", "bottom"] (defScope s_fraction) := ⟨rfl, rfl, rfl, by decide +kernel, rfl, by decide +kernel, by decide +kernel⟩
theorem sc_plus : FnScope ["one", "other"] ["one", "other"] (defScope s_plus) := ⟨rfl, rfl, rfl, by decide +kernel, rfl, by decide +kernel, by decide +kernel⟩
theorem sc_minus : FnScope ["one", "other"] ["one", "other"] (defScope s_minus) := ⟨rfl, rfl, rfl, by decide +kernel, rfl, by decide +kernel, by decide +kernel⟩
theorem sc_times : FnScope ["one", "other"] ["one", "other"] (defScope s_times) := ⟨rfl, rfl, rfl, by decide +kernel, rfl, by decide +kernel, by decide +kernel⟩
theorem sc_over : FnScope ["one", "other"] ["one", "other"] (defScope s_over) := ⟨rfl, rfl, rfl, by decide +kernel, rfl, by decide +kernel, by decide +kernel⟩
theorem sc_is_less : FnScope ["one", "other"] ["one", "other"] (defScope s_is_less) := ⟨rfl, rfl, rfl, by decide +kernel, rfl, by decide +kernel, by decide +kernel⟩
theorem sc_sum_of : FnScope ["fractions", "total", "one"] ["fractions"] (defScope s_sum_of) := ⟨rfl, rfl, rfl, by decide +kernel, rfl, by decide +kernel, by decide +kernel⟩
theorem sc__check_fractions : FnScope ["one", "other"] ["one", "other"] (defScope s__check_fractions) := ⟨rfl, rfl, rfl, by decide +kernel, rfl, by decide +kernel, by decide +kernel⟩
theorem sc__reduced : FnScope ["top", "bottom", "divisor"] ["top", "bottom"] (defScope s__reduced) := ⟨rfl, rfl, rfl, by decide +kernel, rfl, by decide +kernel, by decide +kernel⟩
theorem sc__sum : FnScope ["one", "other"] ["one", "other"] (defScope s__sum) := ⟨rfl, rfl, rfl, by decide +kernel, rfl, by decide +kernel, by decide +kernel⟩
theorem sc__product : FnScope ["one", "other"] ["one", "other"] (defScope s__product) := ⟨rfl, rfl, rfl, by decide +kernel, rfl, by decide +kernel, by decide +kernel⟩
theorem sc__is_pair : FnScope ["value"] ["value"] (defScope s__is_pair) := ⟨rfl, rfl, rfl, by decide +kernel, rfl, by decide +kernel, by decide +kernel⟩
theorem sc__check_tick : FnScope ["value"] ["value"] (defScope s__check_tick) := ⟨rfl, rfl, rfl, by decide +kernel, rfl, by decide +kernel, by decide +kernel⟩
theorem sc__check_row : FnScope ["value"] ["value"] (defScope s__check_row) := ⟨rfl, rfl, rfl, by decide +kernel, rfl, by decide +kernel, by decide +kernel⟩
theorem sc_Row___init__ : FnScope ["self", "pairs", "sums", "tick", "share", "pair"] ["self", "pairs"] (defScope s_Row___init__) := ⟨rfl, rfl, rfl, by decide +kernel, rfl, by decide +kernel, by decide +kernel⟩
theorem sc_Row___add__ : FnScope ["self", "other"] ["self", "other"] (defScope s_Row___add__) := ⟨rfl, rfl, rfl, by decide +kernel, rfl, by decide +kernel, by decide +kernel⟩
theorem sc_Row___mul__ : FnScope ["self", "other", "theirs", "mine", "x", "their", "y"] ["self", "other"] (defScope s_Row___mul__) := ⟨rfl, rfl, rfl, by decide +kernel, rfl, by decide +kernel, by decide +kernel⟩
theorem sc_Row___eq__ : FnScope ["self", "other"] ["self", "other"] (defScope s_Row___eq__) := ⟨rfl, rfl, rfl, by decide +kernel, rfl, by decide +kernel, by decide +kernel⟩
theorem sc_Row___len__ : FnScope ["self"] ["self"] (defScope s_Row___len__) := ⟨rfl, rfl, rfl, by decide +kernel, rfl, by decide +kernel, by decide +kernel⟩
theorem sc_Row___contains__ : FnScope ["self", "x"] ["self", "x"] (defScope s_Row___contains__) := ⟨rfl, rfl, rfl, by decide +kernel, rfl, by decide +kernel, by decide +kernel⟩
theorem sc_Row_moved : FnScope ["self", "ticks", "tick", "share"] ["self", "ticks"] (defScope s_Row_moved) := ⟨rfl, rfl, rfl, by decide +kernel, rfl, by decide +kernel, by decide +kernel⟩
theorem sc_Row_cut : FnScope ["self", "tick", "pair"] ["self", "tick"] (defScope s_Row_cut) := ⟨rfl, rfl, rfl, by decide +kernel, rfl, by decide +kernel, by decide +kernel⟩
theorem sc_Row_at : FnScope ["self", "tick"] ["self", "tick"] (defScope s_Row_at) := ⟨rfl, rfl, rfl, by decide +kernel, rfl, by decide +kernel, by decide +kernel⟩
theorem sc_Row_up_to : FnScope ["self", "tick", "when", "share"] ["self", "tick"] (defScope s_Row_up_to) := ⟨rfl, rfl, rfl, by decide +kernel, rfl, by decide +kernel, by decide +kernel⟩
theorem sc_Row_total : FnScope ["self", "_", "share"] ["self"] (defScope s_Row_total) := ⟨rfl, rfl, rfl, by decide +kernel, rfl, by decide +kernel, by decide +kernel⟩
theorem sc_Row_pairs : FnScope ["self"] ["self"] (defScope s_Row_pairs) := ⟨rfl, rfl, rfl, by decide +kernel, rfl, by decide +kernel, by decide +kernel⟩
theorem sc__law_bag : FnScope ["cell", "k"] ["cell", "k"] (defScope s__law_bag) := ⟨rfl, rfl, rfl, by decide +kernel, rfl, by decide +kernel, by decide +kernel⟩
theorem sc__law_draw : FnScope ["bag", "many", "digit", "one"] ["bag", "many"] (defScope s__law_draw) := ⟨rfl, rfl, rfl, by decide +kernel, rfl, by decide +kernel, by decide +kernel⟩
theorem sc__law_low : FnScope ["top", "bottom", "one", "other"] ["top", "bottom"] (defScope s__law_low) := ⟨rfl, rfl, rfl, by decide +kernel, rfl, by decide +kernel, by decide +kernel⟩
theorem sc__law_pairs : FnScope ["bag", "found", "k"] ["bag"] (defScope s__law_pairs) := ⟨rfl, rfl, rfl, by decide +kernel, rfl, by decide +kernel, by decide +kernel⟩
theorem sc__law_added : FnScope ["one", "two"] ["one", "two"] (defScope s__law_added) := ⟨rfl, rfl, rfl, by decide +kernel, rfl, by decide +kernel, by decide +kernel⟩
theorem sc__law_times : FnScope ["one", "two"] ["one", "two"] (defScope s__law_times) := ⟨rfl, rfl, rfl, by decide +kernel, rfl, by decide +kernel, by decide +kernel⟩
theorem sc__law_plain : FnScope ["pairs", "sums", "tick", "number"] ["pairs"] (defScope s__law_plain) := ⟨rfl, rfl, rfl, by decide +kernel, rfl, by decide +kernel, by decide +kernel⟩
theorem sc__law_product : FnScope ["one", "two", "found", "tick", "number", "other", "value"] ["one", "two"] (defScope s__law_product) := ⟨rfl, rfl, rfl, by decide +kernel, rfl, by decide +kernel, by decide +kernel⟩
theorem sc__law_sum : FnScope ["pairs", "total", "tick", "number"] ["pairs"] (defScope s__law_sum) := ⟨rfl, rfl, rfl, by decide +kernel, rfl, by decide +kernel, by decide +kernel⟩
theorem sc__law_one_right : FnScope ["pairs", "tick", "row", "plain", "ahead", "ticks", "pair", "place", "number"] ["pairs", "tick"] (defScope s__law_one_right) := ⟨rfl, rfl, rfl, by decide +kernel, rfl, by decide +kernel, by decide +kernel⟩
theorem sc__law_fractions_right : FnScope ["one", "two"] ["one", "two"] (defScope s__law_fractions_right) := ⟨rfl, rfl, rfl, by decide +kernel, rfl, by decide +kernel, by decide +kernel⟩
theorem sc__law_right : FnScope ["bag", "one", "two", "three", "tick", "here", "there", "third", "numbers", "k", "pair"] ["bag"] (defScope s__law_right) := ⟨rfl, rfl, rfl, by decide +kernel, rfl, by decide +kernel, by decide +kernel⟩
theorem sc_law : FnScope ["script", "cells", "k"] ["script"] (defScope s_law) := ⟨rfl, rfl, rfl, by decide +kernel, rfl, by decide +kernel, by decide +kernel⟩
def d_is_whole : He.DefD := ⟨("is_whole", none), "is_whole", "is_whole", defArgs s_is_whole, defBody s_is_whole, defScope s_is_whole, [], []⟩
def d_is_tick : He.DefD := ⟨("is_tick", none), "is_tick", "is_tick", defArgs s_is_tick, defBody s_is_tick, defScope s_is_tick, [], []⟩
def d_is_fraction : He.DefD := ⟨("is_fraction", none), "is_fraction", "is_fraction", defArgs s_is_fraction, defBody s_is_fraction, defScope s_is_fraction, [], []⟩
def d_fraction : He.DefD := ⟨("fraction", none), "fraction", "fraction", defArgs s_fraction, defBody s_fraction, defScope s_fraction, [.int 1], []⟩
def d_plus : He.DefD := ⟨("plus", none), "plus", "plus", defArgs s_plus, defBody s_plus, defScope s_plus, [], []⟩
def d_minus : He.DefD := ⟨("minus", none), "minus", "minus", defArgs s_minus, defBody s_minus, defScope s_minus, [], []⟩
def d_times : He.DefD := ⟨("times", none), "times", "times", defArgs s_times, defBody s_times, defScope s_times, [], []⟩
def d_over : He.DefD := ⟨("over", none), "over", "over", defArgs s_over, defBody s_over, defScope s_over, [], []⟩
def d_is_less : He.DefD := ⟨("is_less", none), "is_less", "is_less", defArgs s_is_less, defBody s_is_less, defScope s_is_less, [], []⟩
def d_sum_of : He.DefD := ⟨("sum_of", none), "sum_of", "sum_of", defArgs s_sum_of, defBody s_sum_of, defScope s_sum_of, [], []⟩
def d__check_fractions : He.DefD := ⟨("_check_fractions", none), "_check_fractions", "_check_fractions", defArgs s__check_fractions, defBody s__check_fractions, defScope s__check_fractions, [], []⟩
def d__reduced : He.DefD := ⟨("_reduced", none), "_reduced", "_reduced", defArgs s__reduced, defBody s__reduced, defScope s__reduced, [], []⟩
def d__sum : He.DefD := ⟨("_sum", none), "_sum", "_sum", defArgs s__sum, defBody s__sum, defScope s__sum, [], []⟩
def d__product : He.DefD := ⟨("_product", none), "_product", "_product", defArgs s__product, defBody s__product, defScope s__product, [], []⟩
def d__is_pair : He.DefD := ⟨("_is_pair", none), "_is_pair", "_is_pair", defArgs s__is_pair, defBody s__is_pair, defScope s__is_pair, [], []⟩
def d__check_tick : He.DefD := ⟨("_check_tick", none), "_check_tick", "_check_tick", defArgs s__check_tick, defBody s__check_tick, defScope s__check_tick, [], []⟩
def d__check_row : He.DefD := ⟨("_check_row", none), "_check_row", "_check_row", defArgs s__check_row, defBody s__check_row, defScope s__check_row, [], []⟩
def d_Row___init__ : He.DefD := ⟨("Row", some "__init__"), "__init__", "Row.__init__", defArgs s_Row___init__, defBody s_Row___init__, defScope s_Row___init__, [.adr (He.dflAt ("Row", some "__init__") 0)], []⟩
def d_Row___add__ : He.DefD := ⟨("Row", some "__add__"), "__add__", "Row.__add__", defArgs s_Row___add__, defBody s_Row___add__, defScope s_Row___add__, [], []⟩
def d_Row___mul__ : He.DefD := ⟨("Row", some "__mul__"), "__mul__", "Row.__mul__", defArgs s_Row___mul__, defBody s_Row___mul__, defScope s_Row___mul__, [], []⟩
def d_Row___eq__ : He.DefD := ⟨("Row", some "__eq__"), "__eq__", "Row.__eq__", defArgs s_Row___eq__, defBody s_Row___eq__, defScope s_Row___eq__, [], []⟩
def d_Row___len__ : He.DefD := ⟨("Row", some "__len__"), "__len__", "Row.__len__", defArgs s_Row___len__, defBody s_Row___len__, defScope s_Row___len__, [], []⟩
def d_Row___contains__ : He.DefD := ⟨("Row", some "__contains__"), "__contains__", "Row.__contains__", defArgs s_Row___contains__, defBody s_Row___contains__, defScope s_Row___contains__, [], []⟩
def d_Row_moved : He.DefD := ⟨("Row", some "moved"), "moved", "Row.moved", defArgs s_Row_moved, defBody s_Row_moved, defScope s_Row_moved, [], []⟩
def d_Row_cut : He.DefD := ⟨("Row", some "cut"), "cut", "Row.cut", defArgs s_Row_cut, defBody s_Row_cut, defScope s_Row_cut, [], []⟩
def d_Row_at : He.DefD := ⟨("Row", some "at"), "at", "Row.at", defArgs s_Row_at, defBody s_Row_at, defScope s_Row_at, [], []⟩
def d_Row_up_to : He.DefD := ⟨("Row", some "up_to"), "up_to", "Row.up_to", defArgs s_Row_up_to, defBody s_Row_up_to, defScope s_Row_up_to, [], []⟩
def d_Row_total : He.DefD := ⟨("Row", some "total"), "total", "Row.total", defArgs s_Row_total, defBody s_Row_total, defScope s_Row_total, [], []⟩
def d_Row_pairs : He.DefD := ⟨("Row", some "pairs"), "pairs", "Row.pairs", defArgs s_Row_pairs, defBody s_Row_pairs, defScope s_Row_pairs, [], []⟩
def d__law_bag : He.DefD := ⟨("_law_bag", none), "_law_bag", "_law_bag", defArgs s__law_bag, defBody s__law_bag, defScope s__law_bag, [], []⟩
def d__law_draw : He.DefD := ⟨("_law_draw", none), "_law_draw", "_law_draw", defArgs s__law_draw, defBody s__law_draw, defScope s__law_draw, [], []⟩
def d__law_low : He.DefD := ⟨("_law_low", none), "_law_low", "_law_low", defArgs s__law_low, defBody s__law_low, defScope s__law_low, [], []⟩
def d__law_pairs : He.DefD := ⟨("_law_pairs", none), "_law_pairs", "_law_pairs", defArgs s__law_pairs, defBody s__law_pairs, defScope s__law_pairs, [], []⟩
def d__law_added : He.DefD := ⟨("_law_added", none), "_law_added", "_law_added", defArgs s__law_added, defBody s__law_added, defScope s__law_added, [], []⟩
def d__law_times : He.DefD := ⟨("_law_times", none), "_law_times", "_law_times", defArgs s__law_times, defBody s__law_times, defScope s__law_times, [], []⟩
def d__law_plain : He.DefD := ⟨("_law_plain", none), "_law_plain", "_law_plain", defArgs s__law_plain, defBody s__law_plain, defScope s__law_plain, [], []⟩
def d__law_product : He.DefD := ⟨("_law_product", none), "_law_product", "_law_product", defArgs s__law_product, defBody s__law_product, defScope s__law_product, [], []⟩
def d__law_sum : He.DefD := ⟨("_law_sum", none), "_law_sum", "_law_sum", defArgs s__law_sum, defBody s__law_sum, defScope s__law_sum, [], []⟩
def d__law_one_right : He.DefD := ⟨("_law_one_right", none), "_law_one_right", "_law_one_right", defArgs s__law_one_right, defBody s__law_one_right, defScope s__law_one_right, [], []⟩
def d__law_fractions_right : He.DefD := ⟨("_law_fractions_right", none), "_law_fractions_right", "_law_fractions_right", defArgs s__law_fractions_right, defBody s__law_fractions_right, defScope s__law_fractions_right, [], []⟩
def d__law_right : He.DefD := ⟨("_law_right", none), "_law_right", "_law_right", defArgs s__law_right, defBody s__law_right, defScope s__law_right, [], []⟩
def d_law : He.DefD := ⟨("law", none), "law", "law", defArgs s_law, defBody s_law, defScope s_law, [], []⟩
def fns : List He.DefD := [d_is_whole, d_is_tick, d_is_fraction, d_fraction, d_plus, d_minus, d_times, d_over, d_is_less, d_sum_of, d__check_fractions, d__reduced, d__sum, d__product, d__is_pair, d__check_tick, d__check_row, d_Row___init__, d_Row___add__, d_Row___mul__, d_Row___eq__, d_Row___len__, d_Row___contains__, d_Row_moved, d_Row_cut, d_Row_at, d_Row_up_to, d_Row_total, d_Row_pairs, d__law_bag, d__law_draw, d__law_low, d__law_pairs, d__law_added, d__law_times, d__law_plain, d__law_product, d__law_sum, d__law_one_right, d__law_fractions_right, d__law_right, d_law]
def fas : List He.Fa := [.glo "is_whole", .glo "is_tick", .glo "is_fraction", .glo "fraction", .glo "plus", .glo "minus", .glo "times", .glo "over", .glo "is_less", .glo "sum_of", .glo "_check_fractions", .glo "_reduced", .glo "_sum", .glo "_product", .glo "_is_pair", .glo "_check_tick", .glo "_check_row", .glo "_law_bag", .glo "_law_draw", .glo "_law_low", .glo "_law_pairs", .glo "_law_added", .glo "_law_times", .glo "_law_plain", .glo "_law_product", .glo "_law_sum", .glo "_law_one_right", .glo "_law_fractions_right", .glo "_law_right", .glo "law", .glo "PlanError", .glo "InvalidFraction", .glo "InvalidRow", .glo "InvalidTick", .glo "Row", .free "isinstance", .free "int", .free "bool", .free "tuple", .free "list", .free "len", .free "all", .free "sorted", .free "range", .free "abs", .cls "Row", .mkr "Row", .noat "Row" "_shares", .meth "Row" "__init__", .meth "Row" "__add__", .meth "Row" "__mul__", .meth "Row" "__eq__", .meth "Row" "__len__", .meth "Row" "__contains__", .meth "Row" "moved", .meth "Row" "cut", .meth "Row" "at", .meth "Row" "up_to", .meth "Row" "total", .meth "Row" "pairs"]
def exs : List Tst := [tKit "int" "int" true, tKit "int" "bool" false, tKit "tuple" "tuple" true, fun K => decide (PySem.W.kitAny K (.type "list") [.type "list", .type "tuple"] = some true), fun K => decide (PySem.W.kitAny K (.type "tuple") [.type "list", .type "tuple"] = some true), fun K => He.tupB K "ZERO" [.int 0, .int 1], fun K => He.eqO (PySem.W.nsIn K mainGlobals "ZERO") (some (some (.ref (He.ga K "ZERO")))), tGlo "gcd" (.builtin "math.gcd"), tFirst "Row", tIns "Row", tNe "Row"]
structure Txt (K : PySem.W.Frag) (mg : Str → Option Value) : Type where
  fd_is_whole : FuncData
  F_is_whole : FunD K "is_whole" "is_whole" (defArgs s_is_whole) (defBody s_is_whole) (defScope s_is_whole) [] [] (He.ga K "is_whole") fd_is_whole
  b_is_whole : Binds K fd_is_whole ["value"] []
  g_is_whole : mg "is_whole" = some (.ref (He.ga K "is_whole"))
  fd_is_tick : FuncData
  F_is_tick : FunD K "is_tick" "is_tick" (defArgs s_is_tick) (defBody s_is_tick) (defScope s_is_tick) [] [] (He.ga K "is_tick") fd_is_tick
  b_is_tick : Binds K fd_is_tick ["value"] []
  g_is_tick : mg "is_tick" = some (.ref (He.ga K "is_tick"))
  fd_is_fraction : FuncData
  F_is_fraction : FunD K "is_fraction" "is_fraction" (defArgs s_is_fraction) (defBody s_is_fraction) (defScope s_is_fraction) [] [] (He.ga K "is_fraction") fd_is_fraction
  b_is_fraction : Binds K fd_is_fraction ["value"] []
  g_is_fraction : mg "is_fraction" = some (.ref (He.ga K "is_fraction"))
  fd_fraction : FuncData
  F_fraction : FunD K "fraction" "fraction" (defArgs s_fraction) (defBody s_fraction) (defScope s_fraction) [.int 1] [] (He.ga K "fraction") fd_fraction
  b_fraction : Binds K fd_fraction ["top", "bottom"] []
  g_fraction : mg "fraction" = some (.ref (He.ga K "fraction"))
  fd_plus : FuncData
  F_plus : FunD K "plus" "plus" (defArgs s_plus) (defBody s_plus) (defScope s_plus) [] [] (He.ga K "plus") fd_plus
  b_plus : Binds K fd_plus ["one", "other"] []
  g_plus : mg "plus" = some (.ref (He.ga K "plus"))
  fd_minus : FuncData
  F_minus : FunD K "minus" "minus" (defArgs s_minus) (defBody s_minus) (defScope s_minus) [] [] (He.ga K "minus") fd_minus
  b_minus : Binds K fd_minus ["one", "other"] []
  g_minus : mg "minus" = some (.ref (He.ga K "minus"))
  fd_times : FuncData
  F_times : FunD K "times" "times" (defArgs s_times) (defBody s_times) (defScope s_times) [] [] (He.ga K "times") fd_times
  b_times : Binds K fd_times ["one", "other"] []
  g_times : mg "times" = some (.ref (He.ga K "times"))
  fd_over : FuncData
  F_over : FunD K "over" "over" (defArgs s_over) (defBody s_over) (defScope s_over) [] [] (He.ga K "over") fd_over
  b_over : Binds K fd_over ["one", "other"] []
  g_over : mg "over" = some (.ref (He.ga K "over"))
  fd_is_less : FuncData
  F_is_less : FunD K "is_less" "is_less" (defArgs s_is_less) (defBody s_is_less) (defScope s_is_less) [] [] (He.ga K "is_less") fd_is_less
  b_is_less : Binds K fd_is_less ["one", "other"] []
  g_is_less : mg "is_less" = some (.ref (He.ga K "is_less"))
  fd_sum_of : FuncData
  F_sum_of : FunD K "sum_of" "sum_of" (defArgs s_sum_of) (defBody s_sum_of) (defScope s_sum_of) [] [] (He.ga K "sum_of") fd_sum_of
  b_sum_of : Binds K fd_sum_of ["fractions"] []
  g_sum_of : mg "sum_of" = some (.ref (He.ga K "sum_of"))
  fd__check_fractions : FuncData
  F__check_fractions : FunD K "_check_fractions" "_check_fractions" (defArgs s__check_fractions) (defBody s__check_fractions) (defScope s__check_fractions) [] [] (He.ga K "_check_fractions") fd__check_fractions
  b__check_fractions : Binds K fd__check_fractions ["one", "other"] []
  g__check_fractions : mg "_check_fractions" = some (.ref (He.ga K "_check_fractions"))
  fd__reduced : FuncData
  F__reduced : FunD K "_reduced" "_reduced" (defArgs s__reduced) (defBody s__reduced) (defScope s__reduced) [] [] (He.ga K "_reduced") fd__reduced
  b__reduced : Binds K fd__reduced ["top", "bottom"] []
  g__reduced : mg "_reduced" = some (.ref (He.ga K "_reduced"))
  fd__sum : FuncData
  F__sum : FunD K "_sum" "_sum" (defArgs s__sum) (defBody s__sum) (defScope s__sum) [] [] (He.ga K "_sum") fd__sum
  b__sum : Binds K fd__sum ["one", "other"] []
  g__sum : mg "_sum" = some (.ref (He.ga K "_sum"))
  fd__product : FuncData
  F__product : FunD K "_product" "_product" (defArgs s__product) (defBody s__product) (defScope s__product) [] [] (He.ga K "_product") fd__product
  b__product : Binds K fd__product ["one", "other"] []
  g__product : mg "_product" = some (.ref (He.ga K "_product"))
  fd__is_pair : FuncData
  F__is_pair : FunD K "_is_pair" "_is_pair" (defArgs s__is_pair) (defBody s__is_pair) (defScope s__is_pair) [] [] (He.ga K "_is_pair") fd__is_pair
  b__is_pair : Binds K fd__is_pair ["value"] []
  g__is_pair : mg "_is_pair" = some (.ref (He.ga K "_is_pair"))
  fd__check_tick : FuncData
  F__check_tick : FunD K "_check_tick" "_check_tick" (defArgs s__check_tick) (defBody s__check_tick) (defScope s__check_tick) [] [] (He.ga K "_check_tick") fd__check_tick
  b__check_tick : Binds K fd__check_tick ["value"] []
  g__check_tick : mg "_check_tick" = some (.ref (He.ga K "_check_tick"))
  fd__check_row : FuncData
  F__check_row : FunD K "_check_row" "_check_row" (defArgs s__check_row) (defBody s__check_row) (defScope s__check_row) [] [] (He.ga K "_check_row") fd__check_row
  b__check_row : Binds K fd__check_row ["value"] []
  g__check_row : mg "_check_row" = some (.ref (He.ga K "_check_row"))
  fd_Row___init__ : FuncData
  F_Row___init__ : FunD K "__init__" "Row.__init__" (defArgs s_Row___init__) (defBody s_Row___init__) (defScope s_Row___init__) [.ref (He.dflAt ("Row", some "__init__") 0 K)] [] (He.ma K (He.ga K "Row") "__init__") fd_Row___init__
  b_Row___init__ : Binds K fd_Row___init__ ["self", "pairs"] []
  fd_Row___add__ : FuncData
  F_Row___add__ : FunD K "__add__" "Row.__add__" (defArgs s_Row___add__) (defBody s_Row___add__) (defScope s_Row___add__) [] [] (He.ma K (He.ga K "Row") "__add__") fd_Row___add__
  b_Row___add__ : Binds K fd_Row___add__ ["self", "other"] []
  fd_Row___mul__ : FuncData
  F_Row___mul__ : FunD K "__mul__" "Row.__mul__" (defArgs s_Row___mul__) (defBody s_Row___mul__) (defScope s_Row___mul__) [] [] (He.ma K (He.ga K "Row") "__mul__") fd_Row___mul__
  b_Row___mul__ : Binds K fd_Row___mul__ ["self", "other"] []
  fd_Row___eq__ : FuncData
  F_Row___eq__ : FunD K "__eq__" "Row.__eq__" (defArgs s_Row___eq__) (defBody s_Row___eq__) (defScope s_Row___eq__) [] [] (He.ma K (He.ga K "Row") "__eq__") fd_Row___eq__
  b_Row___eq__ : Binds K fd_Row___eq__ ["self", "other"] []
  fd_Row___len__ : FuncData
  F_Row___len__ : FunD K "__len__" "Row.__len__" (defArgs s_Row___len__) (defBody s_Row___len__) (defScope s_Row___len__) [] [] (He.ma K (He.ga K "Row") "__len__") fd_Row___len__
  b_Row___len__ : Binds K fd_Row___len__ ["self"] []
  fd_Row___contains__ : FuncData
  F_Row___contains__ : FunD K "__contains__" "Row.__contains__" (defArgs s_Row___contains__) (defBody s_Row___contains__) (defScope s_Row___contains__) [] [] (He.ma K (He.ga K "Row") "__contains__") fd_Row___contains__
  b_Row___contains__ : Binds K fd_Row___contains__ ["self", "x"] []
  fd_Row_moved : FuncData
  F_Row_moved : FunD K "moved" "Row.moved" (defArgs s_Row_moved) (defBody s_Row_moved) (defScope s_Row_moved) [] [] (He.ma K (He.ga K "Row") "moved") fd_Row_moved
  b_Row_moved : Binds K fd_Row_moved ["self", "ticks"] []
  fd_Row_cut : FuncData
  F_Row_cut : FunD K "cut" "Row.cut" (defArgs s_Row_cut) (defBody s_Row_cut) (defScope s_Row_cut) [] [] (He.ma K (He.ga K "Row") "cut") fd_Row_cut
  b_Row_cut : Binds K fd_Row_cut ["self", "tick"] []
  fd_Row_at : FuncData
  F_Row_at : FunD K "at" "Row.at" (defArgs s_Row_at) (defBody s_Row_at) (defScope s_Row_at) [] [] (He.ma K (He.ga K "Row") "at") fd_Row_at
  b_Row_at : Binds K fd_Row_at ["self", "tick"] []
  fd_Row_up_to : FuncData
  F_Row_up_to : FunD K "up_to" "Row.up_to" (defArgs s_Row_up_to) (defBody s_Row_up_to) (defScope s_Row_up_to) [] [] (He.ma K (He.ga K "Row") "up_to") fd_Row_up_to
  b_Row_up_to : Binds K fd_Row_up_to ["self", "tick"] []
  fd_Row_total : FuncData
  F_Row_total : FunD K "total" "Row.total" (defArgs s_Row_total) (defBody s_Row_total) (defScope s_Row_total) [] [] (He.ma K (He.ga K "Row") "total") fd_Row_total
  b_Row_total : Binds K fd_Row_total ["self"] []
  fd_Row_pairs : FuncData
  F_Row_pairs : FunD K "pairs" "Row.pairs" (defArgs s_Row_pairs) (defBody s_Row_pairs) (defScope s_Row_pairs) [] [] (He.ma K (He.ga K "Row") "pairs") fd_Row_pairs
  b_Row_pairs : Binds K fd_Row_pairs ["self"] []
  fd__law_bag : FuncData
  F__law_bag : FunD K "_law_bag" "_law_bag" (defArgs s__law_bag) (defBody s__law_bag) (defScope s__law_bag) [] [] (He.ga K "_law_bag") fd__law_bag
  b__law_bag : Binds K fd__law_bag ["cell", "k"] []
  g__law_bag : mg "_law_bag" = some (.ref (He.ga K "_law_bag"))
  fd__law_draw : FuncData
  F__law_draw : FunD K "_law_draw" "_law_draw" (defArgs s__law_draw) (defBody s__law_draw) (defScope s__law_draw) [] [] (He.ga K "_law_draw") fd__law_draw
  b__law_draw : Binds K fd__law_draw ["bag", "many"] []
  g__law_draw : mg "_law_draw" = some (.ref (He.ga K "_law_draw"))
  fd__law_low : FuncData
  F__law_low : FunD K "_law_low" "_law_low" (defArgs s__law_low) (defBody s__law_low) (defScope s__law_low) [] [] (He.ga K "_law_low") fd__law_low
  b__law_low : Binds K fd__law_low ["top", "bottom"] []
  g__law_low : mg "_law_low" = some (.ref (He.ga K "_law_low"))
  fd__law_pairs : FuncData
  F__law_pairs : FunD K "_law_pairs" "_law_pairs" (defArgs s__law_pairs) (defBody s__law_pairs) (defScope s__law_pairs) [] [] (He.ga K "_law_pairs") fd__law_pairs
  b__law_pairs : Binds K fd__law_pairs ["bag"] []
  g__law_pairs : mg "_law_pairs" = some (.ref (He.ga K "_law_pairs"))
  fd__law_added : FuncData
  F__law_added : FunD K "_law_added" "_law_added" (defArgs s__law_added) (defBody s__law_added) (defScope s__law_added) [] [] (He.ga K "_law_added") fd__law_added
  b__law_added : Binds K fd__law_added ["one", "two"] []
  g__law_added : mg "_law_added" = some (.ref (He.ga K "_law_added"))
  fd__law_times : FuncData
  F__law_times : FunD K "_law_times" "_law_times" (defArgs s__law_times) (defBody s__law_times) (defScope s__law_times) [] [] (He.ga K "_law_times") fd__law_times
  b__law_times : Binds K fd__law_times ["one", "two"] []
  g__law_times : mg "_law_times" = some (.ref (He.ga K "_law_times"))
  fd__law_plain : FuncData
  F__law_plain : FunD K "_law_plain" "_law_plain" (defArgs s__law_plain) (defBody s__law_plain) (defScope s__law_plain) [] [] (He.ga K "_law_plain") fd__law_plain
  b__law_plain : Binds K fd__law_plain ["pairs"] []
  g__law_plain : mg "_law_plain" = some (.ref (He.ga K "_law_plain"))
  fd__law_product : FuncData
  F__law_product : FunD K "_law_product" "_law_product" (defArgs s__law_product) (defBody s__law_product) (defScope s__law_product) [] [] (He.ga K "_law_product") fd__law_product
  b__law_product : Binds K fd__law_product ["one", "two"] []
  g__law_product : mg "_law_product" = some (.ref (He.ga K "_law_product"))
  fd__law_sum : FuncData
  F__law_sum : FunD K "_law_sum" "_law_sum" (defArgs s__law_sum) (defBody s__law_sum) (defScope s__law_sum) [] [] (He.ga K "_law_sum") fd__law_sum
  b__law_sum : Binds K fd__law_sum ["pairs"] []
  g__law_sum : mg "_law_sum" = some (.ref (He.ga K "_law_sum"))
  fd__law_one_right : FuncData
  F__law_one_right : FunD K "_law_one_right" "_law_one_right" (defArgs s__law_one_right) (defBody s__law_one_right) (defScope s__law_one_right) [] [] (He.ga K "_law_one_right") fd__law_one_right
  b__law_one_right : Binds K fd__law_one_right ["pairs", "tick"] []
  g__law_one_right : mg "_law_one_right" = some (.ref (He.ga K "_law_one_right"))
  fd__law_fractions_right : FuncData
  F__law_fractions_right : FunD K "_law_fractions_right" "_law_fractions_right" (defArgs s__law_fractions_right) (defBody s__law_fractions_right) (defScope s__law_fractions_right) [] [] (He.ga K "_law_fractions_right") fd__law_fractions_right
  b__law_fractions_right : Binds K fd__law_fractions_right ["one", "two"] []
  g__law_fractions_right : mg "_law_fractions_right" = some (.ref (He.ga K "_law_fractions_right"))
  fd__law_right : FuncData
  F__law_right : FunD K "_law_right" "_law_right" (defArgs s__law_right) (defBody s__law_right) (defScope s__law_right) [] [] (He.ga K "_law_right") fd__law_right
  b__law_right : Binds K fd__law_right ["bag"] []
  g__law_right : mg "_law_right" = some (.ref (He.ga K "_law_right"))
  fd_law : FuncData
  F_law : FunD K "law" "law" (defArgs s_law) (defBody s_law) (defScope s_law) [] [] (He.ga K "law") fd_law
  b_law : Binds K fd_law ["script"] []
  g_law : mg "law" = some (.ref (He.ga K "law"))
  g_PlanError : mg "PlanError" = some (.ref (He.ga K "PlanError"))
  g_InvalidFraction : mg "InvalidFraction" = some (.ref (He.ga K "InvalidFraction"))
  g_InvalidRow : mg "InvalidRow" = some (.ref (He.ga K "InvalidRow"))
  g_InvalidTick : mg "InvalidTick" = some (.ref (He.ga K "InvalidTick"))
  g_Row : mg "Row" = some (.ref (He.ga K "Row"))
  cl_Row : Cls K (He.ga K "Row")
  mk_Row : Mk K (He.ga K "Row") (He.ma K (He.ga K "Row") "__init__")
  na_Row__shares : NoAttr K (He.ga K "Row") "_shares"
  me_Row___init__ : Meth K (He.ga K "Row") "__init__" (He.ma K (He.ga K "Row") "__init__")
  me_Row___add__ : Meth K (He.ga K "Row") "__add__" (He.ma K (He.ga K "Row") "__add__")
  me_Row___mul__ : Meth K (He.ga K "Row") "__mul__" (He.ma K (He.ga K "Row") "__mul__")
  me_Row___eq__ : Meth K (He.ga K "Row") "__eq__" (He.ma K (He.ga K "Row") "__eq__")
  me_Row___len__ : Meth K (He.ga K "Row") "__len__" (He.ma K (He.ga K "Row") "__len__")
  me_Row___contains__ : Meth K (He.ga K "Row") "__contains__" (He.ma K (He.ga K "Row") "__contains__")
  me_Row_moved : Meth K (He.ga K "Row") "moved" (He.ma K (He.ga K "Row") "moved")
  me_Row_cut : Meth K (He.ga K "Row") "cut" (He.ma K (He.ga K "Row") "cut")
  me_Row_at : Meth K (He.ga K "Row") "at" (He.ma K (He.ga K "Row") "at")
  me_Row_up_to : Meth K (He.ga K "Row") "up_to" (He.ma K (He.ga K "Row") "up_to")
  me_Row_total : Meth K (He.ga K "Row") "total" (He.ma K (He.ga K "Row") "total")
  me_Row_pairs : Meth K (He.ga K "Row") "pairs" (He.ma K (He.ga K "Row") "pairs")
  m_isinstance : mg "isinstance" = none
  m_int : mg "int" = none
  m_bool : mg "bool" = none
  m_tuple : mg "tuple" = none
  m_list : mg "list" = none
  m_len : mg "len" = none
  m_all : mg "all" = none
  m_sorted : mg "sorted" = none
  m_range : mg "range" = none
  m_abs : mg "abs" = none
  k_int_int : PySem.W.kitOne K (.type "int") (.type "int") = some true
  k_int_bool : PySem.W.kitOne K (.type "int") (.type "bool") = some false
  k_tuple : PySem.W.kitOne K (.type "tuple") (.type "tuple") = some true
  k_lt_l : PySem.W.kitAny K (.type "list") [.type "list", .type "tuple"] = some true
  k_lt_t : PySem.W.kitAny K (.type "tuple") [.type "list", .type "tuple"] = some true
  zero : ∀ H : Hp, SqT K H (He.ga K "ZERO") [.int 0, .int 1]
  g_ZERO : mg "ZERO" = some (.ref (He.ga K "ZERO"))
  g_gcd : mg "gcd" = some (.builtin "math.gcd")
  first_Row : PySem.W.selfFirst K (He.ga K "Row") = true
  ins_Row : InsC K (He.ga K "Row")
  ne_Row : NeTxt K (He.ga K "Row") (He.ma K (He.ga K "Row") "__eq__")
set_option maxHeartbeats 8000000 in
theorem txt {K : PySem.W.Frag} {h : Heap} {mg : Str → Option Value} (X : K.In h) (G : h.Ns mainGlobals mg) (c : He.SaysD fas fns K) (x : (exs.all fun f => f K) = true) : Nonempty (Txt K mg) := by
  obtain ⟨fd_is_whole, F_is_whole⟩ := c.def_ 0 (d := d_is_whole) rfl
  obtain ⟨fd_is_tick, F_is_tick⟩ := c.def_ 1 (d := d_is_tick) rfl
  obtain ⟨fd_is_fraction, F_is_fraction⟩ := c.def_ 2 (d := d_is_fraction) rfl
  obtain ⟨fd_fraction, F_fraction⟩ := c.def_ 3 (d := d_fraction) rfl
  obtain ⟨fd_plus, F_plus⟩ := c.def_ 4 (d := d_plus) rfl
  obtain ⟨fd_minus, F_minus⟩ := c.def_ 5 (d := d_minus) rfl
  obtain ⟨fd_times, F_times⟩ := c.def_ 6 (d := d_times) rfl
  obtain ⟨fd_over, F_over⟩ := c.def_ 7 (d := d_over) rfl
  obtain ⟨fd_is_less, F_is_less⟩ := c.def_ 8 (d := d_is_less) rfl
  obtain ⟨fd_sum_of, F_sum_of⟩ := c.def_ 9 (d := d_sum_of) rfl
  obtain ⟨fd__check_fractions, F__check_fractions⟩ := c.def_ 10 (d := d__check_fractions) rfl
  obtain ⟨fd__reduced, F__reduced⟩ := c.def_ 11 (d := d__reduced) rfl
  obtain ⟨fd__sum, F__sum⟩ := c.def_ 12 (d := d__sum) rfl
  obtain ⟨fd__product, F__product⟩ := c.def_ 13 (d := d__product) rfl
  obtain ⟨fd__is_pair, F__is_pair⟩ := c.def_ 14 (d := d__is_pair) rfl
  obtain ⟨fd__check_tick, F__check_tick⟩ := c.def_ 15 (d := d__check_tick) rfl
  obtain ⟨fd__check_row, F__check_row⟩ := c.def_ 16 (d := d__check_row) rfl
  obtain ⟨fd_Row___init__, F_Row___init__⟩ := c.def_ 17 (d := d_Row___init__) rfl
  obtain ⟨fd_Row___add__, F_Row___add__⟩ := c.def_ 18 (d := d_Row___add__) rfl
  obtain ⟨fd_Row___mul__, F_Row___mul__⟩ := c.def_ 19 (d := d_Row___mul__) rfl
  obtain ⟨fd_Row___eq__, F_Row___eq__⟩ := c.def_ 20 (d := d_Row___eq__) rfl
  obtain ⟨fd_Row___len__, F_Row___len__⟩ := c.def_ 21 (d := d_Row___len__) rfl
  obtain ⟨fd_Row___contains__, F_Row___contains__⟩ := c.def_ 22 (d := d_Row___contains__) rfl
  obtain ⟨fd_Row_moved, F_Row_moved⟩ := c.def_ 23 (d := d_Row_moved) rfl
  obtain ⟨fd_Row_cut, F_Row_cut⟩ := c.def_ 24 (d := d_Row_cut) rfl
  obtain ⟨fd_Row_at, F_Row_at⟩ := c.def_ 25 (d := d_Row_at) rfl
  obtain ⟨fd_Row_up_to, F_Row_up_to⟩ := c.def_ 26 (d := d_Row_up_to) rfl
  obtain ⟨fd_Row_total, F_Row_total⟩ := c.def_ 27 (d := d_Row_total) rfl
  obtain ⟨fd_Row_pairs, F_Row_pairs⟩ := c.def_ 28 (d := d_Row_pairs) rfl
  obtain ⟨fd__law_bag, F__law_bag⟩ := c.def_ 29 (d := d__law_bag) rfl
  obtain ⟨fd__law_draw, F__law_draw⟩ := c.def_ 30 (d := d__law_draw) rfl
  obtain ⟨fd__law_low, F__law_low⟩ := c.def_ 31 (d := d__law_low) rfl
  obtain ⟨fd__law_pairs, F__law_pairs⟩ := c.def_ 32 (d := d__law_pairs) rfl
  obtain ⟨fd__law_added, F__law_added⟩ := c.def_ 33 (d := d__law_added) rfl
  obtain ⟨fd__law_times, F__law_times⟩ := c.def_ 34 (d := d__law_times) rfl
  obtain ⟨fd__law_plain, F__law_plain⟩ := c.def_ 35 (d := d__law_plain) rfl
  obtain ⟨fd__law_product, F__law_product⟩ := c.def_ 36 (d := d__law_product) rfl
  obtain ⟨fd__law_sum, F__law_sum⟩ := c.def_ 37 (d := d__law_sum) rfl
  obtain ⟨fd__law_one_right, F__law_one_right⟩ := c.def_ 38 (d := d__law_one_right) rfl
  obtain ⟨fd__law_fractions_right, F__law_fractions_right⟩ := c.def_ 39 (d := d__law_fractions_right) rfl
  obtain ⟨fd__law_right, F__law_right⟩ := c.def_ 40 (d := d__law_right) rfl
  obtain ⟨fd_law, F_law⟩ := c.def_ 41 (d := d_law) rfl
  exact ⟨{
    fd_is_whole := fd_is_whole,
    F_is_whole := F_is_whole,
    b_is_whole := FunD.bindsN (ps := ["value"]) F_is_whole fun _ _ _ _ _ _ us hl => match us, hl with | [_], _ => rfl,
    g_is_whole := He.glo_ok X G (c.fact 0 (f := .glo "is_whole") rfl),
    fd_is_tick := fd_is_tick,
    F_is_tick := F_is_tick,
    b_is_tick := FunD.bindsN (ps := ["value"]) F_is_tick fun _ _ _ _ _ _ us hl => match us, hl with | [_], _ => rfl,
    g_is_tick := He.glo_ok X G (c.fact 1 (f := .glo "is_tick") rfl),
    fd_is_fraction := fd_is_fraction,
    F_is_fraction := F_is_fraction,
    b_is_fraction := FunD.bindsN (ps := ["value"]) F_is_fraction fun _ _ _ _ _ _ us hl => match us, hl with | [_], _ => rfl,
    g_is_fraction := He.glo_ok X G (c.fact 2 (f := .glo "is_fraction") rfl),
    fd_fraction := fd_fraction,
    F_fraction := F_fraction,
    b_fraction := by
      exact (let ⟨ds, hv, hb⟩ := FunD.binds1 (ps := ["top", "bottom"]) F_fraction 2 1 (by simp [d_fraction, He.DefD.dvs]) (by rfl) (fun _ _ _ _ _ _ _ us its h1 h2 => match us, its, h1, h2 with | [_, _], [_], _, _ => ⟨_, rfl, rfl⟩); (show Binds _ _ _ [] from by cases hv; exact hb)),
    g_fraction := He.glo_ok X G (c.fact 3 (f := .glo "fraction") rfl),
    fd_plus := fd_plus,
    F_plus := F_plus,
    b_plus := FunD.bindsN (ps := ["one", "other"]) F_plus fun _ _ _ _ _ _ us hl => match us, hl with | [_, _], _ => rfl,
    g_plus := He.glo_ok X G (c.fact 4 (f := .glo "plus") rfl),
    fd_minus := fd_minus,
    F_minus := F_minus,
    b_minus := FunD.bindsN (ps := ["one", "other"]) F_minus fun _ _ _ _ _ _ us hl => match us, hl with | [_, _], _ => rfl,
    g_minus := He.glo_ok X G (c.fact 5 (f := .glo "minus") rfl),
    fd_times := fd_times,
    F_times := F_times,
    b_times := FunD.bindsN (ps := ["one", "other"]) F_times fun _ _ _ _ _ _ us hl => match us, hl with | [_, _], _ => rfl,
    g_times := He.glo_ok X G (c.fact 6 (f := .glo "times") rfl),
    fd_over := fd_over,
    F_over := F_over,
    b_over := FunD.bindsN (ps := ["one", "other"]) F_over fun _ _ _ _ _ _ us hl => match us, hl with | [_, _], _ => rfl,
    g_over := He.glo_ok X G (c.fact 7 (f := .glo "over") rfl),
    fd_is_less := fd_is_less,
    F_is_less := F_is_less,
    b_is_less := FunD.bindsN (ps := ["one", "other"]) F_is_less fun _ _ _ _ _ _ us hl => match us, hl with | [_, _], _ => rfl,
    g_is_less := He.glo_ok X G (c.fact 8 (f := .glo "is_less") rfl),
    fd_sum_of := fd_sum_of,
    F_sum_of := F_sum_of,
    b_sum_of := FunD.bindsN (ps := ["fractions"]) F_sum_of fun _ _ _ _ _ _ us hl => match us, hl with | [_], _ => rfl,
    g_sum_of := He.glo_ok X G (c.fact 9 (f := .glo "sum_of") rfl),
    fd__check_fractions := fd__check_fractions,
    F__check_fractions := F__check_fractions,
    b__check_fractions := FunD.bindsN (ps := ["one", "other"]) F__check_fractions fun _ _ _ _ _ _ us hl => match us, hl with | [_, _], _ => rfl,
    g__check_fractions := He.glo_ok X G (c.fact 10 (f := .glo "_check_fractions") rfl),
    fd__reduced := fd__reduced,
    F__reduced := F__reduced,
    b__reduced := FunD.bindsN (ps := ["top", "bottom"]) F__reduced fun _ _ _ _ _ _ us hl => match us, hl with | [_, _], _ => rfl,
    g__reduced := He.glo_ok X G (c.fact 11 (f := .glo "_reduced") rfl),
    fd__sum := fd__sum,
    F__sum := F__sum,
    b__sum := FunD.bindsN (ps := ["one", "other"]) F__sum fun _ _ _ _ _ _ us hl => match us, hl with | [_, _], _ => rfl,
    g__sum := He.glo_ok X G (c.fact 12 (f := .glo "_sum") rfl),
    fd__product := fd__product,
    F__product := F__product,
    b__product := FunD.bindsN (ps := ["one", "other"]) F__product fun _ _ _ _ _ _ us hl => match us, hl with | [_, _], _ => rfl,
    g__product := He.glo_ok X G (c.fact 13 (f := .glo "_product") rfl),
    fd__is_pair := fd__is_pair,
    F__is_pair := F__is_pair,
    b__is_pair := FunD.bindsN (ps := ["value"]) F__is_pair fun _ _ _ _ _ _ us hl => match us, hl with | [_], _ => rfl,
    g__is_pair := He.glo_ok X G (c.fact 14 (f := .glo "_is_pair") rfl),
    fd__check_tick := fd__check_tick,
    F__check_tick := F__check_tick,
    b__check_tick := FunD.bindsN (ps := ["value"]) F__check_tick fun _ _ _ _ _ _ us hl => match us, hl with | [_], _ => rfl,
    g__check_tick := He.glo_ok X G (c.fact 15 (f := .glo "_check_tick") rfl),
    fd__check_row := fd__check_row,
    F__check_row := F__check_row,
    b__check_row := FunD.bindsN (ps := ["value"]) F__check_row fun _ _ _ _ _ _ us hl => match us, hl with | [_], _ => rfl,
    g__check_row := He.glo_ok X G (c.fact 16 (f := .glo "_check_row") rfl),
    fd_Row___init__ := fd_Row___init__,
    F_Row___init__ := F_Row___init__,
    b_Row___init__ := by
      exact (let ⟨ds, hv, hb⟩ := FunD.binds1 (ps := ["self", "pairs"]) F_Row___init__ 2 1 (by simp [d_Row___init__, He.DefD.dvs]) (by rfl) (fun _ _ _ _ _ _ _ us its h1 h2 => match us, its, h1, h2 with | [_, _], [_], _, _ => ⟨_, rfl, rfl⟩); (show Binds _ _ _ [] from by cases hv; exact hb)),
    fd_Row___add__ := fd_Row___add__,
    F_Row___add__ := F_Row___add__,
    b_Row___add__ := FunD.bindsN (ps := ["self", "other"]) F_Row___add__ fun _ _ _ _ _ _ us hl => match us, hl with | [_, _], _ => rfl,
    fd_Row___mul__ := fd_Row___mul__,
    F_Row___mul__ := F_Row___mul__,
    b_Row___mul__ := FunD.bindsN (ps := ["self", "other"]) F_Row___mul__ fun _ _ _ _ _ _ us hl => match us, hl with | [_, _], _ => rfl,
    fd_Row___eq__ := fd_Row___eq__,
    F_Row___eq__ := F_Row___eq__,
    b_Row___eq__ := FunD.bindsN (ps := ["self", "other"]) F_Row___eq__ fun _ _ _ _ _ _ us hl => match us, hl with | [_, _], _ => rfl,
    fd_Row___len__ := fd_Row___len__,
    F_Row___len__ := F_Row___len__,
    b_Row___len__ := FunD.bindsN (ps := ["self"]) F_Row___len__ fun _ _ _ _ _ _ us hl => match us, hl with | [_], _ => rfl,
    fd_Row___contains__ := fd_Row___contains__,
    F_Row___contains__ := F_Row___contains__,
    b_Row___contains__ := FunD.bindsN (ps := ["self", "x"]) F_Row___contains__ fun _ _ _ _ _ _ us hl => match us, hl with | [_, _], _ => rfl,
    fd_Row_moved := fd_Row_moved,
    F_Row_moved := F_Row_moved,
    b_Row_moved := FunD.bindsN (ps := ["self", "ticks"]) F_Row_moved fun _ _ _ _ _ _ us hl => match us, hl with | [_, _], _ => rfl,
    fd_Row_cut := fd_Row_cut,
    F_Row_cut := F_Row_cut,
    b_Row_cut := FunD.bindsN (ps := ["self", "tick"]) F_Row_cut fun _ _ _ _ _ _ us hl => match us, hl with | [_, _], _ => rfl,
    fd_Row_at := fd_Row_at,
    F_Row_at := F_Row_at,
    b_Row_at := FunD.bindsN (ps := ["self", "tick"]) F_Row_at fun _ _ _ _ _ _ us hl => match us, hl with | [_, _], _ => rfl,
    fd_Row_up_to := fd_Row_up_to,
    F_Row_up_to := F_Row_up_to,
    b_Row_up_to := FunD.bindsN (ps := ["self", "tick"]) F_Row_up_to fun _ _ _ _ _ _ us hl => match us, hl with | [_, _], _ => rfl,
    fd_Row_total := fd_Row_total,
    F_Row_total := F_Row_total,
    b_Row_total := FunD.bindsN (ps := ["self"]) F_Row_total fun _ _ _ _ _ _ us hl => match us, hl with | [_], _ => rfl,
    fd_Row_pairs := fd_Row_pairs,
    F_Row_pairs := F_Row_pairs,
    b_Row_pairs := FunD.bindsN (ps := ["self"]) F_Row_pairs fun _ _ _ _ _ _ us hl => match us, hl with | [_], _ => rfl,
    fd__law_bag := fd__law_bag,
    F__law_bag := F__law_bag,
    b__law_bag := FunD.bindsN (ps := ["cell", "k"]) F__law_bag fun _ _ _ _ _ _ us hl => match us, hl with | [_, _], _ => rfl,
    g__law_bag := He.glo_ok X G (c.fact 17 (f := .glo "_law_bag") rfl),
    fd__law_draw := fd__law_draw,
    F__law_draw := F__law_draw,
    b__law_draw := FunD.bindsN (ps := ["bag", "many"]) F__law_draw fun _ _ _ _ _ _ us hl => match us, hl with | [_, _], _ => rfl,
    g__law_draw := He.glo_ok X G (c.fact 18 (f := .glo "_law_draw") rfl),
    fd__law_low := fd__law_low,
    F__law_low := F__law_low,
    b__law_low := FunD.bindsN (ps := ["top", "bottom"]) F__law_low fun _ _ _ _ _ _ us hl => match us, hl with | [_, _], _ => rfl,
    g__law_low := He.glo_ok X G (c.fact 19 (f := .glo "_law_low") rfl),
    fd__law_pairs := fd__law_pairs,
    F__law_pairs := F__law_pairs,
    b__law_pairs := FunD.bindsN (ps := ["bag"]) F__law_pairs fun _ _ _ _ _ _ us hl => match us, hl with | [_], _ => rfl,
    g__law_pairs := He.glo_ok X G (c.fact 20 (f := .glo "_law_pairs") rfl),
    fd__law_added := fd__law_added,
    F__law_added := F__law_added,
    b__law_added := FunD.bindsN (ps := ["one", "two"]) F__law_added fun _ _ _ _ _ _ us hl => match us, hl with | [_, _], _ => rfl,
    g__law_added := He.glo_ok X G (c.fact 21 (f := .glo "_law_added") rfl),
    fd__law_times := fd__law_times,
    F__law_times := F__law_times,
    b__law_times := FunD.bindsN (ps := ["one", "two"]) F__law_times fun _ _ _ _ _ _ us hl => match us, hl with | [_, _], _ => rfl,
    g__law_times := He.glo_ok X G (c.fact 22 (f := .glo "_law_times") rfl),
    fd__law_plain := fd__law_plain,
    F__law_plain := F__law_plain,
    b__law_plain := FunD.bindsN (ps := ["pairs"]) F__law_plain fun _ _ _ _ _ _ us hl => match us, hl with | [_], _ => rfl,
    g__law_plain := He.glo_ok X G (c.fact 23 (f := .glo "_law_plain") rfl),
    fd__law_product := fd__law_product,
    F__law_product := F__law_product,
    b__law_product := FunD.bindsN (ps := ["one", "two"]) F__law_product fun _ _ _ _ _ _ us hl => match us, hl with | [_, _], _ => rfl,
    g__law_product := He.glo_ok X G (c.fact 24 (f := .glo "_law_product") rfl),
    fd__law_sum := fd__law_sum,
    F__law_sum := F__law_sum,
    b__law_sum := FunD.bindsN (ps := ["pairs"]) F__law_sum fun _ _ _ _ _ _ us hl => match us, hl with | [_], _ => rfl,
    g__law_sum := He.glo_ok X G (c.fact 25 (f := .glo "_law_sum") rfl),
    fd__law_one_right := fd__law_one_right,
    F__law_one_right := F__law_one_right,
    b__law_one_right := FunD.bindsN (ps := ["pairs", "tick"]) F__law_one_right fun _ _ _ _ _ _ us hl => match us, hl with | [_, _], _ => rfl,
    g__law_one_right := He.glo_ok X G (c.fact 26 (f := .glo "_law_one_right") rfl),
    fd__law_fractions_right := fd__law_fractions_right,
    F__law_fractions_right := F__law_fractions_right,
    b__law_fractions_right := FunD.bindsN (ps := ["one", "two"]) F__law_fractions_right fun _ _ _ _ _ _ us hl => match us, hl with | [_, _], _ => rfl,
    g__law_fractions_right := He.glo_ok X G (c.fact 27 (f := .glo "_law_fractions_right") rfl),
    fd__law_right := fd__law_right,
    F__law_right := F__law_right,
    b__law_right := FunD.bindsN (ps := ["bag"]) F__law_right fun _ _ _ _ _ _ us hl => match us, hl with | [_], _ => rfl,
    g__law_right := He.glo_ok X G (c.fact 28 (f := .glo "_law_right") rfl),
    fd_law := fd_law,
    F_law := F_law,
    b_law := FunD.bindsN (ps := ["script"]) F_law fun _ _ _ _ _ _ us hl => match us, hl with | [_], _ => rfl,
    g_law := He.glo_ok X G (c.fact 29 (f := .glo "law") rfl),
    g_PlanError := He.glo_ok X G (c.fact 30 (f := .glo "PlanError") rfl),
    g_InvalidFraction := He.glo_ok X G (c.fact 31 (f := .glo "InvalidFraction") rfl),
    g_InvalidRow := He.glo_ok X G (c.fact 32 (f := .glo "InvalidRow") rfl),
    g_InvalidTick := He.glo_ok X G (c.fact 33 (f := .glo "InvalidTick") rfl),
    g_Row := He.glo_ok X G (c.fact 34 (f := .glo "Row") rfl),
    cl_Row := He.cls_ok (c.fact 45 (f := .cls "Row") rfl),
    mk_Row := He.mkr_ok (c.fact 46 (f := .mkr "Row") rfl),
    na_Row__shares := He.noat_ok (c.fact 47 (f := .noat "Row" "_shares") rfl),
    me_Row___init__ := He.meth_ok (c.fact 48 (f := .meth "Row" "__init__") rfl),
    me_Row___add__ := He.meth_ok (c.fact 49 (f := .meth "Row" "__add__") rfl),
    me_Row___mul__ := He.meth_ok (c.fact 50 (f := .meth "Row" "__mul__") rfl),
    me_Row___eq__ := He.meth_ok (c.fact 51 (f := .meth "Row" "__eq__") rfl),
    me_Row___len__ := He.meth_ok (c.fact 52 (f := .meth "Row" "__len__") rfl),
    me_Row___contains__ := He.meth_ok (c.fact 53 (f := .meth "Row" "__contains__") rfl),
    me_Row_moved := He.meth_ok (c.fact 54 (f := .meth "Row" "moved") rfl),
    me_Row_cut := He.meth_ok (c.fact 55 (f := .meth "Row" "cut") rfl),
    me_Row_at := He.meth_ok (c.fact 56 (f := .meth "Row" "at") rfl),
    me_Row_up_to := He.meth_ok (c.fact 57 (f := .meth "Row" "up_to") rfl),
    me_Row_total := He.meth_ok (c.fact 58 (f := .meth "Row" "total") rfl),
    me_Row_pairs := He.meth_ok (c.fact 59 (f := .meth "Row" "pairs") rfl),
    m_isinstance := He.free_ok X G (c.fact 35 (f := .free "isinstance") rfl),
    m_int := He.free_ok X G (c.fact 36 (f := .free "int") rfl),
    m_bool := He.free_ok X G (c.fact 37 (f := .free "bool") rfl),
    m_tuple := He.free_ok X G (c.fact 38 (f := .free "tuple") rfl),
    m_list := He.free_ok X G (c.fact 39 (f := .free "list") rfl),
    m_len := He.free_ok X G (c.fact 40 (f := .free "len") rfl),
    m_all := He.free_ok X G (c.fact 41 (f := .free "all") rfl),
    m_sorted := He.free_ok X G (c.fact 42 (f := .free "sorted") rfl),
    m_range := He.free_ok X G (c.fact 43 (f := .free "range") rfl),
    m_abs := He.free_ok X G (c.fact 44 (f := .free "abs") rfl),
    k_int_int := tKit_ok (tst_at x 0 rfl),
    k_int_bool := tKit_ok (tst_at x 1 rfl),
    k_tuple := tKit_ok (tst_at x 2 rfl),
    k_lt_l := of_decide_eq_true (tst_at x 3 rfl),
    k_lt_t := of_decide_eq_true (tst_at x 4 rfl),
    zero := fun H => He.tupB_ok (tst_at x 5 rfl) H,
    g_ZERO := PySem.W.mg_of X G (He.eqO_ok (tst_at x 6 rfl)),
    g_gcd := tGlo_ok X G (tst_at x 7 rfl),
    first_Row := (tst_at x 8 rfl),
    ins_Row := tIns_ok (tst_at x 9 rfl),
    ne_Row := tNe_ok (tst_at x 10 rfl) }⟩
end L86
set_option maxRecDepth 100000
set_option maxHeartbeats 4000000
namespace L86
open PySem PySem.Spec PyProof.Rows L2 Q7
section
variable {P : Program} {w : World} {K : PySem.W.Frag} {mg : Str → Option Value} {base : Heap}
/-! ### the world: whole numbers, fractions -/
def spWhole : Sp := fun vs H Q _ => ∃ n : Int, vs = [.int n] ∧ Q (.bl true) H
theorem ok_is_whole (T : Txt K mg) : FnOk P w K mg base CX0 1 (He.ga K "is_whole") T.fd_is_whole ["value"] spWhole := by
  refine T.F_is_whole.ok sc_is_whole (fun vs H Q E h => ?_) (fun cdv A outer s H vs Q E hr h => ⟨_, PSs.nox
    (pss_one (ps_ret (pe_and (pe_callB call_isi (by rfl) T.m_isinstance (by decide +kernel) (pa_cons (pv 0) (pa_cons (pe_bltn rfl T.m_int (v := .ty "int") (u := .type "int") (by decide +kernel) rfl) pa_nil))) (pe_one (pe_not (pe_callB call_isi (by rfl) T.m_isinstance (by decide +kernel) (pa_cons (pv 0) (pa_cons (pe_bltn rfl T.m_bool (v := .ty "bool") (u := .type "bool") (by decide +kernel) rfl) pa_nil)))))))), ?_⟩)
  · obtain ⟨n, rfl, _⟩ := h
    rfl
  · obtain ⟨n, rfl, hQ⟩ := h
    refine ⟨_, rfl, _, _, _, _, _, rfl, .ty _, .base (.int n), T.k_int_int, _, rfl, iteT ⟨_, rfl, _, _, _, _, _, rfl, .ty _, .base (.int n), T.k_int_bool, _, rfl, hQ⟩⟩
def spTick : Sp := fun vs H Q _ => ∃ n : Int, vs = [.int n] ∧ Q (.bl (decide (0 ≤ n))) H
theorem ok_is_tick (T : Txt K mg) : FnOk P w K mg base CX0 2 (He.ga K "is_tick") T.fd_is_tick ["value"] spTick := by
  refine T.F_is_tick.ok sc_is_tick (fun vs H Q E h => ?_) (fun cdv A outer s H vs Q E hr h => ⟨_, PSs.nox
    (pss_one (ps_ret (pe_and (pe_call (ok_is_whole T) (hr.mono (by decide)) (by rfl) T.g_is_whole T.F_is_whole.kp T.b_is_whole .nil pass0 (pa_cons (pv 0) pa_nil)) (pe_one (pe_cmpR op_ge (pv 0) pe_int (nomark _)))))), ?_⟩)
  · obtain ⟨n, rfl, _⟩ := h
    rfl
  · obtain ⟨n, rfl, hQ⟩ := h
    refine ⟨_, rfl, _, rfl, _, rfl, iteT ⟨_, rfl, _, _, rfl, rfl, ?_⟩⟩
    exact hQ
theorem tyT {H : Hp} {p : Addr} {xs : List V} (h : SqT K H p xs) : TyX K H (.ref p) (.type "tuple") := by
  rcases h with (h | ⟨o, h⟩) | ⟨o, us, n, h, hc, _⟩
  · exact .base (.tup h)
  · exact .fTuple h
  · exact .kTuple h hc
def spIsFr (K : PySem.W.Frag) : Sp := fun vs H Q _ => ∃ v q, vs = [v] ∧ FrV K H v q ∧ Q (.bl true) H
theorem ge_one (q : Rat) : decide ((1 : Int) ≤ (q.den : Int)) = true := decide_eq_true (by have := q.den_pos; omega)
theorem ok_is_fraction (T : Txt K mg) : FnOk P w K mg base CX0 2 (He.ga K "is_fraction") T.fd_is_fraction ["value"] (spIsFr K) := by
  refine T.F_is_fraction.ok sc_is_fraction (fun vs H Q E h => ?_) (fun cdv A outer s H vs Q E hr h => ⟨_, PSs.nox
    (pss_cons (ps_if (PW.pt (pw_or (pt_not (pt_val (pe_callB call_isi (by rfl) T.m_isinstance (by decide +kernel) (pa_cons (pv 0) (pa_cons (pe_bltn rfl T.m_tuple (v := .ty "tuple") (u := .type "tuple") (by decide +kernel) rfl) pa_nil))))) (pw_or1 (pt_cmpR op_ne (pe_callB call_len_seq (by rfl) T.m_len (by decide +kernel) (pa_cons (pv 0) pa_nil)) pe_int (nomark _))))) (pss_one (ps_ret pe_bl)) pss_nil)
      (pss_cons (ps_asg (pv 0) (pg_tup rfl (pgs_cons (pg_name (i := 1) sc_is_fraction.nd rfl (.inl rfl)) (pgs_cons (pg_name (i := 2) sc_is_fraction.nd rfl (.inl rfl)) pgs_nil))))
      (pss_one (ps_ret (pe_and (pe_call (ok_is_whole T) (hr.mono (by decide)) (by rfl) T.g_is_whole T.F_is_whole.kp T.b_is_whole .nil pass0 (pa_cons (pv 1) pa_nil)) (pe_and (pe_call (ok_is_whole T) (hr.mono (by decide)) (by rfl) T.g_is_whole T.F_is_whole.kp T.b_is_whole .nil pass0 (pa_cons (pv 2) pa_nil)) (pe_and (pe_cmpR op_ge (pv 2) pe_int (nomark _)) (pe_one (pe_cmpR op_eq (pe_callBfun cr_gcd (by rfl) T.g_gcd (pa_cons (pv 1) (pa_cons (pv 2) pa_nil))) pe_int (nomark _)))))))))), ?_⟩)
  · obtain ⟨v, q, rfl, _⟩ := h
    rfl
  · obtain ⟨v, q, rfl, ⟨p, rfl, S⟩, hQ⟩ := h
    refine ⟨_, rfl, _, _, _, _, _, rfl, .ty _, tyT S, T.k_tuple, _, rfl, iteF ⟨_, rfl, _, _, rfl, .inr S, rfl, _, rfl, iteF ?_⟩⟩
    refine ⟨_, rfl, _, _, rfl, S, rfl, _, _, rfl, _, _, rfl, rfl, ?_⟩
    refine ⟨_, rfl, _, rfl, _, rfl, iteT ⟨_, rfl, _, rfl, _, rfl, iteT ⟨_, rfl, _, _, rfl, rfl, _, rfl, ?_⟩⟩⟩
    rw [show (decide ((1 : Int) ≤ (q.den : Int))) = true from ge_one q]
    refine iteT ⟨_, rfl, _, rfl, _, _, rfl, rfl, ?_⟩
    rw [rat_gcd q]
    exact hQ
def spChkF (K : PySem.W.Frag) : Sp := fun vs H Q _ => ∃ u v p q, vs = [u, v] ∧ FrV K H u p ∧ FrV K H v q ∧ Q .non H
theorem ok__check_fractions (T : Txt K mg) : FnOk P w K mg base CX0 3 (He.ga K "_check_fractions") T.fd__check_fractions ["one", "other"] (spChkF K) := by
  refine T.F__check_fractions.ok sc__check_fractions (fun vs H Q E h => ?_) (fun cdv A outer s H vs Q E hr h => ⟨_, PSs.nox
    (pss_one (ps_if (PW.pt (pw_or (pt_not (pt_val (pe_call (ok_is_fraction T) (hr.mono (by decide)) (by rfl) T.g_is_fraction T.F_is_fraction.kp T.b_is_fraction .nil pass0 (pa_cons (pv 0) pa_nil)))) (pw_or1 (pt_not (pt_val (pe_call (ok_is_fraction T) (hr.mono (by decide)) (by rfl) T.g_is_fraction T.F_is_fraction.kp T.b_is_fraction .nil pass0 (pa_cons (pv 1) pa_nil))))))) (pss_one ps_never) pss_nil)), ?_⟩)
  · obtain ⟨u, v, p, q, rfl, _⟩ := h
    rfl
  · obtain ⟨u, v, p, q, rfl, hu, hv, hQ⟩ := h
    exact ⟨_, rfl, _, _, rfl, hu, _, rfl, iteF ⟨_, rfl, _, _, rfl, hv, _, rfl, iteF hQ⟩⟩
def spRed (K : PySem.W.Frag) : Sp := fun vs H Q _ => ∃ a b : Int, vs = [.int a, .int b] ∧ b ≠ 0 ∧ b.natAbs < 2 ^ 8000 ∧ ∀ v H', Same H H' → FrV K H' v (Rat.divInt a b) → Q v H'
theorem gcd_ok {a b : Int} (hb : b ≠ 0) (hl : b.natAbs < 2 ^ 8000) (i : Int) (d : Int) (hd : d = -((Nat.gcd a.natAbs b.natAbs : Nat) : Int) ∨ d = ((Nat.gcd a.natAbs b.natAbs : Nat) : Int)) : CDivA i d := by
  have h0 : 0 < Nat.gcd a.natAbs b.natAbs := Nat.gcd_pos_of_pos_right _ (by omega)
  have h1 : Nat.gcd a.natAbs b.natAbs ≤ b.natAbs := Nat.le_of_dvd (by omega) (Nat.gcd_dvd_right _ _)
  refine cdiv_of (b := 8000) ?_ ?_ (by omega) (by omega)
  · rcases hd with rfl | rfl <;> omega
  · have : d.natAbs = Nat.gcd a.natAbs b.natAbs := by rcases hd with rfl | rfl <;> omega
    rw [this]
    exact Nat.lt_of_le_of_lt h1 hl
theorem two_le : 2 ≤ sizeLine := by decide
theorem ok__reduced (T : Txt K mg) : FnOk P w K mg base CX0 1 (He.ga K "_reduced") T.fd__reduced ["top", "bottom"] (spRed K) := by
  refine T.F__reduced.ok sc__reduced (fun vs H Q E h => ?_) (fun cdv A outer s H vs Q E hr h => ⟨_, PSs.nox
    (pss_cons (ps_set (i := 2) sc__reduced.nd rfl (.inl rfl) (pe_callBfun cr_gcd (by rfl) T.g_gcd (pa_cons (pv 0) (pa_cons (pv 1) pa_nil))))
      (pss_cons (ps_if (pt_cmpR op_lt (pv 1) pe_int (nomark _)) (pss_one (ps_set (i := 2) sc__reduced.nd rfl (.inl rfl) (pe_un un_neg (pv 2)))) pss_nil)
      (pss_one (ps_ret (pe_tup (pa_cons (pe_op op_fdivA (pv 0) (pv 2)) (pa_cons (pe_op op_fdivA (pv 1) (pv 2)) pa_nil))))))), ?_⟩)
  · obtain ⟨a, b, rfl, _⟩ := h
    rfl
  · obtain ⟨a, b, rfl, h0, hl, hQ⟩ := h
    refine ⟨_, rfl, _, rfl, _, _, rfl, ?_⟩
    obtain ⟨e1, e2, _⟩ := red a b h0 _ rfl
    refine ⟨_, rfl, _, _, rfl, rfl, _, rfl, ite2 (fun c => ?_) fun c => ?_⟩
    · have c1 : b < 0 := of_decide_eq_true c
      rw [if_pos c1] at e1 e2
      refine ⟨_, rfl, _, rfl, ?_⟩
      refine ⟨_, rfl, _, rfl, _, _, rfl, rfl, gcd_ok h0 hl _ _ (.inl rfl), _, rfl, _, rfl, _, _, rfl, rfl, gcd_ok h0 hl _ _ (.inl rfl), two_le, fun t ht => ?_⟩
      refine hQ _ _ (same_new ht) ⟨t, rfl, sqT_of ?_⟩
      rw [upd_same, ← e1, ← e2]
    · have c1 : ¬ b < 0 := fun q => c (decide_eq_true q)
      rw [if_neg c1] at e1 e2
      refine ⟨_, rfl, _, rfl, _, _, rfl, rfl, gcd_ok h0 hl _ _ (.inr rfl), _, rfl, _, rfl, _, _, rfl, rfl, gcd_ok h0 hl _ _ (.inr rfl), two_le, fun t ht => ?_⟩
      refine hQ _ _ (same_new ht) ⟨t, rfl, sqT_of ?_⟩
      rw [upd_same, ← e1, ← e2]
abbrev BN : Nat := 3000
theorem nmB {q : Rat} (h : B BN q) : q.num.natAbs < 2 ^ BN := h.1
theorem dnB {q : Rat} (h : B BN q) : ((q.den : Int)).natAbs < 2 ^ BN := by rw [Int.natAbs_natCast]; exact h.2
theorem mulW {i j : Int} (hi : i.natAbs < 2 ^ BN) (hj : j.natAbs < 2 ^ BN) : CMulW i j := cmul_of hi hj (by decide)
theorem mul8 {i j : Int} (hi : i.natAbs < 2 ^ BN) (hj : j.natAbs < 2 ^ BN) : (i * j).natAbs < 2 ^ 8000 := Nat.lt_of_lt_of_le (abs_mul_lt hi hj) (Nat.pow_le_pow_right (by decide) (by decide))
theorem den_ne (p q : Rat) : (p.den : Int) * q.den ≠ 0 := by have := den_mul_pos p q; omega
/-- two fractions in, one out -/
def spF2 (K : PySem.W.Frag) (f : Rat → Rat → Rat) : Sp := fun vs H Q _ => ∃ u v p q, vs = [u, v] ∧ FrV K H u p ∧ FrV K H v q ∧ B BN p ∧ B BN q ∧ ∀ x H', Same H H' → FrV K H' x (f p q) → Q x H'
theorem shF2 {K : PySem.W.Frag} {f : Rat → Rat → Rat} {vs : List V} {H : Hp} {Q : VK} {E : XK} (h : spF2 K f vs H Q E) : vs.length = 2 := by
  obtain ⟨u, v, p, q, rfl, _⟩ := h
  rfl
theorem ok__sum (T : Txt K mg) : FnOk P w K mg base CX0 2 (He.ga K "_sum") T.fd__sum ["one", "other"] (spF2 K (fun p q => p + q)) := by
  refine T.F__sum.ok sc__sum (fun vs H Q E h => ?_) (fun cdv A outer s H vs Q E hr h => ⟨_, PSs.nox
    (pss_one (ps_ret (pe_call (ok__reduced T) (hr.mono (by decide)) (by rfl) T.g__reduced T.F__reduced.kp T.b__reduced .nil pass0 (pa_cons (pe_op op_add (pe_op op_mulW (pe_ix ix_tup (pv 0) pe_int (fun _ _ => rfl)) (pe_ix ix_tup (pv 1) pe_int (fun _ _ => rfl))) (pe_op op_mulW (pe_ix ix_tup (pv 1) pe_int (fun _ _ => rfl)) (pe_ix ix_tup (pv 0) pe_int (fun _ _ => rfl)))) (pa_cons (pe_op op_mulW (pe_ix ix_tup (pv 0) pe_int (fun _ _ => rfl)) (pe_ix ix_tup (pv 1) pe_int (fun _ _ => rfl))) pa_nil))))), ?_⟩)
  · exact shF2 h
  · obtain ⟨_, _, p, q, rfl, ⟨a, rfl, S1⟩, ⟨b, rfl, S2⟩, b1, b2, hQ⟩ := h
    refine ⟨_, rfl, _, _, _, _, rfl, rfl, S1, rfl, _, rfl, _, _, _, _, rfl, rfl, S2, rfl, _, _, rfl, rfl, mulW (nmB b1) (dnB b2), ?_⟩
    refine ⟨_, rfl, _, _, _, _, rfl, rfl, S2, rfl, _, rfl, _, _, _, _, rfl, rfl, S1, rfl, _, _, rfl, rfl, mulW (nmB b2) (dnB b1), _, _, rfl, rfl, ?_⟩
    refine ⟨_, rfl, _, _, _, _, rfl, rfl, S1, rfl, _, rfl, _, _, _, _, rfl, rfl, S2, rfl, _, _, rfl, rfl, mulW (dnB b1) (dnB b2), ?_⟩
    refine ⟨_, _, rfl, den_ne p q, mul8 (dnB b1) (dnB b2), fun x H' s r => hQ x H' s ?_⟩
    show FrV K H' x (p + q)
    rw [add_eq]
    exact r
theorem ok__product (T : Txt K mg) : FnOk P w K mg base CX0 2 (He.ga K "_product") T.fd__product ["one", "other"] (spF2 K (fun p q => p * q)) := by
  refine T.F__product.ok sc__product (fun vs H Q E h => ?_) (fun cdv A outer s H vs Q E hr h => ⟨_, PSs.nox
    (pss_one (ps_ret (pe_call (ok__reduced T) (hr.mono (by decide)) (by rfl) T.g__reduced T.F__reduced.kp T.b__reduced .nil pass0 (pa_cons (pe_op op_mulW (pe_ix ix_tup (pv 0) pe_int (fun _ _ => rfl)) (pe_ix ix_tup (pv 1) pe_int (fun _ _ => rfl))) (pa_cons (pe_op op_mulW (pe_ix ix_tup (pv 0) pe_int (fun _ _ => rfl)) (pe_ix ix_tup (pv 1) pe_int (fun _ _ => rfl))) pa_nil))))), ?_⟩)
  · exact shF2 h
  · obtain ⟨_, _, p, q, rfl, ⟨a, rfl, S1⟩, ⟨b, rfl, S2⟩, b1, b2, hQ⟩ := h
    refine ⟨_, rfl, _, _, _, _, rfl, rfl, S1, rfl, _, rfl, _, _, _, _, rfl, rfl, S2, rfl, _, _, rfl, rfl, mulW (nmB b1) (nmB b2), ?_⟩
    refine ⟨_, rfl, _, _, _, _, rfl, rfl, S1, rfl, _, rfl, _, _, _, _, rfl, rfl, S2, rfl, _, _, rfl, rfl, mulW (dnB b1) (dnB b2), ?_⟩
    refine ⟨_, _, rfl, den_ne p q, mul8 (dnB b1) (dnB b2), fun x H' s r => hQ x H' s ?_⟩
    show FrV K H' x (p * q)
    rw [mul_eq]
    exact r
theorem ok_plus (T : Txt K mg) : FnOk P w K mg base CX0 4 (He.ga K "plus") T.fd_plus ["one", "other"] (spF2 K (fun p q => p + q)) := by
  refine T.F_plus.ok sc_plus (fun vs H Q E h => ?_) (fun cdv A outer s H vs Q E hr h => ⟨_, PSs.nox
    (pss_cons (ps_expr (pe_call (ok__check_fractions T) (hr.mono (by decide)) (by rfl) T.g__check_fractions T.F__check_fractions.kp T.b__check_fractions .nil pass0 (pa_cons (pv 0) (pa_cons (pv 1) pa_nil))))
      (pss_one (ps_ret (pe_call (ok__sum T) (hr.mono (by decide)) (by rfl) T.g__sum T.F__sum.kp T.b__sum .nil pass0 (pa_cons (pv 0) (pa_cons (pv 1) pa_nil)))))), ?_⟩)
  · exact shF2 h
  · obtain ⟨u, v, p, q, rfl, h1, h2, b1, b2, hQ⟩ := h
    exact ⟨_, rfl, _, rfl, _, _, _, _, rfl, h1, h2, _, rfl, _, rfl, _, _, _, _, rfl, h1, h2, b1, b2, hQ⟩
theorem ok_times (T : Txt K mg) : FnOk P w K mg base CX0 4 (He.ga K "times") T.fd_times ["one", "other"] (spF2 K (fun p q => p * q)) := by
  refine T.F_times.ok sc_times (fun vs H Q E h => ?_) (fun cdv A outer s H vs Q E hr h => ⟨_, PSs.nox
    (pss_cons (ps_expr (pe_call (ok__check_fractions T) (hr.mono (by decide)) (by rfl) T.g__check_fractions T.F__check_fractions.kp T.b__check_fractions .nil pass0 (pa_cons (pv 0) (pa_cons (pv 1) pa_nil))))
      (pss_one (ps_ret (pe_call (ok__product T) (hr.mono (by decide)) (by rfl) T.g__product T.F__product.kp T.b__product .nil pass0 (pa_cons (pv 0) (pa_cons (pv 1) pa_nil)))))), ?_⟩)
  · exact shF2 h
  · obtain ⟨u, v, p, q, rfl, h1, h2, b1, b2, hQ⟩ := h
    exact ⟨_, rfl, _, rfl, _, _, _, _, rfl, h1, h2, _, rfl, _, rfl, _, _, _, _, rfl, h1, h2, b1, b2, hQ⟩
theorem frV_neg {H : Hp} {t : Addr} {q : Rat} (h : H t = some (.tup [.int (-q.num), .int q.den])) : FrV K H (.ref t) (-q) := ⟨t, rfl, sqT_of (by rw [Rat.neg_num, Rat.neg_den]; exact h)⟩
theorem B.neg' {n : Nat} {q : Rat} (h : B n q) : B n (-q) := B.neg h
theorem ok_minus (T : Txt K mg) : FnOk P w K mg base CX0 4 (He.ga K "minus") T.fd_minus ["one", "other"] (spF2 K (fun p q => p + -q)) := by
  refine T.F_minus.ok sc_minus (fun vs H Q E h => ?_) (fun cdv A outer s H vs Q E hr h => ⟨_, PSs.nox
    (pss_cons (ps_expr (pe_call (ok__check_fractions T) (hr.mono (by decide)) (by rfl) T.g__check_fractions T.F__check_fractions.kp T.b__check_fractions .nil pass0 (pa_cons (pv 0) (pa_cons (pv 1) pa_nil))))
      (pss_one (ps_ret (pe_call (ok__sum T) (hr.mono (by decide)) (by rfl) T.g__sum T.F__sum.kp T.b__sum .nil pass0 (pa_cons (pv 0) (pa_cons (pe_tup (pa_cons (pe_un un_neg (pe_ix ix_tup (pv 1) pe_int (fun _ _ => rfl))) (pa_cons (pe_ix ix_tup (pv 1) pe_int (fun _ _ => rfl)) pa_nil))) pa_nil)))))), ?_⟩)
  · exact shF2 h
  · obtain ⟨u, v, p, q, rfl, h1, h2, b1, b2, hQ⟩ := h
    refine ⟨_, rfl, _, rfl, _, _, _, _, rfl, h1, h2, ?_⟩
    obtain ⟨b, rfl, S2⟩ := h2
    refine ⟨_, rfl, _, rfl, _, _, _, _, rfl, rfl, S2, rfl, _, rfl, _, rfl, _, _, _, _, rfl, rfl, S2, rfl, two_le, fun t ht => ?_⟩
    exact ⟨_, _, _, _, rfl, frV_tk h1 (same_tk (same_new ht)), frV_neg upd_same, b1, B.neg' b2, fun x H' s r => hQ x H' ((same_new ht).trans s) r⟩
def spFrac (K : PySem.W.Frag) : Sp := fun vs H Q _ => ∃ a b : Int, vs = [.int a, .int b] ∧ b ≠ 0 ∧ b.natAbs < 2 ^ 8000 ∧ ∀ v H', Same H H' → FrV K H' v (Rat.divInt a b) → Q v H'
theorem ok_fraction (T : Txt K mg) : FnOk P w K mg base CX0 2 (He.ga K "fraction") T.fd_fraction ["top", "bottom"] (spFrac K) := by
  refine T.F_fraction.ok sc_fraction (fun vs H Q E h => ?_) (fun cdv A outer s H vs Q E hr h => ⟨_, PSs.nox
    (pss_cons (ps_if (PW.pt (pw_or (pt_not (pt_val (pe_call (ok_is_whole T) (hr.mono (by decide)) (by rfl) T.g_is_whole T.F_is_whole.kp T.b_is_whole .nil pass0 (pa_cons (pv 0) pa_nil)))) (pw_or (pt_not (pt_val (pe_call (ok_is_whole T) (hr.mono (by decide)) (by rfl) T.g_is_whole T.F_is_whole.kp T.b_is_whole .nil pass0 (pa_cons (pv 1) pa_nil)))) (pw_or1 (pt_cmpR op_eq (pv 1) pe_int (nomark _)))))) (pss_one ps_never) pss_nil)
      (pss_one (ps_ret (pe_call (ok__reduced T) (hr.mono (by decide)) (by rfl) T.g__reduced T.F__reduced.kp T.b__reduced .nil pass0 (pa_cons (pv 0) (pa_cons (pv 1) pa_nil)))))), ?_⟩)
  · obtain ⟨a, b, rfl, _⟩ := h
    rfl
  · obtain ⟨a, b, rfl, h0, hl, hQ⟩ := h
    refine ⟨_, rfl, _, rfl, _, rfl, iteF ⟨_, rfl, _, rfl, _, rfl, iteF ⟨_, rfl, rfl, _, rfl, ?_⟩⟩⟩
    rw [show decide (V.int b = V.int 0) = false from decide_eq_false fun e => h0 (by cases e; rfl)]
    exact iteF ⟨_, rfl, _, rfl, _, _, rfl, h0, hl, hQ⟩
def spLess (K : PySem.W.Frag) : Sp := fun vs H Q _ => ∃ u v p q, vs = [u, v] ∧ FrV K H u p ∧ FrV K H v q ∧ B BN p ∧ B BN q ∧ Q (.bl (decide (p.num * q.den < q.num * p.den))) H
theorem ok_is_less (T : Txt K mg) : FnOk P w K mg base CX0 4 (He.ga K "is_less") T.fd_is_less ["one", "other"] (spLess K) := by
  refine T.F_is_less.ok sc_is_less (fun vs H Q E h => ?_) (fun cdv A outer s H vs Q E hr h => ⟨_, PSs.nox
    (pss_cons (ps_expr (pe_call (ok__check_fractions T) (hr.mono (by decide)) (by rfl) T.g__check_fractions T.F__check_fractions.kp T.b__check_fractions .nil pass0 (pa_cons (pv 0) (pa_cons (pv 1) pa_nil))))
      (pss_one (ps_ret (pe_cmpR op_lt (pe_op op_mulW (pe_ix ix_tup (pv 0) pe_int (fun _ _ => rfl)) (pe_ix ix_tup (pv 1) pe_int (fun _ _ => rfl))) (pe_op op_mulW (pe_ix ix_tup (pv 1) pe_int (fun _ _ => rfl)) (pe_ix ix_tup (pv 0) pe_int (fun _ _ => rfl))) (nomark _))))), ?_⟩)
  · obtain ⟨u, v, p, q, rfl, _⟩ := h
    rfl
  · obtain ⟨u, v, p, q, rfl, h1, h2, b1, b2, hQ⟩ := h
    refine ⟨_, rfl, _, rfl, _, _, _, _, rfl, h1, h2, ?_⟩
    obtain ⟨a, rfl, S1⟩ := h1
    obtain ⟨b, rfl, S2⟩ := h2
    refine ⟨_, rfl, _, _, _, _, rfl, rfl, S1, rfl, _, rfl, _, _, _, _, rfl, rfl, S2, rfl, _, _, rfl, rfl, mulW (nmB b1) (dnB b2), ?_⟩
    exact ⟨_, rfl, _, _, _, _, rfl, rfl, S2, rfl, _, rfl, _, _, _, _, rfl, rfl, S1, rfl, _, _, rfl, rfl, mulW (nmB b2) (dnB b1), _, _, rfl, rfl, hQ⟩
def spOver (K : PySem.W.Frag) : Sp := fun vs H Q _ => ∃ u v p q, vs = [u, v] ∧ FrV K H u p ∧ FrV K H v q ∧ B BN p ∧ B BN q ∧ q ≠ 0 ∧ ∀ x H', Same H H' → FrV K H' x (p / q) → Q x H'
theorem num_ne {q : Rat} (h : q ≠ 0) : q.num ≠ 0 := fun e => h (Rat.num_eq_zero.mp e)
theorem ok_over (T : Txt K mg) : FnOk P w K mg base CX0 4 (He.ga K "over") T.fd_over ["one", "other"] (spOver K) := by
  refine T.F_over.ok sc_over (fun vs H Q E h => ?_) (fun cdv A outer s H vs Q E hr h => ⟨_, PSs.nox
    (pss_cons (ps_expr (pe_call (ok__check_fractions T) (hr.mono (by decide)) (by rfl) T.g__check_fractions T.F__check_fractions.kp T.b__check_fractions .nil pass0 (pa_cons (pv 0) (pa_cons (pv 1) pa_nil))))
      (pss_cons (ps_if (pt_cmpR (op_eqD hr.units) (pv 1) (pe_glob (v := V.ref (He.ga K "ZERO")) rfl T.g_ZERO rfl) (nomark _)) (pss_one ps_never) pss_nil)
      (pss_one (ps_ret (pe_call (ok__reduced T) (hr.mono (by decide)) (by rfl) T.g__reduced T.F__reduced.kp T.b__reduced .nil pass0 (pa_cons (pe_op op_mulW (pe_ix ix_tup (pv 0) pe_int (fun _ _ => rfl)) (pe_ix ix_tup (pv 1) pe_int (fun _ _ => rfl))) (pa_cons (pe_op op_mulW (pe_ix ix_tup (pv 0) pe_int (fun _ _ => rfl)) (pe_ix ix_tup (pv 1) pe_int (fun _ _ => rfl))) pa_nil))))))), ?_⟩)
  · obtain ⟨u, v, p, q, rfl, _⟩ := h
    rfl
  · obtain ⟨u, v, p, q, rfl, h1, h2, b1, b2, h0, hQ⟩ := h
    refine ⟨_, rfl, _, rfl, _, _, _, _, rfl, h1, h2, ?_⟩
    refine ⟨_, rfl, _, _, frV_dp h2, frV_dp (q := 0) ⟨_, rfl, T.zero H⟩, sh_fr q, sh_fr 0, _, rfl, ?_⟩
    rw [eqv_fr, decide_eq_false h0]
    obtain ⟨a, rfl, S1⟩ := h1
    obtain ⟨b, rfl, S2⟩ := h2
    refine iteF ⟨_, rfl, _, _, _, _, rfl, rfl, S1, rfl, _, rfl, _, _, _, _, rfl, rfl, S2, rfl, _, _, rfl, rfl, mulW (nmB b1) (dnB b2), ?_⟩
    refine ⟨_, rfl, _, _, _, _, rfl, rfl, S1, rfl, _, rfl, _, _, _, _, rfl, rfl, S2, rfl, _, _, rfl, rfl, mulW (dnB b1) (nmB b2), ?_⟩
    refine ⟨_, _, rfl, Int.mul_ne_zero (by have := p.den_pos; omega) (num_ne h0), mul8 (dnB b1) (nmB b2), fun x H' s r => hQ x H' s ?_⟩
    rw [divq_eq]
    exact r
def spPairT (K : PySem.W.Frag) : Sp := fun vs H Q _ => ∃ v t, vs = [v] ∧ PrV K H v t ∧ 0 ≤ t.1 ∧ Q (.bl true) H
theorem ok__is_pair (T : Txt K mg) : FnOk P w K mg base CX0 3 (He.ga K "_is_pair") T.fd__is_pair ["value"] (spPairT K) := by
  refine T.F__is_pair.ok sc__is_pair (fun vs H Q E h => ?_) (fun cdv A outer s H vs Q E hr h => ⟨_, PSs.nox
    (pss_one (ps_ret (pe_and (pe_callB call_isi (by rfl) T.m_isinstance (by decide +kernel) (pa_cons (pv 0) (pa_cons (pe_bltn rfl T.m_tuple (v := .ty "tuple") (u := .type "tuple") (by decide +kernel) rfl) pa_nil))) (pe_and (pe_cmpR op_eq (pe_callB call_len_seq (by rfl) T.m_len (by decide +kernel) (pa_cons (pv 0) pa_nil)) pe_int (nomark _)) (pe_and (pe_call (ok_is_tick T) (hr.mono (by decide)) (by rfl) T.g_is_tick T.F_is_tick.kp T.b_is_tick .nil pass0 (pa_cons (pe_ix ix_tup (pv 0) pe_int (fun _ _ => rfl)) pa_nil)) (pe_one (pe_call (ok_is_fraction T) (hr.mono (by decide)) (by rfl) T.g_is_fraction T.F_is_fraction.kp T.b_is_fraction .nil pass0 (pa_cons (pe_ix ix_tup (pv 0) pe_int (fun _ _ => rfl)) pa_nil)))))))), ?_⟩)
  · obtain ⟨v, t, rfl, _⟩ := h
    rfl
  · obtain ⟨v, t, rfl, ⟨p, x, rfl, S, f⟩, h0, hQ⟩ := h
    refine ⟨_, rfl, _, _, _, _, _, rfl, .ty _, tyT S, T.k_tuple, _, rfl, iteT ⟨_, rfl, _, _, rfl, .inr S, rfl, _, rfl, iteT ?_⟩⟩
    refine ⟨_, rfl, _, _, _, _, rfl, rfl, S, rfl, _, rfl, _, rfl, ?_⟩
    rw [decide_eq_true h0]
    exact iteT ⟨_, rfl, _, _, _, _, rfl, rfl, S, rfl, _, _, rfl, f, hQ⟩
def spChkT : Sp := fun vs H Q _ => ∃ n : Int, vs = [.int n] ∧ 0 ≤ n ∧ Q .non H
theorem ok__check_tick (T : Txt K mg) : FnOk P w K mg base CX0 3 (He.ga K "_check_tick") T.fd__check_tick ["value"] spChkT := by
  refine T.F__check_tick.ok sc__check_tick (fun vs H Q E h => ?_) (fun cdv A outer s H vs Q E hr h => ⟨_, PSs.nox
    (pss_one (ps_if (pt_not (pt_val (pe_call (ok_is_tick T) (hr.mono (by decide)) (by rfl) T.g_is_tick T.F_is_tick.kp T.b_is_tick .nil pass0 (pa_cons (pv 0) pa_nil)))) (pss_one ps_never) pss_nil)), ?_⟩)
  · obtain ⟨n, rfl, _⟩ := h
    rfl
  · obtain ⟨n, rfl, h0, hQ⟩ := h
    refine ⟨_, rfl, _, rfl, _, rfl, ?_⟩
    rw [decide_eq_true h0]
    exact iteF hQ
theorem take_sum {qs : List Rat} {i : Nat} {q : Rat} (h : qs[i]? = some q) : (qs.take (i + 1)).sum = (qs.take i).sum + q := by
  rw [List.take_succ, h]
  simp [List.sum_append, Rat.add_zero]
theorem seqL_same {H H' : Hp} {a : Addr} {xs : List V} (h : SqL K H a xs) (s : Same H H') : SqL K H' a xs := Same.seq s h
/-- a list of fractions in, their sum -/
def spSumOf (K : PySem.W.Frag) : Sp := fun vs H Q _ => ∃ a xs qs, vs = [.ref a] ∧ SqL K H a xs ∧ Paired (FrV K H) xs qs ∧ (∀ i, B BN (qs.take i).sum) ∧ (∀ q ∈ qs, B BN q) ∧ ∀ x H', Same H H' → FrV K H' x qs.sum → Q x H'
theorem ok_sum_of (T : Txt K mg) : FnOk P w K mg base CX0 3 (He.ga K "sum_of") T.fd_sum_of ["fractions"] (spSumOf K) := by
  refine T.F_sum_of.ok sc_sum_of (fun vs H Q E h => ?_) (fun cdv A outer s H vs Q E hr h => ⟨_, PSs.nox
    (pss_cons (ps_set (i := 1) sc_sum_of.nd rfl (.inl rfl) (pe_glob (v := V.ref (He.ga K "ZERO")) rfl T.g_ZERO rfl))
      (pss_cons (ps_for PassesOwn.never rfl (pi_list (pv 0)) (pg_name (i := 2) sc_sum_of.nd rfl (.inl rfl)) (pss_one (ps_set (i := 1) sc_sum_of.nd rfl (.inl rfl) (pe_call (ok__sum T) (hr.mono (by decide)) (by rfl) T.g__sum T.F__sum.kp T.b__sum .nil pass0 (pa_cons (pv 1) (pa_cons (pv 2) pa_nil))))))
      (pss_one (ps_ret (pv 1))))), ?_⟩)
  · obtain ⟨a, xs, qs, rfl, _⟩ := h
    rfl
  · obtain ⟨a, xs, qs, rfl, S, hp, b1, b2, hQ⟩ := h
    refine ⟨_, rfl, a, rfl, ⟨_, S⟩, ?_⟩
    refine for_list (xs := xs) (fun i σ H' => Same H H' ∧ ∃ o t z, σ = [o, some t, z] ∧ FrV K H' t (qs.take i).sum) ⟨Same.refl H, _, _, _, rfl, ⟨_, rfl, T.zero H⟩⟩ (fun i σ H' _ p => seqL_same S p.1) ?_ ?_
    · rintro i x σ H' hx ⟨sm, o, t, z, rfl, ft⟩
      obtain ⟨q, hq, fx⟩ := pGet hp hx
      refine ⟨_, rfl, _, rfl, _, _, _, _, rfl, ft, frV_tk fx (same_tk sm), b1 i, b2 q (List.mem_of_getElem? hq), fun y H2 s2 r => ?_⟩
      exact ⟨sm.trans s2, _, _, _, rfl, by rw [take_sum hq]; exact r⟩
    · rintro σ H' ⟨sm, o, t, z, rfl, ft⟩
      rw [pLen hp, List.take_length] at ft
      exact ⟨_, rfl, hQ _ _ sm ft⟩
end
end L86
set_option maxRecDepth 100000
set_option maxHeartbeats 4000000
namespace L86
open PySem PySem.Spec PyProof.Rows L2 Q7
section
variable {P : Program} {w : World} {K : PySem.W.Frag} {mg : Str → Option Value} {base : Heap}
/-! ### the law's own numbers -/
def spLow (K : PySem.W.Frag) : Sp := fun vs H Q _ => ∃ a b : Int, vs = [.int a, .int b] ∧ 0 < b ∧ b.natAbs < 2 ^ 8000 ∧ ∀ v H', Same H H' → FrV K H' v (Rat.divInt a b) → Q v H'
theorem nat_emod (m n : Nat) : ((m : Int) % (n : Int)) = ((m % n : Nat) : Int) := rfl
theorem ok__law_low (T : Txt K mg) : FnOk P w K mg base CX0 1 (He.ga K "_law_low") T.fd__law_low ["top", "bottom"] (spLow K) := by
  refine T.F__law_low.ok sc__law_low (fun vs H Q E h => ?_) (fun cdv A outer s H vs Q E hr h => ⟨_, PSs.nox
    (pss_cons (ps_par (i := 2) (j := 3) rfl sc__law_low.nd rfl rfl (by decide) rfl rfl (pa_cons (pe_callB call_abs (by rfl) T.m_abs (by decide +kernel) (pa_cons (pv 0) pa_nil)) (pa_cons (pv 1) pa_nil)) (by rfl))
      (pss_cons (ps_while PassesOwn.never (pt_cmpR op_ne (pv 3) pe_int (nomark _)) (pss_one (ps_par (i := 2) (j := 3) rfl sc__law_low.nd rfl rfl (by decide) rfl rfl (pa_cons (pv 3) (pa_cons (pe_op op_mod (pe_callTy call_int1 (by rfl) T.m_int (by decide +kernel) (pa_cons (pv 2) pa_nil)) (pv 3)) pa_nil)) (by rfl))))
      (pss_one (ps_ret (pe_tup (pa_cons (pe_op op_fdivA (pv 0) (pv 2)) (pa_cons (pe_op op_fdivA (pv 1) (pv 2)) pa_nil))))))), ?_⟩)
  · obtain ⟨a, b, rfl, _⟩ := h
    rfl
  · obtain ⟨a, b, rfl, h0, hl, hQ⟩ := h
    refine ⟨_, rfl, _, rfl, _, rfl, _, _, rfl, ?_⟩
    have eb : b = ((b.natAbs : Nat) : Int) := by omega
    refine while_by (fun σ H' => H' = H ∧ ∃ m n : Nat, σ = [some (.int a), some (.int b), some (.int m), some (.int n)] ∧ Nat.gcd m n = Nat.gcd a.natAbs b.natAbs ∧ (n = 0 → 0 < m)) (fun σ _ => match σ with | [_, _, _, some (.int n)] => n.toNat | _ => 0) ?_ ?_ ?_
    · refine ⟨rfl, a.natAbs, b.natAbs, ?_, rfl, fun e => by omega⟩
      show [some (V.int a), some (V.int b), some (V.int (if a < 0 then -a else a)), some (V.int b)] = _
      rw [show (if a < 0 then -a else a) = (a.natAbs : Int) by split <;> omega, ← eb]
    · rintro σ H' ⟨rfl, m, n, rfl, hg, hm⟩
      refine ⟨_, rfl, rfl, _, rfl, ?_⟩
      by_cases hn : n = 0
      · subst hn
        rw [show (!decide (V.int ((0 : Nat) : Int) = V.int 0)) = false by decide]
        refine iteF ?_
        obtain ⟨e1, e2, e3⟩ := red a b (by omega) _ rfl
        rw [if_neg (by omega)] at e1 e2
        rw [Nat.gcd_zero_right] at hg
        rw [← hg] at e1 e2
        have c : ∀ i, CDivA i (m : Int) := fun i => gcd_ok (a := a) (b := b) (by omega) hl i _ (.inr (by rw [hg]))
        refine ⟨_, rfl, _, rfl, _, _, rfl, rfl, c _, _, rfl, _, rfl, _, _, rfl, rfl, c _, two_le, fun t ht => ?_⟩
        refine hQ _ _ (same_new ht) ⟨t, rfl, sqT_of ?_⟩
        rw [upd_same, ← e1, ← e2]
      · rw [show (!decide (V.int (n : Int) = V.int 0)) = true by
          rw [decide_eq_false fun e => hn (by cases n with | zero => rfl | succ k => cases e)]; rfl]
        refine iteT ⟨_, rfl, _, rfl, .inl ⟨_, rfl, _, rfl, _, _, rfl, rfl, (by show (0 : Int) < (n : Int); omega), _, _, rfl, ?_⟩⟩
        refine ⟨⟨rfl, n, m % n, ?_, ?_, fun e => by omega⟩, ?_⟩
        · rfl
        · rw [Nat.gcd_comm n, ← Nat.gcd_rec, Nat.gcd_comm]; exact hg
        · show (((m : Int) % (n : Int))).toNat < ((n : Int)).toNat
          rw [nat_emod]
          have := Nat.mod_lt m (show 0 < n by omega)
          omega
    · rintro σ H' Q Q' hh ⟨v, e, r, k, e2, q⟩
      exact ⟨v, e, r, k, e2, hh _ _ q⟩
theorem ok__law_added (T : Txt K mg) : FnOk P w K mg base CX0 2 (He.ga K "_law_added") T.fd__law_added ["one", "two"] (spF2 K (fun p q => p + q)) := by
  refine T.F__law_added.ok sc__law_added (fun vs H Q E h => ?_) (fun cdv A outer s H vs Q E hr h => ⟨_, PSs.nox
    (pss_one (ps_ret (pe_call (ok__law_low T) (hr.mono (by decide)) (by rfl) T.g__law_low T.F__law_low.kp T.b__law_low .nil pass0 (pa_cons (pe_op op_add (pe_op op_mulW (pe_ix ix_tup (pv 0) pe_int (fun _ _ => rfl)) (pe_ix ix_tup (pv 1) pe_int (fun _ _ => rfl))) (pe_op op_mulW (pe_ix ix_tup (pv 1) pe_int (fun _ _ => rfl)) (pe_ix ix_tup (pv 0) pe_int (fun _ _ => rfl)))) (pa_cons (pe_op op_mulW (pe_ix ix_tup (pv 0) pe_int (fun _ _ => rfl)) (pe_ix ix_tup (pv 1) pe_int (fun _ _ => rfl))) pa_nil))))), ?_⟩)
  · exact shF2 h
  · obtain ⟨_, _, p, q, rfl, ⟨a, rfl, S1⟩, ⟨b, rfl, S2⟩, b1, b2, hQ⟩ := h
    refine ⟨_, rfl, _, _, _, _, rfl, rfl, S1, rfl, _, rfl, _, _, _, _, rfl, rfl, S2, rfl, _, _, rfl, rfl, mulW (nmB b1) (dnB b2), ?_⟩
    refine ⟨_, rfl, _, _, _, _, rfl, rfl, S2, rfl, _, rfl, _, _, _, _, rfl, rfl, S1, rfl, _, _, rfl, rfl, mulW (nmB b2) (dnB b1), _, _, rfl, rfl, ?_⟩
    refine ⟨_, rfl, _, _, _, _, rfl, rfl, S1, rfl, _, rfl, _, _, _, _, rfl, rfl, S2, rfl, _, _, rfl, rfl, mulW (dnB b1) (dnB b2), ?_⟩
    refine ⟨_, _, rfl, den_mul_pos p q, mul8 (dnB b1) (dnB b2), fun x H' s r => hQ x H' s ?_⟩
    show FrV K H' x (p + q)
    rw [add_eq]
    exact r
theorem ok__law_times (T : Txt K mg) : FnOk P w K mg base CX0 2 (He.ga K "_law_times") T.fd__law_times ["one", "two"] (spF2 K (fun p q => p * q)) := by
  refine T.F__law_times.ok sc__law_times (fun vs H Q E h => ?_) (fun cdv A outer s H vs Q E hr h => ⟨_, PSs.nox
    (pss_one (ps_ret (pe_call (ok__law_low T) (hr.mono (by decide)) (by rfl) T.g__law_low T.F__law_low.kp T.b__law_low .nil pass0 (pa_cons (pe_op op_mulW (pe_ix ix_tup (pv 0) pe_int (fun _ _ => rfl)) (pe_ix ix_tup (pv 1) pe_int (fun _ _ => rfl))) (pa_cons (pe_op op_mulW (pe_ix ix_tup (pv 0) pe_int (fun _ _ => rfl)) (pe_ix ix_tup (pv 1) pe_int (fun _ _ => rfl))) pa_nil))))), ?_⟩)
  · exact shF2 h
  · obtain ⟨_, _, p, q, rfl, ⟨a, rfl, S1⟩, ⟨b, rfl, S2⟩, b1, b2, hQ⟩ := h
    refine ⟨_, rfl, _, _, _, _, rfl, rfl, S1, rfl, _, rfl, _, _, _, _, rfl, rfl, S2, rfl, _, _, rfl, rfl, mulW (nmB b1) (nmB b2), ?_⟩
    refine ⟨_, rfl, _, _, _, _, rfl, rfl, S1, rfl, _, rfl, _, _, _, _, rfl, rfl, S2, rfl, _, _, rfl, rfl, mulW (dnB b1) (dnB b2), ?_⟩
    refine ⟨_, _, rfl, den_mul_pos p q, mul8 (dnB b1) (dnB b2), fun x H' s r => hQ x H' s ?_⟩
    show FrV K H' x (p * q)
    rw [mul_eq]
    exact r
def BagAt (H : Hp) (b : Addr) (c d : Int) : Prop := H b = some (.lst [.int c, .int d])
def spBag : Sp := fun vs H Q _ => ∃ c k : Int, vs = [.int c, .int k] ∧ 0 ≤ k ∧ k < 2 ^ 20 ∧ ∀ b d, H b = none → 0 ≤ d → d < 2 ^ 30 → Q (.ref b) (upd H b (.lst [.int c.natAbs, .int d]))
theorem ok__law_bag (T : Txt K mg) : FnOk P w K mg base CX0 1 (He.ga K "_law_bag") T.fd__law_bag ["cell", "k"] spBag := by
  refine T.F__law_bag.ok sc__law_bag (fun vs H Q E h => ?_) (fun cdv A outer s H vs Q E hr h => ⟨_, PSs.nox
    (pss_cons (ps_if (pt_cmpR op_lt (pv 0) pe_int (nomark _)) (pss_one (ps_ret (pe_lst (pa_cons (pe_un un_neg (pv 0)) (pa_cons (pe_op op_add (pe_op op_mulW pe_int (pv 1)) pe_int) pa_nil))))) pss_nil)
      (pss_one (ps_ret (pe_lst (pa_cons (pv 0) (pa_cons (pe_op op_mulW pe_int (pv 1)) pa_nil)))))), ?_⟩)
  · obtain ⟨c, k, rfl, _⟩ := h
    rfl
  · obtain ⟨c, k, rfl, h0, h1, hQ⟩ := h
    have hm : CMulW 37 k := cmul_of (a := 6) (b := 20) (by decide) (by omega) (by decide)
    refine ⟨_, rfl, _, _, rfl, rfl, _, rfl, ite2 (fun c0 => ?_) fun c0 => ?_⟩
    · have c1 : c < 0 := of_decide_eq_true c0
      refine ⟨_, rfl, _, rfl, _, rfl, _, _, rfl, rfl, hm, _, _, rfl, rfl, two_le, fun l hl => ?_⟩
      have := hQ l (37 * k + 18) hl (by omega) (by omega)
      rw [show (c.natAbs : Int) = -c by omega] at this
      exact this
    · have c1 : ¬ c < 0 := fun q => c0 (decide_eq_true q)
      refine ⟨_, rfl, _, rfl, _, _, rfl, rfl, hm, two_le, fun l hl => ?_⟩
      have := hQ l (37 * k) hl (by omega) (by omega)
      rw [show (c.natAbs : Int) = c by omega] at this
      exact this
theorem upd_upd {H : Hp} {b : Addr} {o p : HO} : upd (upd H b o) b p = upd H b p := by
  funext a
  by_cases h : a = b
  · subst h; rw [upd_same, upd_same]
  · rw [upd_ne h, upd_ne h, upd_ne h]
def spDraw : Sp := fun vs H Q _ => ∃ b c d m, vs = [.ref b, .int m] ∧ BagAt H b c d ∧ 0 ≤ d ∧ d < 2 ^ 40 ∧ 0 < m ∧ m < 2 ^ 20 ∧ ∀ r c' : Int, 0 ≤ r → r < m → Q (.int r) (upd H b (.lst [.int c', .int (d + 1)]))
theorem em_lt {a : Int} {n : Int} (h : 0 < n) (l : n ≤ 2 ^ 31) : (a % n).natAbs < 2 ^ 31 := by
  have h1 := Int.emod_nonneg a (show n ≠ 0 by omega)
  have h2 := Int.emod_lt_of_pos a h
  omega
theorem ok__law_draw (T : Txt K mg) : FnOk P w K mg base CX0 1 (He.ga K "_law_draw") T.fd__law_draw ["bag", "many"] spDraw := by
  refine T.F__law_draw.ok sc__law_draw (fun vs H Q E h => ?_) (fun cdv A outer s H vs Q E hr h => ⟨_, PSs.nox
    (pss_cons (ps_augS (pv 0) pe_int get_list pe_int ip_add set_list)
      (pss_cons (ps_if (pt_cmpR op_ge (pe_ix ix_list (pv 0) pe_int (fun _ _ => rfl)) (pe_op op_pow pe_int pe_int) (nomark _)) (pss_cons (ps_set (i := 2) sc__law_draw.nd rfl (.inl rfl) (pe_op op_mod (pe_callTy call_int1 (by rfl) T.m_int (by decide +kernel) (pa_cons (pe_ix ix_list (pv 0) pe_int (fun _ _ => rfl)) pa_nil)) (pv 1)))
      (pss_cons (ps_asg (pe_op op_fdivA (pe_ix ix_list (pv 0) pe_int (fun _ _ => rfl)) (pv 1)) (pg_sub (pv 0) pe_int set_list))
      (pss_one (ps_ret (pv 2))))) pss_nil)
      (pss_cons (ps_set (i := 3) sc__law_draw.nd rfl (.inl rfl) (pe_op op_mod (pe_callTy call_int1 (by rfl) T.m_int (by decide +kernel) (pa_cons (pe_op op_add (pe_op op_add (pe_op op_mod (pe_callTy call_int1 (by rfl) T.m_int (by decide +kernel) (pa_cons (pe_ix ix_list (pv 0) pe_int (fun _ _ => rfl)) pa_nil)) pe_int) (pe_op op_mulW pe_int (pe_ix ix_list (pv 0) pe_int (fun _ _ => rfl)))) pe_int) pa_nil)) pe_int))
      (pss_cons (ps_set (i := 3) sc__law_draw.nd rfl (.inl rfl) (pe_op op_mod (pe_callTy call_int1 (by rfl) T.m_int (by decide +kernel) (pa_cons (pe_op op_mulW (pv 3) (pv 3)) pa_nil)) pe_int))
      (pss_cons (ps_set (i := 3) sc__law_draw.nd rfl (.inl rfl) (pe_op op_mod (pe_callTy call_int1 (by rfl) T.m_int (by decide +kernel) (pa_cons (pe_op op_add (pv 3) (pe_op op_mulW pe_int (pe_ix ix_list (pv 0) pe_int (fun _ _ => rfl)))) pa_nil)) pe_int))
      (pss_cons (ps_set (i := 3) sc__law_draw.nd rfl (.inl rfl) (pe_op op_mod (pe_callTy call_int1 (by rfl) T.m_int (by decide +kernel) (pa_cons (pe_op op_mulW (pv 3) (pv 3)) pa_nil)) pe_int))
      (pss_one (ps_ret (pe_op op_mod (pe_callTy call_int1 (by rfl) T.m_int (by decide +kernel) (pa_cons (pe_op op_fdivA (pv 3) pe_int) pa_nil)) (pv 1)))))))))), ?_⟩)
  · obtain ⟨b, c, d, m, rfl, _⟩ := h
    rfl
  · obtain ⟨b, c, d, m, rfl, hb, d0, d1, m0, m1, hQ⟩ := h
    have hB : ∀ {c d : Int}, upd H b (.lst [.int c, .int d]) b = some (.lst [.int c, .int d]) := upd_same
    refine ⟨_, rfl, _, _, _, _, rfl, rfl, sqL_of hb, by decide, rfl, ?_⟩
    refine ⟨_, _, rfl, rfl, _, _, _, _, rfl, rfl, hb, rfl, ?_⟩
    have hc : CDivA c m := cdiv_of (b := 20) (by omega) (by omega) (by decide) (by decide)
    have m2 : ∀ {x : Int}, x.natAbs < 2 ^ 31 → CMulW x x := fun h => cmul_of h h (by decide)
    have m3 : ∀ {k : Int}, k.natAbs < 2 ^ 31 → CMulW k (d + 1) := fun h => cmul_of (b := 41) h (by omega) (by decide)
    have e0 : ∀ {a n : Int}, 0 < n → 0 ≤ a % n := fun h => Int.emod_nonneg _ (by omega)
    refine ⟨_, rfl, _, _, _, _, rfl, rfl, sqL_of hB, rfl, _, _, rfl, rfl, ⟨by decide, by decide, by decide⟩, _, _, rfl, rfl, _, rfl, ite2 (fun _ => ?_) fun _ => ?_⟩
    · refine ⟨_, rfl, _, _, _, _, rfl, rfl, sqL_of hB, rfl, .inl ⟨_, rfl, _, rfl, _, _, rfl, rfl, m0, ?_⟩⟩
      refine ⟨_, rfl, _, _, _, _, rfl, rfl, sqL_of hB, rfl, _, rfl, _, _, rfl, rfl, hc, _, rfl, _, _, _, _, rfl, rfl, hB, rfl, _, rfl, ?_⟩
      rw [upd_upd]
      exact hQ _ _ (e0 m0) (Int.emod_lt_of_pos _ m0)
    · refine ⟨_, rfl, _, _, _, _, rfl, rfl, sqL_of hB, rfl, .inl ⟨_, rfl, _, _, rfl, rfl, (by show (0 : Int) < 2147483629; decide), ?_⟩⟩
      refine ⟨_, rfl, _, _, _, _, rfl, rfl, sqL_of hB, rfl, _, _, rfl, rfl, m3 (by decide), _, _, rfl, rfl, _, _, rfl, rfl, .inl ⟨_, rfl, _, _, rfl, rfl, (by show (0 : Int) < 2147483587; decide), ?_⟩⟩
      refine ⟨_, rfl, _, rfl, _, _, rfl, rfl, m2 (em_lt (by decide) (by decide)), .inl ⟨_, rfl, _, _, rfl, rfl, (by show (0 : Int) < 2147483587; decide), ?_⟩⟩
      refine ⟨_, rfl, _, rfl, _, _, _, _, rfl, rfl, sqL_of hB, rfl, _, _, rfl, rfl, m3 (by decide), _, _, rfl, rfl, .inl ⟨_, rfl, _, _, rfl, rfl, (by show (0 : Int) < 2147483563; decide), ?_⟩⟩
      refine ⟨_, rfl, _, rfl, _, _, rfl, rfl, m2 (em_lt (by decide) (by decide)), .inl ⟨_, rfl, _, _, rfl, rfl, (by show (0 : Int) < 2147483563; decide), ?_⟩⟩
      refine ⟨_, rfl, _, _, rfl, rfl, ⟨by decide, by decide⟩, .inl ⟨_, rfl, _, rfl, _, _, rfl, rfl, m0, ?_⟩⟩
      exact hQ _ _ (e0 m0) (Int.emod_lt_of_pos _ m0)
end
end L86
set_option maxRecDepth 100000
set_option maxHeartbeats 4000000
namespace L86
open PySem PySem.Spec PyProof.Rows L2 Q7
section
variable {P : Program} {w : World} {K : PySem.W.Frag} {mg : Str → Option Value} {base : Heap}
/-! ### rows: __init__ -/
theorem sqL_same {H H' : Hp} {a : Addr} {xs : List V} (h : SqL K H a xs) (s : Same H H') : SqL K H' a xs := Same.seq s h
theorem sqT_same {H H' : Hp} {a : Addr} {xs : List V} (h : SqT K H a xs) (s : Same H H') : SqT K H' a xs := sqT_tk h (same_tk s)
abbrev RC (K : PySem.W.Frag) : Addr := He.ga K "Row"
def spInit (K : PySem.W.Frag) : Sp := fun vs H Q _ => ∃ x dx l xs ps, vs = [.ref x, .ref l] ∧ H x = some (.ins (RC K) dx []) ∧ SqL K H l xs ∧ PrsV K H xs ps ∧ Gq ps ∧
  ∀ H', (∀ b o, H b = some o → b ≠ x → H' b = some o) → RowAt K (RC K) H' (.ref x) (norm ps) → Q .non H'
theorem line64 : 64 < sizeLine := by decide
theorem rep_all (n : Nat) : (List.replicate n true).all id = true := by
  induction n with
  | zero => rfl
  | succ k ih => rw [List.replicate_succ]; exact ih
theorem rep_snoc {α : Type} (n : Nat) (x : α) : List.replicate n x ++ [x] = List.replicate (n + 1) x := List.replicate_succ'.symm
theorem ok_Row___init__ (T : Txt K mg) : FnOk P w K mg base CX0 4 (He.ma K (He.ga K "Row") "__init__") T.fd_Row___init__ ["self", "pairs"] (spInit K) := by
  refine T.F_Row___init__.ok sc_Row___init__ (fun vs H Q E h => ?_) (fun cdv A outer s H vs Q E hr h => ⟨_, PSs.nox
    (pss_cons (ps_if (PW.pt (pw_or (pt_not (pt_val (pe_callB call_isiT (by rfl) T.m_isinstance (by decide +kernel) (pa_cons (pv 1) (pa_cons (pe_tup (pa_cons (pe_bltn rfl T.m_list (v := .ty "list") (u := .type "list") (by decide +kernel) rfl) (pa_cons (pe_bltn rfl T.m_tuple (v := .ty "tuple") (u := .type "tuple") (by decide +kernel) rfl) pa_nil))) pa_nil))))) (pw_or1 (pt_not (pt_val (pe_callB (cr_all rfl) (by rfl) T.m_all (by decide +kernel) (pa_cons (pe_lc (own := [("pair", 5)]) rfl sc_Row___init__.nd (pi_list (pv 1)) (blkOk_by (N := ["self", "pairs", "sums", "tick", "share", "pair"]) (sc := defScope s_Row___init__) (by decide +kernel)) (fun _ _ _ _ _ => (pg_name (i := 5) sc_Row___init__.nd rfl (.inl rfl))) (fun _ _ _ _ _ => pts_nil) (fun _ _ _ _ _ => (pe_call (ok__is_pair T) (hr.mono (by decide)) (by rfl) T.g__is_pair T.F__is_pair.kp T.b__is_pair .nil pass0 (pa_cons (pv 5) pa_nil)))) pa_nil))))))) (pss_one ps_never) pss_nil)
      (pss_cons (ps_set (i := 2) sc_Row___init__.nd rfl (.inr rfl) pe_dnewK)
      (pss_cons (ps_for PassesOwn.never rfl (pi_list (pv 1)) (pg_tup rfl (pgs_cons (pg_name (i := 3) sc_Row___init__.nd rfl (.inl rfl)) (pgs_cons (pg_name (i := 4) sc_Row___init__.nd rfl (.inl rfl)) pgs_nil))) (pss_one (ps_dput (hu_of hr) (pv 2) (pv 3) (pe_call (ok__sum T) (hr.mono (by decide)) (by rfl) T.g__sum T.F__sum.kp T.b__sum .nil pass0 (pa_cons (pe_dget2 (hu_of hr) (pv 2) (pv 3) (pe_glob (v := V.ref (He.ga K "ZERO")) rfl T.g_ZERO rfl) ⟨by rfl, by rfl, by rfl, by rfl⟩) (pa_cons (pv 4) pa_nil))) rfl)))
      (pss_one (ps_fld (pv 0) (pe_dc (own := [("tick", 3)]) rfl sc_Row___init__.nd (pi_list (pe_callB (call_sortedDI rfl) (by rfl) T.m_sorted (by decide +kernel) (pa_cons (pv 2) pa_nil))) (blkOk_by (N := ["self", "pairs", "sums", "tick", "share", "pair"]) (sc := defScope s_Row___init__) (by decide +kernel)) (fun _ _ _ _ _ => (pg_name (i := 3) sc_Row___init__.nd rfl (.inl rfl))) (fun _ _ _ _ _ => (pts_one (pt_cmpR (show OpR _ (compareOp .NotEq) (rNeD K) from (op_neD hr.units)) (pe_dget (hu_of hr) (pv 2) (pv 3) (fun _ _ => rfl)) (pe_glob (v := V.ref (He.ga K "ZERO")) rfl T.g_ZERO rfl) (nomark _)))) (fun _ _ _ _ _ => (pv 3)) (fun _ _ _ _ _ => (pe_dget (hu_of hr) (pv 2) (pv 3) (fun _ _ => rfl)))) rfl))))), ?_⟩)
  · obtain ⟨x, dx, l, xs, ps, rfl, _⟩ := h
    rfl
  · obtain ⟨x, dx, l, xs, ps, rfl, hx, S, hp, g, hQ⟩ := h
    have hlen : xs.length ≤ 63 := by rw [pLen hp]; exact g.len
    have hlen2 : (sums ps).length ≤ 63 := by have := sums_len ps; have := g.len; omega
    refine ⟨_, rfl, two_le, fun tp htp => ⟨_, tp, _, _, _, _, rfl, upd_same, .cons (.ty _) (.cons (.ty _) .nil), tyL (sqL_same S (same_new htp)), T.k_lt_l, _, rfl, iteF ?_⟩⟩
    have s1 := same_new (o := .tup [.ty "list", .ty "tuple"]) htp
    refine ⟨_, rfl, l, rfl, ⟨_, sqL_same S s1⟩, fun D hD => ?_⟩
    refine lc_list (xs := xs) (fun i H' => Same (upd H tp (.tup [.ty "list", .ty "tuple"])) H' ∧ H' D = some (.lst (List.replicate i (.bl true)))) ⟨same_new hD, upd_same⟩ (fun i H' _ p => sqL_same S (s1.trans p.1)) ?_ ?_
    · rintro i v H' hv ⟨sm, hd⟩
      obtain ⟨p, hq, fx⟩ := pGet hp hv
      refine ⟨rfl, ?_⟩
      refine ⟨_, rfl, _, p, rfl, prV_tk fx (same_tk (s1.trans sm)), g.lo p (List.mem_of_getElem? hq), _, hd, ?_, same_mut sm hD, ?_⟩
      · rw [List.length_replicate]
        have := (List.getElem?_eq_some_iff.mp hv).1
        have := line64
        omega
      · rw [upd_same, rep_snoc]
    · rintro H2 ⟨sm2, hd2⟩
      refine ⟨D, List.replicate xs.length true, rfl, sqL_of (by rw [hd2, List.map_replicate]), _, rfl, ?_⟩
      rw [rep_all]
      refine iteF ?_
      have s2 := s1.trans sm2
      intro d hd
      refine ⟨_, rfl, l, rfl, ⟨_, sqL_same S (s2.trans (same_new hd))⟩, ?_⟩
      refine for_list (xs := xs) (fun i σ H' => Same H2 H' ∧ ∃ ks o3 o4 o5, H' d = some (.dK ks) ∧ KvF K H' ks (sums (ps.take i)) ∧ σ = [some (.ref x), some (.ref l), some (.ref d), o3, o4, o5]) ⟨same_new hd, [], _, _, _, upd_same, .nil, rfl⟩ (fun i σ H' _ p => sqL_same S (s2.trans p.1)) ?_ ?_
      · rintro i v σ H' hv ⟨sm, ks, o3, o4, o5, hk, hK, rfl⟩
        obtain ⟨p, hq, ⟨pa, y, rfl, Sp, fy⟩⟩ := pGet hp hv
        have hH := s2.trans sm
        refine ⟨pa, _, rfl, sqT_same Sp hH, rfl, _, _, rfl, _, _, rfl, rfl, ?_⟩
        have hmem := List.mem_of_getElem? hq
        have hdg : DGet H' d (.int p.1) (valV ks (Sum.inl p.1)) := DGet.k (k := Sum.inl p.1) hk
        have hf : FrV K H' ((valV ks (Sum.inl p.1)).getD (.ref (He.ga K "ZERO"))) (look (sums (ps.take i)) p.1) := by
          rcases kvF_get p.1 hK with ⟨a, _, c⟩ | ⟨w, a, _, c⟩
          · rw [a, c]
            exact ⟨_, rfl, T.zero H'⟩
          · rw [a]
            exact c
        refine ⟨_, rfl, d, rfl, .inl ⟨ks, .inl hk⟩, _, rfl, _, hdg, _, rfl, _, _, _, _, rfl, hf, frV_same fy hH, g.look i p.1, g.mem p hmem, fun z H3 s3 r => ?_⟩
        refine ⟨_, rfl, _, rfl, d, _, rfl, DPut.k (k := Sum.inl p.1) (s3 _ _ hk) ?_, ?_⟩
        · have h1 := hK.length
          have h2 := sums_len (ps.take i)
          have h3 := line64
          have h4 := g.len
          rw [List.length_take] at h2
          omega
        · refine ⟨same_mut (sm.trans s3) hd, _, _, _, _, upd_same, ?_, rfl⟩
          rw [sums_take hq]
          exact kvF_tk (kvF_put (kvF_tk hK (same_tk s3)) (sums_nodup _) r) (tk_dk (s3 _ _ hk))
      · rintro σ H3 ⟨sm3, ks, o3, o4, o5, hk, hK, rfl⟩
        rw [pLen hp, List.take_length] at hK
        have s3 := s2.trans sm3
        refine ⟨_, rfl, d, ks, (sums ps).map (·.1), rfl, .inl hk, kvF_keys hK, ?_, fun ys sp hperm hsort hsp => ⟨sp, rfl, ⟨_, sqL_of upd_same⟩, fun D2 hD2 => ?_⟩⟩
        · rw [List.length_map]; omega
        have nd : ys.Nodup := hperm.nodup_iff.mpr (sums_nodup ps)
        have ylen : ys.length ≤ 63 := by rw [hperm.length_eq, List.length_map]; exact hlen2
        have s4 := same_new (o := .lst (ys.map V.int)) hsp
        refine dc_list (xs := ys.map V.int) (fun i H' => Same (upd H3 sp (.lst (ys.map V.int))) H' ∧ ∃ k2, H' D2 = some (.dK k2) ∧ KvF K H' k2 (pick (sums ps) (ys.take i))) ⟨same_new hD2, [], upd_same, .nil⟩ (fun i H' _ p => sqL_of (p.1 _ _ upd_same)) ?_ ?_
        · rintro i v H' hv ⟨sm, k2, hk2, hK2⟩
          have hi : i < ys.length := by
            have := (List.getElem?_eq_some_iff.mp hv).1
            rwa [List.length_map] at this
          obtain ⟨t, ht, rfl⟩ : ∃ t, ys[i]? = some t ∧ v = .int t := by
            rw [List.getElem?_map] at hv
            obtain ⟨t, a, b⟩ := Option.map_eq_some_iff.mp hv
            exact ⟨t, a, b.symm⟩
          have hK' := kvF_tk hK (same_tk (s4.trans sm))
          have hk' := sm _ _ (s4 _ _ hk)
          have hg : DGet H' d (.int t) (valV ks (Sum.inl t)) := DGet.k (k := Sum.inl t) hk'
          obtain ⟨w, a, ft⟩ : ∃ w, valV ks (Sum.inl t) = some w ∧ FrV K H' w (look (sums ps) t) := by
            rcases kvF_get t hK' with ⟨a, b, c⟩ | ⟨w, a, b, c⟩
            · exact absurd (hperm.mem_iff.mp (List.mem_of_getElem? ht)) b
            · exact ⟨w, a, c⟩
          rw [a] at hg
          refine ⟨rfl, ?_⟩
          refine ⟨_, rfl, _, rfl, d, w, rfl, hg, _, _, frV_dp ft, frV_dp (q := 0) ⟨_, rfl, T.zero H'⟩, sh_fr _, sh_fr 0, _, rfl, ?_⟩
          rw [eqv_fr]
          by_cases hz : look (sums ps) t = 0
          · rw [decide_eq_true hz]
            refine iteF ?_
            exact ⟨sm, k2, hk2, by rw [pick_snoc ht, if_pos hz]; exact hK2⟩
          · rw [decide_eq_false hz]
            refine iteT ?_
            refine ⟨_, rfl, _, rfl, _, rfl, d, w, rfl, hg, k2, Sum.inl t, rfl, hk2, ?_, ?_⟩
            · have h1 := hK2.length
              have h2 : (pick (sums ps) (ys.take i)).length ≤ i := by
                unfold pick
                refine Nat.le_trans (List.length_filter_le _ _) ?_
                rw [List.length_map, List.length_take]
                omega
              have h3 := line64
              omega
            · refine ⟨same_mut sm hD2, _, upd_same, ?_⟩
              have hn : valV k2 (Sum.inl t) = none := by
                rcases kvF_get t hK2 with ⟨a, _, _⟩ | ⟨w, a, b, c⟩
                · exact a
                · exact absurd b (pick_key nd ht)
              rw [putK_new _ hn, pick_snoc ht, if_neg hz]
              exact kvF_tk (kvF_snoc hK2 ft) (tk_dk hk2)
        · rintro H4 ⟨sm4, k2, hk2, hK2⟩
          rw [List.length_map, List.take_length] at hK2
          have s5 := s3.trans (s4.trans sm4)
          have hx4 := s5 _ _ hx
          refine ⟨_, rfl, x, _, dx, _, rfl, hx4, T.cl_Row, T.na_Row__shares, by decide, ?_⟩
          have ne : D2 ≠ x := ne_of hk2 hx4 (by intro z; cases z)
          refine hQ _ (fun b o e nb => ?_) ⟨x, dx, D2, k2, rfl, upd_same, ?_, ?_, norm_nf ps⟩
          · rw [upd_ne nb]
            exact s5 _ _ e
          · rw [upd_ne ne]
            exact hk2
          · rw [norm_pick hperm hsort] at hK2
            exact kvF_tk hK2 (tk_ins hx4)
end
end L86
set_option maxRecDepth 100000
set_option maxHeartbeats 4000000
namespace L86
open PySem PySem.Spec PyProof.Rows L2 Q7
section
variable {P : Program} {w : World} {K : PySem.W.Frag} {mg : Str → Option Value} {base : Heap}
def spInitT (K : PySem.W.Frag) : Sp := fun vs H Q _ => ∃ x dx l xs ps, vs = [.ref x, .ref l] ∧ H x = some (.ins (RC K) dx []) ∧ SqT K H l xs ∧ PrsV K H xs ps ∧ Gq ps ∧
  ∀ H', (∀ b o, H b = some o → b ≠ x → H' b = some o) → RowAt K (RC K) H' (.ref x) (norm ps) → Q .non H'
theorem ok_Row___init___T (T : Txt K mg) : FnOk P w K mg base CX0 4 (He.ma K (He.ga K "Row") "__init__") T.fd_Row___init__ ["self", "pairs"] (spInitT K) := by
  refine T.F_Row___init__.ok sc_Row___init__ (fun vs H Q E h => ?_) (fun cdv A outer s H vs Q E hr h => ⟨_, PSs.nox
    (pss_cons (ps_if (PW.pt (pw_or (pt_not (pt_val (pe_callB call_isiT (by rfl) T.m_isinstance (by decide +kernel) (pa_cons (pv 1) (pa_cons (pe_tup (pa_cons (pe_bltn rfl T.m_list (v := .ty "list") (u := .type "list") (by decide +kernel) rfl) (pa_cons (pe_bltn rfl T.m_tuple (v := .ty "tuple") (u := .type "tuple") (by decide +kernel) rfl) pa_nil))) pa_nil))))) (pw_or1 (pt_not (pt_val (pe_callB (cr_all rfl) (by rfl) T.m_all (by decide +kernel) (pa_cons (pe_lc (own := [("pair", 5)]) rfl sc_Row___init__.nd (pi_tup (pv 1)) (blkOk_by (N := ["self", "pairs", "sums", "tick", "share", "pair"]) (sc := defScope s_Row___init__) (by decide +kernel)) (fun _ _ _ _ _ => (pg_name (i := 5) sc_Row___init__.nd rfl (.inl rfl))) (fun _ _ _ _ _ => pts_nil) (fun _ _ _ _ _ => (pe_call (ok__is_pair T) (hr.mono (by decide)) (by rfl) T.g__is_pair T.F__is_pair.kp T.b__is_pair .nil pass0 (pa_cons (pv 5) pa_nil)))) pa_nil))))))) (pss_one ps_never) pss_nil)
      (pss_cons (ps_set (i := 2) sc_Row___init__.nd rfl (.inr rfl) pe_dnewK)
      (pss_cons (ps_for PassesOwn.never rfl (pi_tup (pv 1)) (pg_tup rfl (pgs_cons (pg_name (i := 3) sc_Row___init__.nd rfl (.inl rfl)) (pgs_cons (pg_name (i := 4) sc_Row___init__.nd rfl (.inl rfl)) pgs_nil))) (pss_one (ps_dput (hu_of hr) (pv 2) (pv 3) (pe_call (ok__sum T) (hr.mono (by decide)) (by rfl) T.g__sum T.F__sum.kp T.b__sum .nil pass0 (pa_cons (pe_dget2 (hu_of hr) (pv 2) (pv 3) (pe_glob (v := V.ref (He.ga K "ZERO")) rfl T.g_ZERO rfl) ⟨by rfl, by rfl, by rfl, by rfl⟩) (pa_cons (pv 4) pa_nil))) rfl)))
      (pss_one (ps_fld (pv 0) (pe_dc (own := [("tick", 3)]) rfl sc_Row___init__.nd (pi_list (pe_callB (call_sortedDI rfl) (by rfl) T.m_sorted (by decide +kernel) (pa_cons (pv 2) pa_nil))) (blkOk_by (N := ["self", "pairs", "sums", "tick", "share", "pair"]) (sc := defScope s_Row___init__) (by decide +kernel)) (fun _ _ _ _ _ => (pg_name (i := 3) sc_Row___init__.nd rfl (.inl rfl))) (fun _ _ _ _ _ => (pts_one (pt_cmpR (show OpR _ (compareOp .NotEq) (rNeD K) from (op_neD hr.units)) (pe_dget (hu_of hr) (pv 2) (pv 3) (fun _ _ => rfl)) (pe_glob (v := V.ref (He.ga K "ZERO")) rfl T.g_ZERO rfl) (nomark _)))) (fun _ _ _ _ _ => (pv 3)) (fun _ _ _ _ _ => (pe_dget (hu_of hr) (pv 2) (pv 3) (fun _ _ => rfl)))) rfl))))), ?_⟩)
  · obtain ⟨x, dx, l, xs, ps, rfl, _⟩ := h
    rfl
  · obtain ⟨x, dx, l, xs, ps, rfl, hx, S, hp, g, hQ⟩ := h
    have hlen : xs.length ≤ 63 := by rw [pLen hp]; exact g.len
    have hlen2 : (sums ps).length ≤ 63 := by have := sums_len ps; have := g.len; omega
    refine ⟨_, rfl, two_le, fun tp htp => ⟨_, tp, _, _, _, _, rfl, upd_same, .cons (.ty _) (.cons (.ty _) .nil), tyT (sqT_same S (same_new htp)), T.k_lt_t, _, rfl, iteF ?_⟩⟩
    have s1 := same_new (o := .tup [.ty "list", .ty "tuple"]) htp
    refine ⟨_, rfl, l, rfl, ⟨_, sqT_same S s1⟩, fun D hD => ?_⟩
    refine lc_tup (xs := xs) (fun i H' => Same (upd H tp (.tup [.ty "list", .ty "tuple"])) H' ∧ H' D = some (.lst (List.replicate i (.bl true)))) ⟨same_new hD, upd_same⟩ (fun i H' _ p => sqT_same S (s1.trans p.1)) ?_ ?_
    · rintro i v H' hv ⟨sm, hd⟩
      obtain ⟨p, hq, fx⟩ := pGet hp hv
      refine ⟨rfl, ?_⟩
      refine ⟨_, rfl, _, p, rfl, prV_tk fx (same_tk (s1.trans sm)), g.lo p (List.mem_of_getElem? hq), _, hd, ?_, same_mut sm hD, ?_⟩
      · rw [List.length_replicate]
        have := (List.getElem?_eq_some_iff.mp hv).1
        have := line64
        omega
      · rw [upd_same, rep_snoc]
    · rintro H2 ⟨sm2, hd2⟩
      refine ⟨D, List.replicate xs.length true, rfl, sqL_of (by rw [hd2, List.map_replicate]), _, rfl, ?_⟩
      rw [rep_all]
      refine iteF ?_
      have s2 := s1.trans sm2
      intro d hd
      refine ⟨_, rfl, l, rfl, ⟨_, sqT_same S (s2.trans (same_new hd))⟩, ?_⟩
      refine for_tup (xs := xs) (fun i σ H' => Same H2 H' ∧ ∃ ks o3 o4 o5, H' d = some (.dK ks) ∧ KvF K H' ks (sums (ps.take i)) ∧ σ = [some (.ref x), some (.ref l), some (.ref d), o3, o4, o5]) ⟨same_new hd, [], _, _, _, upd_same, .nil, rfl⟩ (fun i σ H' _ p => sqT_same S (s2.trans p.1)) ?_ ?_
      · rintro i v σ H' hv ⟨sm, ks, o3, o4, o5, hk, hK, rfl⟩
        obtain ⟨p, hq, ⟨pa, y, rfl, Sp, fy⟩⟩ := pGet hp hv
        have hH := s2.trans sm
        refine ⟨pa, _, rfl, sqT_same Sp hH, rfl, _, _, rfl, _, _, rfl, rfl, ?_⟩
        have hmem := List.mem_of_getElem? hq
        have hdg : DGet H' d (.int p.1) (valV ks (Sum.inl p.1)) := DGet.k (k := Sum.inl p.1) hk
        have hf : FrV K H' ((valV ks (Sum.inl p.1)).getD (.ref (He.ga K "ZERO"))) (look (sums (ps.take i)) p.1) := by
          rcases kvF_get p.1 hK with ⟨a, _, c⟩ | ⟨w, a, _, c⟩
          · rw [a, c]
            exact ⟨_, rfl, T.zero H'⟩
          · rw [a]
            exact c
        refine ⟨_, rfl, d, rfl, .inl ⟨ks, .inl hk⟩, _, rfl, _, hdg, _, rfl, _, _, _, _, rfl, hf, frV_same fy hH, g.look i p.1, g.mem p hmem, fun z H3 s3 r => ?_⟩
        refine ⟨_, rfl, _, rfl, d, _, rfl, DPut.k (k := Sum.inl p.1) (s3 _ _ hk) ?_, ?_⟩
        · have h1 := hK.length
          have h2 := sums_len (ps.take i)
          have h3 := line64
          have h4 := g.len
          rw [List.length_take] at h2
          omega
        · refine ⟨same_mut (sm.trans s3) hd, _, _, _, _, upd_same, ?_, rfl⟩
          rw [sums_take hq]
          exact kvF_tk (kvF_put (kvF_tk hK (same_tk s3)) (sums_nodup _) r) (tk_dk (s3 _ _ hk))
      · rintro σ H3 ⟨sm3, ks, o3, o4, o5, hk, hK, rfl⟩
        rw [pLen hp, List.take_length] at hK
        have s3 := s2.trans sm3
        refine ⟨_, rfl, d, ks, (sums ps).map (·.1), rfl, .inl hk, kvF_keys hK, ?_, fun ys sp hperm hsort hsp => ⟨sp, rfl, ⟨_, sqL_of upd_same⟩, fun D2 hD2 => ?_⟩⟩
        · rw [List.length_map]; omega
        have nd : ys.Nodup := hperm.nodup_iff.mpr (sums_nodup ps)
        have ylen : ys.length ≤ 63 := by rw [hperm.length_eq, List.length_map]; exact hlen2
        have s4 := same_new (o := .lst (ys.map V.int)) hsp
        refine dc_list (xs := ys.map V.int) (fun i H' => Same (upd H3 sp (.lst (ys.map V.int))) H' ∧ ∃ k2, H' D2 = some (.dK k2) ∧ KvF K H' k2 (pick (sums ps) (ys.take i))) ⟨same_new hD2, [], upd_same, .nil⟩ (fun i H' _ p => sqL_of (p.1 _ _ upd_same)) ?_ ?_
        · rintro i v H' hv ⟨sm, k2, hk2, hK2⟩
          have hi : i < ys.length := by
            have := (List.getElem?_eq_some_iff.mp hv).1
            rwa [List.length_map] at this
          obtain ⟨t, ht, rfl⟩ : ∃ t, ys[i]? = some t ∧ v = .int t := by
            rw [List.getElem?_map] at hv
            obtain ⟨t, a, b⟩ := Option.map_eq_some_iff.mp hv
            exact ⟨t, a, b.symm⟩
          have hK' := kvF_tk hK (same_tk (s4.trans sm))
          have hk' := sm _ _ (s4 _ _ hk)
          have hg : DGet H' d (.int t) (valV ks (Sum.inl t)) := DGet.k (k := Sum.inl t) hk'
          obtain ⟨w, a, ft⟩ : ∃ w, valV ks (Sum.inl t) = some w ∧ FrV K H' w (look (sums ps) t) := by
            rcases kvF_get t hK' with ⟨a, b, c⟩ | ⟨w, a, b, c⟩
            · exact absurd (hperm.mem_iff.mp (List.mem_of_getElem? ht)) b
            · exact ⟨w, a, c⟩
          rw [a] at hg
          refine ⟨rfl, ?_⟩
          refine ⟨_, rfl, _, rfl, d, w, rfl, hg, _, _, frV_dp ft, frV_dp (q := 0) ⟨_, rfl, T.zero H'⟩, sh_fr _, sh_fr 0, _, rfl, ?_⟩
          rw [eqv_fr]
          by_cases hz : look (sums ps) t = 0
          · rw [decide_eq_true hz]
            refine iteF ?_
            exact ⟨sm, k2, hk2, by rw [pick_snoc ht, if_pos hz]; exact hK2⟩
          · rw [decide_eq_false hz]
            refine iteT ?_
            refine ⟨_, rfl, _, rfl, _, rfl, d, w, rfl, hg, k2, Sum.inl t, rfl, hk2, ?_, ?_⟩
            · have h1 := hK2.length
              have h2 : (pick (sums ps) (ys.take i)).length ≤ i := by
                unfold pick
                refine Nat.le_trans (List.length_filter_le _ _) ?_
                rw [List.length_map, List.length_take]
                omega
              have h3 := line64
              omega
            · refine ⟨same_mut sm hD2, _, upd_same, ?_⟩
              have hn : valV k2 (Sum.inl t) = none := by
                rcases kvF_get t hK2 with ⟨a, _, _⟩ | ⟨w, a, b, c⟩
                · exact a
                · exact absurd b (pick_key nd ht)
              rw [putK_new _ hn, pick_snoc ht, if_neg hz]
              exact kvF_tk (kvF_snoc hK2 ft) (tk_dk hk2)
        · rintro H4 ⟨sm4, k2, hk2, hK2⟩
          rw [List.length_map, List.take_length] at hK2
          have s5 := s3.trans (s4.trans sm4)
          have hx4 := s5 _ _ hx
          refine ⟨_, rfl, x, _, dx, _, rfl, hx4, T.cl_Row, T.na_Row__shares, by decide, ?_⟩
          have ne : D2 ≠ x := ne_of hk2 hx4 (by intro z; cases z)
          refine hQ _ (fun b o e nb => ?_) ⟨x, dx, D2, k2, rfl, upd_same, ?_, ?_, norm_nf ps⟩
          · rw [upd_ne nb]
            exact s5 _ _ e
          · rw [upd_ne ne]
            exact hk2
          · rw [norm_pick hperm hsort] at hK2
            exact kvF_tk hK2 (tk_ins hx4)
end
end L86
set_option maxRecDepth 100000
set_option maxHeartbeats 4000000
namespace L86
open PySem PySem.Spec PyProof.Rows L2 Q7
section
variable {P : Program} {w : World} {K : PySem.W.Frag} {mg : Str → Option Value} {base : Heap}
/-! ### rows: the methods -/
theorem un70 {k : Nat} {A : Around} (r : Room k A) : A.units + 70 < cLine := by have := r.un; omega
abbrev RA (K : PySem.W.Frag) (H : Hp) (v : V) (a : Rw) : Prop := RowAt K (RC K) H v a
theorem mk_row {H1 : Hp} {Q : VK} {E : XK} {l : Addr} {xs : List V} {ps : Rw} (S : SqL K H1 l xs) (hp : PrsV K H1 xs ps) (g : Gq ps) (hQ : ∀ v H', Same H1 H' → RA K H' v (norm ps) → Q v H') :
    ∀ x dx, H1 x = none → H1 dx = none → dx ≠ x → spInit K (.ref x :: ([.ref l] ++ [])) (upd (upd H1 dx (.own x)) x (.ins (RC K) dx [])) (fun v H2 => v = .non ∧ Q (.ref x) H2) E := by
  intro x dx hx hd ne
  have s : Same H1 (upd (upd H1 dx (.own x)) x (.ins (RC K) dx [])) := (same_new hd).trans (same_new (by rw [upd_ne ne.symm]; exact hx))
  refine ⟨x, dx, l, xs, ps, rfl, upd_same, sqL_same S s, prsV_tk hp (same_tk s), g, fun H' k r => ⟨rfl, hQ _ _ (Same.made hx hd k) r⟩⟩
theorem mk_rowT {H1 : Hp} {Q : VK} {E : XK} {l : Addr} {xs : List V} {ps : Rw} (S : SqT K H1 l xs) (hp : PrsV K H1 xs ps) (g : Gq ps) (hQ : ∀ v H', Same H1 H' → RA K H' v (norm ps) → Q v H') :
    ∀ x dx, H1 x = none → H1 dx = none → dx ≠ x → spInitT K (.ref x :: ([.ref l] ++ [])) (upd (upd H1 dx (.own x)) x (.ins (RC K) dx [])) (fun v H2 => v = .non ∧ Q (.ref x) H2) E := by
  intro x dx hx hd ne
  have s : Same H1 (upd (upd H1 dx (.own x)) x (.ins (RC K) dx [])) := (same_new hd).trans (same_new (by rw [upd_ne ne.symm]; exact hx))
  refine ⟨x, dx, l, xs, ps, rfl, upd_same, sqT_same S s, prsV_tk hp (same_tk s), g, fun H' k r => ⟨rfl, hQ _ _ (Same.made hx hd k) r⟩⟩
def spPairs (K : PySem.W.Frag) : Sp := fun vs H Q _ => ∃ v a, vs = [v] ∧ RA K H v a ∧ ∀ p xs H', Same H H' → H p = none → H' p = some (.lst xs) → PrsV K H' xs a → Q (.ref p) H'
theorem ok_Row_pairs (T : Txt K mg) : FnOk P w K mg base CX0 1 (He.ma K (He.ga K "Row") "pairs") T.fd_Row_pairs ["self"] (spPairs K) := by
  refine T.F_Row_pairs.ok sc_Row_pairs (fun vs H Q E h => ?_) (fun cdv A outer s H vs Q E hr h => ⟨_, PSs.nox
    (pss_one (ps_ret (LiI.pe_listItems rfl (pe_fld (pv 0) rfl) (by rfl) T.m_list (by decide +kernel)))), ?_⟩)
  · obtain ⟨v, a, rfl, _⟩ := h
    rfl
  · obtain ⟨v, a, rfl, ⟨x, dx, d, ks, rfl, hx, hd, hK, nf⟩, hQ⟩ := h
    exact ⟨_, rfl, _, _, _, _, _, rfl, hx, T.cl_Row, T.na_Row__shares, rfl, d, ks, rfl, hd, fun H' p ts sm np _ _ hp pr => hQ p _ H' sm np hp (kvF_items hK (same_tk sm) pr)⟩
def spLen (K : PySem.W.Frag) : Sp := fun vs H Q _ => ∃ v a, vs = [v] ∧ RA K H v a ∧ Q (.int a.length) H
theorem ok_Row___len__ (T : Txt K mg) : FnOk P w K mg base CX0 1 (He.ma K (He.ga K "Row") "__len__") T.fd_Row___len__ ["self"] (spLen K) := by
  refine T.F_Row___len__.ok sc_Row___len__ (fun vs H Q E h => ?_) (fun cdv A outer s H vs Q E hr h => ⟨_, PSs.nox
    (pss_one (ps_ret (pe_callB call_lenD (by rfl) T.m_len (by decide +kernel) (pa_cons (pe_fld (pv 0) rfl) pa_nil)))), ?_⟩)
  · obtain ⟨v, a, rfl, _⟩ := h
    rfl
  · obtain ⟨v, a, rfl, ⟨x, dx, d, ks, rfl, hx, hd, hK, nf⟩, hQ⟩ := h
    refine ⟨_, rfl, _, _, _, _, _, rfl, hx, T.cl_Row, T.na_Row__shares, rfl, d, ks, rfl, hd, ?_⟩
    rw [pLen hK]
    exact hQ
def spHas (K : PySem.W.Frag) : Sp := fun vs H Q _ => ∃ v a n, vs = [v, .int n] ∧ RA K H v a ∧ 0 ≤ n ∧ Q (.bl (decide (n ∈ a.map (·.1)))) H
theorem ok_Row___contains__ (T : Txt K mg) : FnOk P w K mg base CX0 3 (He.ma K (He.ga K "Row") "__contains__") T.fd_Row___contains__ ["self", "x"] (spHas K) := by
  refine T.F_Row___contains__.ok sc_Row___contains__ (fun vs H Q E h => ?_) (fun cdv A outer s H vs Q E hr h => ⟨_, PSs.nox
    (pss_one (ps_ret (pe_and (pe_call (ok_is_tick T) (hr.mono (by decide)) (by rfl) T.g_is_tick T.F_is_tick.kp T.b_is_tick .nil pass0 (pa_cons (pv 1) pa_nil)) (pe_one (pe_cmp (pc_din (hu_of hr) (pv 1) (pe_fld (pv 0) rfl)) rfl))))), ?_⟩)
  · obtain ⟨v, a, n, rfl, _⟩ := h
    rfl
  · obtain ⟨v, a, n, rfl, ⟨x, dx, d, ks, rfl, hx, hd, hK, nf⟩, h0, hQ⟩ := h
    refine ⟨_, rfl, _, rfl, _, rfl, ?_⟩
    rw [decide_eq_true h0]
    refine iteT ⟨_, rfl, _, rfl, _, _, _, _, _, rfl, hx, T.cl_Row, T.na_Row__shares, rfl, d, _, rfl, DGet.k (k := Sum.inl n) hd, ?_⟩
    rcases kvF_get n hK with ⟨e, b, _⟩ | ⟨v, e, b, _⟩
    · rw [e]
      rw [decide_eq_false b] at hQ
      exact hQ
    · rw [e]
      rw [decide_eq_true b] at hQ
      exact hQ
def spREq (K : PySem.W.Frag) : Sp := fun vs H Q _ => ∃ u v a b, vs = [u, v] ∧ RA K H u a ∧ RA K H v b ∧ Q (.bl (decide (a = b))) H
theorem ok_Row___eq__ (T : Txt K mg) : FnOk P w K mg base CX0 1 (He.ma K (He.ga K "Row") "__eq__") T.fd_Row___eq__ ["self", "other"] (spREq K) := by
  refine T.F_Row___eq__.ok sc_Row___eq__ (fun vs H Q E h => ?_) (fun cdv A outer s H vs Q E hr h => ⟨_, PSs.nox
    (pss_one (ps_ret (pe_and (pe_callB call_isi (by rfl) T.m_isinstance (by decide +kernel) (pa_cons (pv 1) (pa_cons (pe_glob (v := V.ref (He.ga K "Row")) rfl T.g_Row rfl) pa_nil))) (pe_one (pe_cmpR (op_eqDd (un70 hr)) (pe_fld (pv 0) rfl) (pe_fld (pv 1) rfl) (nomark _)))))), ?_⟩)
  · obtain ⟨u, v, a, b, rfl, _⟩ := h
    rfl
  · obtain ⟨u, v, a, b, rfl, ⟨x, dx, d, ks, rfl, hx, hd, hK, nf⟩, ⟨y, dy, e, ls, rfl, hy, he, hL, ng⟩, hQ⟩ := h
    refine ⟨_, rfl, _, _, _, _, _, rfl, .own _, T.ins_Row.ty T.cl_Row hy, T.ins_Row.is, _, rfl, iteT ?_⟩
    refine ⟨_, rfl, _, _, _, _, _, rfl, hx, T.cl_Row, T.na_Row__shares, rfl, _, rfl, _, _, _, _, _, rfl, hy, T.cl_Row, T.na_Row__shares, rfl, d, e, _, _, _, _, rfl, rfl, hd, he, kvF_kvd hK, kvF_kvd hL, ?_⟩
    rw [eqKv_enc nf ng]
    exact hQ
def spAt (K : PySem.W.Frag) : Sp := fun vs H Q _ => ∃ v a n, vs = [v, .int n] ∧ RA K H v a ∧ 0 ≤ n ∧ ∀ x, FrV K H x (look a n) → Q x H
theorem ok_Row_at (T : Txt K mg) : FnOk P w K mg base CX0 4 (He.ma K (He.ga K "Row") "at") T.fd_Row_at ["self", "tick"] (spAt K) := by
  refine T.F_Row_at.ok sc_Row_at (fun vs H Q E h => ?_) (fun cdv A outer s H vs Q E hr h => ⟨_, PSs.nox
    (pss_cons (ps_expr (pe_call (ok__check_tick T) (hr.mono (by decide)) (by rfl) T.g__check_tick T.F__check_tick.kp T.b__check_tick .nil pass0 (pa_cons (pv 1) pa_nil)))
      (pss_one (ps_ret (pe_dget2 (hu_of hr) (pe_fld (pv 0) rfl) (pv 1) (pe_glob (v := V.ref (He.ga K "ZERO")) rfl T.g_ZERO rfl) ⟨by rfl, by rfl, by rfl, by rfl⟩)))), ?_⟩)
  · obtain ⟨v, a, n, rfl, _⟩ := h
    rfl
  · obtain ⟨v, a, n, rfl, ⟨x, dx, d, ks, rfl, hx, hd, hK, nf⟩, h0, hQ⟩ := h
    refine ⟨_, rfl, _, rfl, h0, ?_⟩
    refine ⟨_, rfl, _, _, _, _, _, rfl, hx, T.cl_Row, T.na_Row__shares, rfl, d, rfl, .inl ⟨ks, .inl hd⟩, _, rfl, _, DGet.k (k := Sum.inl n) hd, hQ _ ?_⟩
    rcases kvF_get n hK with ⟨e, _, c⟩ | ⟨v, e, _, c⟩
    · rw [e, c]
      exact ⟨_, rfl, T.zero H⟩
    · rw [e]
      exact c
theorem prs_frs {H : Hp} {xs : List V} {a : Rw} (h : PrsV K H xs a) : True := trivial
def spTotal (K : PySem.W.Frag) : Sp := fun vs H Q _ => ∃ v a, vs = [v] ∧ RA K H v a ∧ Gq a ∧ ∀ x H', Same H H' → FrV K H' x (a.map (·.2)).sum → Q x H'
theorem ok_Row_total (T : Txt K mg) : FnOk P w K mg base CX0 4 (He.ma K (He.ga K "Row") "total") T.fd_Row_total ["self"] (spTotal K) := by
  refine T.F_Row_total.ok sc_Row_total (fun vs H Q E h => ?_) (fun cdv A outer s H vs Q E hr h => ⟨_, PSs.nox
    (pss_one (ps_ret (pe_call (ok_sum_of T) (hr.mono (by decide)) (by rfl) T.g_sum_of T.F_sum_of.kp T.b_sum_of .nil pass0 (pa_cons (pe_lc (own := [("_", 1), ("share", 2)]) rfl sc_Row_total.nd (pi_list (pe_meth0 (pv 0) T.cl_Row T.me_Row_pairs (ok_Row_pairs T) (hr.mono (by decide)) T.b_Row_pairs .nil pass0)) (blkOk_by (N := ["self", "_", "share"]) (sc := defScope s_Row_total) (by decide +kernel)) (fun _ _ _ _ _ => (show PG _ _ (gTup K 2 (gCons (gName 1) (gCons (gName 2) gNil))) from pg_tup rfl (pgs_cons (pg_name (i := 1) sc_Row_total.nd rfl (.inl rfl) (hf := .inr rfl)) (pgs_cons (pg_name (i := 2) sc_Row_total.nd rfl (.inl rfl) (hf := .inr rfl)) pgs_nil)))) (fun _ _ _ _ _ => pts_nil) (fun _ _ _ _ _ => (pv 2))) pa_nil)))), ?_⟩)
  · obtain ⟨v, a, rfl, _⟩ := h
    rfl
  · obtain ⟨v, a, rfl, R, g, hQ⟩ := h
    obtain ⟨x, dx, d, ks, rfl, hx, hd, hK, nf⟩ := id R
    refine ⟨_, rfl, x, dx, _, rfl, hx, rfl, _, _, rfl, R, fun p xs H1 s1 np hp pr => ?_⟩
    refine ⟨p, rfl, ⟨_, sqL_of hp⟩, fun D hD => ?_⟩
    refine lc_list (xs := xs) (fun i H' => Same H1 H' ∧ ∃ ys, H' D = some (.lst ys) ∧ Paired (FrV K H') ys ((a.take i).map (·.2)) ∧ ys.length ≤ i) ⟨same_new hD, [], upd_same, .nil, Nat.le_refl _⟩ (fun i H' _ q => sqL_of (q.1 _ _ hp)) ?_ ?_
    · rintro i v H' hv ⟨sm, ys, hy, hP, hl⟩
      obtain ⟨q, hq, ⟨pa, y, rfl, Sp, fy⟩⟩ := pGet pr hv
      refine ⟨pa, _, rfl, sqT_same Sp sm, rfl, _, _, rfl, _, _, rfl, rfl, ?_⟩
      refine ⟨rfl, ?_⟩
      have h1 : i < a.length := (List.getElem?_eq_some_iff.mp hq).1
      refine ⟨_, rfl, ys, hy, by have := line64; have := g.len; omega, same_mut sm hD, _, upd_same, ?_, by rw [List.length_append, List.length_singleton]; omega⟩
      rw [List.take_succ, hq]
      rw [List.map_append]
      exact pApp (pImp (fun a b f => frV_tk f (tk_lst hy)) hP) (.cons (frV_tk (frV_same fy sm) (tk_lst hy)) .nil)
    · rintro H2 ⟨s2, ys, hy, hP, hl⟩
      rw [pLen pr, List.take_length] at hP
      refine ⟨D, ys, _, rfl, sqL_of hy, hP, fun i => g.psum i, fun q hq => ?_, fun z H3 s3 f => hQ z H3 ((s1.trans s2).trans s3) f⟩
      obtain ⟨p, hp, rfl⟩ := List.mem_map.mp hq
      exact g.mem p hp
end
end L86
set_option maxRecDepth 100000
set_option maxHeartbeats 4000000
namespace L86
open PySem PySem.Spec PyProof.Rows L2 Q7
section
variable {P : Program} {w : World} {K : PySem.W.Frag} {mg : Str → Option Value} {base : Heap}
theorem filt_take {α : Type} {a : List α} {i : Nat} {p : α} (f : α → Bool) (h : a[i]? = some p) : (a.take (i + 1)).filter f = (a.take i).filter f ++ (if f p then [p] else []) := by
  rw [List.take_succ, h, List.filter_append]
  cases e : f p with
  | true => simp [e]
  | false => simp [e]
theorem filt_len {α : Type} (a : List α) (f : α → Bool) (i : Nat) : ((a.take i).filter f).length ≤ i := by
  refine Nat.le_trans (List.length_filter_le _ _) ?_
  rw [List.length_take]; omega
def spUpTo (K : PySem.W.Frag) : Sp := fun vs H Q _ => ∃ v a n, vs = [v, .int n] ∧ RA K H v a ∧ 0 ≤ n ∧ Gq a ∧ ∀ x H', Same H H' → FrV K H' x ((upTo n a).map (·.2)).sum → Q x H'
theorem ok_Row_up_to (T : Txt K mg) : FnOk P w K mg base CX0 4 (He.ma K (He.ga K "Row") "up_to") T.fd_Row_up_to ["self", "tick"] (spUpTo K) := by
  refine T.F_Row_up_to.ok sc_Row_up_to (fun vs H Q E h => ?_) (fun cdv A outer s H vs Q E hr h => ⟨_, PSs.nox
    (pss_cons (ps_expr (pe_call (ok__check_tick T) (hr.mono (by decide)) (by rfl) T.g__check_tick T.F__check_tick.kp T.b__check_tick .nil pass0 (pa_cons (pv 1) pa_nil)))
      (pss_one (ps_ret (pe_call (ok_sum_of T) (hr.mono (by decide)) (by rfl) T.g_sum_of T.F_sum_of.kp T.b_sum_of .nil pass0 (pa_cons (pe_lc (own := [("when", 2), ("share", 3)]) rfl sc_Row_up_to.nd (pi_list (pe_meth0 (pv 0) T.cl_Row T.me_Row_pairs (ok_Row_pairs T) (hr.mono (by decide)) T.b_Row_pairs .nil pass0)) (blkOk_by (N := ["self", "tick", "when", "share"]) (sc := defScope s_Row_up_to) (by decide +kernel)) (fun _ _ _ _ _ => (show PG _ _ (gTup K 2 (gCons (gName 2) (gCons (gName 3) gNil))) from pg_tup rfl (pgs_cons (pg_name (i := 2) sc_Row_up_to.nd rfl (.inl rfl) (hf := .inr rfl)) (pgs_cons (pg_name (i := 3) sc_Row_up_to.nd rfl (.inl rfl) (hf := .inr rfl)) pgs_nil)))) (fun _ _ _ _ _ => (pts_one (pt_cmpR op_le (pv 2) (pv 1) (nomark _)))) (fun _ _ _ _ _ => (pv 3))) pa_nil))))), ?_⟩)
  · obtain ⟨v, a, n, rfl, _⟩ := h
    rfl
  · obtain ⟨v, a, n, rfl, R, h0, g, hQ⟩ := h
    obtain ⟨x, dx, d, ks, rfl, hx, hd, hK, nf⟩ := id R
    refine ⟨_, rfl, _, rfl, h0, ?_⟩
    refine ⟨_, rfl, x, dx, _, rfl, hx, rfl, _, _, rfl, R, fun p xs H1 s1 np hp pr => ?_⟩
    refine ⟨p, rfl, ⟨_, sqL_of hp⟩, fun D hD => ?_⟩
    refine lc_list (xs := xs) (fun i H' => Same H1 H' ∧ ∃ ys, H' D = some (.lst ys) ∧ Paired (FrV K H') ys ((upTo n (a.take i)).map (·.2)) ∧ ys.length ≤ i) ⟨same_new hD, [], upd_same, .nil, Nat.le_refl _⟩ (fun i H' _ q => sqL_of (q.1 _ _ hp)) ?_ ?_
    · rintro i v H' hv ⟨sm, ys, hy, hP, hl⟩
      obtain ⟨q, hq, ⟨pa, y, rfl, Sp, fy⟩⟩ := pGet pr hv
      refine ⟨pa, _, rfl, sqT_same Sp sm, rfl, _, _, rfl, _, _, rfl, rfl, ?_⟩
      refine ⟨rfl, ?_⟩
      have h1 : i < a.length := (List.getElem?_eq_some_iff.mp hq).1
      refine ⟨_, rfl, _, rfl, _, _, rfl, rfl, _, rfl, ite2 (fun c => ?_) fun c => ?_⟩
      · refine ⟨_, rfl, ys, hy, by have := line64; have := g.len; omega, same_mut sm hD, _, upd_same, ?_, by rw [List.length_append, List.length_singleton]; omega⟩
        rw [show upTo n (a.take (i + 1)) = upTo n (a.take i) ++ [q] from (filt_take _ hq).trans (by rw [if_pos c]; rfl), List.map_append]
        exact pApp (pImp (fun a b f => frV_tk f (tk_lst hy)) hP) (.cons (frV_tk (frV_same fy sm) (tk_lst hy)) .nil)
      · refine ⟨sm, ys, hy, ?_, by omega⟩
        rw [show upTo n (a.take (i + 1)) = upTo n (a.take i) from (filt_take _ hq).trans (by rw [if_neg c, List.append_nil]; rfl)]
        exact hP
    · rintro H2 ⟨s2, ys, hy, hP, hl⟩
      rw [pLen pr, List.take_length] at hP
      have g2 : Gq (upTo n a) := g.sub List.filter_sublist
      refine ⟨D, ys, _, rfl, sqL_of hy, hP, fun i => g2.psum i, fun q hq => ?_, fun z H3 s3 f => hQ z H3 ((s1.trans s2).trans s3) f⟩
      obtain ⟨p, hp, rfl⟩ := List.mem_map.mp hq
      exact g2.mem p hp
def spMoved (K : PySem.W.Frag) : Sp := fun vs H Q _ => ∃ v a n, vs = [v, .int n] ∧ RA K H v a ∧ 0 ≤ n ∧ Gq a ∧ Gq (mv n a) ∧ ∀ x H', Same H H' → RA K H' x (norm (mv n a)) → Q x H'
theorem ok_Row_moved (T : Txt K mg) : FnOk P w K mg base CX0 6 (He.ma K (He.ga K "Row") "moved") T.fd_Row_moved ["self", "ticks"] (spMoved K) := by
  refine T.F_Row_moved.ok sc_Row_moved (fun vs H Q E h => ?_) (fun cdv A outer s H vs Q E hr h => ⟨_, PSs.nox
    (pss_cons (ps_expr (pe_call (ok__check_tick T) (hr.mono (by decide)) (by rfl) T.g__check_tick T.F__check_tick.kp T.b__check_tick .nil pass0 (pa_cons (pv 1) pa_nil)))
      (pss_one (ps_ret (pe_make T.mk_Row (ok_Row___init__ T) (hr.mono (by decide)) (by rfl) T.g_Row T.b_Row___init__ .nil pass0 (pa_cons (pe_lc (own := [("tick", 2), ("share", 3)]) rfl sc_Row_moved.nd (pi_list (pe_meth0 (pv 0) T.cl_Row T.me_Row_pairs (ok_Row_pairs T) (hr.mono (by decide)) T.b_Row_pairs .nil pass0)) (blkOk_by (N := ["self", "ticks", "tick", "share"]) (sc := defScope s_Row_moved) (by decide +kernel)) (fun _ _ _ _ _ => (show PG _ _ (gTup K 2 (gCons (gName 2) (gCons (gName 3) gNil))) from pg_tup rfl (pgs_cons (pg_name (i := 2) sc_Row_moved.nd rfl (.inl rfl) (hf := .inr rfl)) (pgs_cons (pg_name (i := 3) sc_Row_moved.nd rfl (.inl rfl) (hf := .inr rfl)) pgs_nil)))) (fun _ _ _ _ _ => pts_nil) (fun _ _ _ _ _ => (pe_tup (pa_cons (pe_op op_add (pv 2) (pv 1)) (pa_cons (pv 3) pa_nil))))) pa_nil))))), ?_⟩)
  · obtain ⟨v, a, n, rfl, _⟩ := h
    rfl
  · obtain ⟨v, a, n, rfl, R, h0, g, g2, hQ⟩ := h
    obtain ⟨x, dx, d, ks, rfl, hx, hd, hK, nf⟩ := id R
    refine ⟨_, rfl, _, rfl, h0, ?_⟩
    refine ⟨_, rfl, x, dx, _, rfl, hx, rfl, _, _, rfl, R, fun p xs H1 s1 np hp pr => ?_⟩
    refine ⟨p, rfl, ⟨_, sqL_of hp⟩, fun D hD => ?_⟩
    refine lc_list (xs := xs) (fun i H' => Same H1 H' ∧ ∃ ys, H' D = some (.lst ys) ∧ PrsV K H' ys (mv n (a.take i)) ∧ ys.length ≤ i) ⟨same_new hD, [], upd_same, .nil, Nat.le_refl _⟩ (fun i H' _ q => sqL_of (q.1 _ _ hp)) ?_ ?_
    · rintro i v H' hv ⟨sm, ys, hy, hP, hl⟩
      obtain ⟨q, hq, ⟨pa, y, rfl, Sp, fy⟩⟩ := pGet pr hv
      refine ⟨pa, _, rfl, sqT_same Sp sm, rfl, _, _, rfl, _, _, rfl, rfl, ?_⟩
      refine ⟨rfl, ?_⟩
      have h1 : i < a.length := (List.getElem?_eq_some_iff.mp hq).1
      refine ⟨_, rfl, _, rfl, _, _, rfl, rfl, _, rfl, two_le, fun t ht => ?_⟩
      have sn := same_new (o := .tup [.int (q.1 + n), y]) ht
      have hy2 := sn _ _ hy
      refine ⟨ys, hy2, by have := line64; have := g.len; omega, same_mut (sm.trans sn) hD, _, upd_same, ?_, by rw [List.length_append, List.length_singleton]; omega⟩
      rw [show mv n (a.take (i + 1)) = mv n (a.take i) ++ [(q.1 + n, q.2)] by unfold mv; rw [List.take_succ, hq, List.map_append]; rfl]
      exact pApp (prsV_tk hP ((same_tk sn).trans (tk_lst hy2))) (.cons ⟨t, y, rfl, sqT_tk (sqT_of upd_same) (tk_lst hy2), frV_tk (frV_same fy (sm.trans sn)) (tk_lst hy2)⟩ .nil)
    · rintro H2 ⟨s2, ys, hy, hP, hl⟩
      rw [pLen pr, List.take_length] at hP
      exact mk_row (sqL_of hy) hP g2 fun v H3 s3 r => hQ v H3 ((s1.trans s2).trans s3) r
def spCut (K : PySem.W.Frag) : Sp := fun vs H Q _ => ∃ v a n, vs = [v, .int n] ∧ RA K H v a ∧ 0 ≤ n ∧ Gq a ∧ ∀ x H', Same H H' → RA K H' x (norm (upTo n a)) → Q x H'
theorem ok_Row_cut (T : Txt K mg) : FnOk P w K mg base CX0 6 (He.ma K (He.ga K "Row") "cut") T.fd_Row_cut ["self", "tick"] (spCut K) := by
  refine T.F_Row_cut.ok sc_Row_cut (fun vs H Q E h => ?_) (fun cdv A outer s H vs Q E hr h => ⟨_, PSs.nox
    (pss_cons (ps_expr (pe_call (ok__check_tick T) (hr.mono (by decide)) (by rfl) T.g__check_tick T.F__check_tick.kp T.b__check_tick .nil pass0 (pa_cons (pv 1) pa_nil)))
      (pss_one (ps_ret (pe_make T.mk_Row (ok_Row___init__ T) (hr.mono (by decide)) (by rfl) T.g_Row T.b_Row___init__ .nil pass0 (pa_cons (pe_lc (own := [("pair", 2)]) rfl sc_Row_cut.nd (pi_list (pe_meth0 (pv 0) T.cl_Row T.me_Row_pairs (ok_Row_pairs T) (hr.mono (by decide)) T.b_Row_pairs .nil pass0)) (blkOk_by (N := ["self", "tick", "pair"]) (sc := defScope s_Row_cut) (by decide +kernel)) (fun _ _ _ _ _ => (pg_name (i := 2) sc_Row_cut.nd rfl (.inl rfl) (hf := .inr rfl))) (fun _ _ _ _ _ => (pts_one (pt_cmpR op_le (pe_ix (show IxR _ (rIxT K) from ix_tup) (pv 2) pe_int (fun _ _ => rfl)) (pv 1) (nomark _)))) (fun _ _ _ _ _ => (pv 2))) pa_nil))))), ?_⟩)
  · obtain ⟨v, a, n, rfl, _⟩ := h
    rfl
  · obtain ⟨v, a, n, rfl, R, h0, g, hQ⟩ := h
    obtain ⟨x, dx, d, ks, rfl, hx, hd, hK, nf⟩ := id R
    refine ⟨_, rfl, _, rfl, h0, ?_⟩
    refine ⟨_, rfl, x, dx, _, rfl, hx, rfl, _, _, rfl, R, fun p xs H1 s1 np hp pr => ?_⟩
    refine ⟨p, rfl, ⟨_, sqL_of hp⟩, fun D hD => ?_⟩
    refine lc_list (xs := xs) (fun i H' => Same H1 H' ∧ ∃ ys, H' D = some (.lst ys) ∧ PrsV K H' ys (upTo n (a.take i)) ∧ ys.length ≤ i) ⟨same_new hD, [], upd_same, .nil, Nat.le_refl _⟩ (fun i H' _ q => sqL_of (q.1 _ _ hp)) ?_ ?_
    · rintro i v H' hv ⟨sm, ys, hy, hP, hl⟩
      obtain ⟨q, hq, hpv⟩ := pGet pr hv
      obtain ⟨pa, y, rfl, Sp, fy⟩ := id hpv
      refine ⟨rfl, ?_⟩
      have h1 : i < a.length := (List.getElem?_eq_some_iff.mp hq).1
      refine ⟨_, rfl, pa, _, _, _, rfl, rfl, sqT_same Sp sm, rfl, _, rfl, _, _, rfl, rfl, _, rfl, ite2 (fun c => ?_) fun c => ?_⟩
      · refine ⟨_, rfl, ys, hy, by have := line64; have := g.len; omega, same_mut sm hD, _, upd_same, ?_, by rw [List.length_append, List.length_singleton]; omega⟩
        rw [show upTo n (a.take (i + 1)) = upTo n (a.take i) ++ [q] from (filt_take _ hq).trans (by rw [if_pos c]; rfl)]
        exact pApp (prsV_tk hP (tk_lst hy)) (.cons (prV_tk (prV_tk hpv (same_tk sm)) (tk_lst hy)) .nil)
      · refine ⟨sm, ys, hy, ?_, by omega⟩
        rw [show upTo n (a.take (i + 1)) = upTo n (a.take i) from (filt_take _ hq).trans (by rw [if_neg c, List.append_nil]; rfl)]
        exact hP
    · rintro H2 ⟨s2, ys, hy, hP, hl⟩
      rw [pLen pr, List.take_length] at hP
      exact mk_row (sqL_of hy) hP (g.sub List.filter_sublist) fun v H3 s3 r => hQ v H3 ((s1.trans s2).trans s3) r
def spChkR (K : PySem.W.Frag) : Sp := fun vs H Q _ => ∃ v a, vs = [v] ∧ RA K H v a ∧ Q .non H
theorem ok__check_row (T : Txt K mg) : FnOk P w K mg base CX0 1 (He.ga K "_check_row") T.fd__check_row ["value"] (spChkR K) := by
  refine T.F__check_row.ok sc__check_row (fun vs H Q E h => ?_) (fun cdv A outer s H vs Q E hr h => ⟨_, PSs.nox
    (pss_one (ps_if (pt_not (pt_val (pe_callB call_isi (by rfl) T.m_isinstance (by decide +kernel) (pa_cons (pv 0) (pa_cons (pe_glob (v := V.ref (He.ga K "Row")) rfl T.g_Row rfl) pa_nil))))) (pss_one ps_never) pss_nil)), ?_⟩)
  · obtain ⟨v, a, rfl, _⟩ := h
    rfl
  · obtain ⟨v, a, rfl, ⟨x, dx, d, ks, rfl, hx, hd, hK, nf⟩, hQ⟩ := h
    exact ⟨_, rfl, _, _, _, _, _, rfl, .own _, T.ins_Row.ty T.cl_Row hx, T.ins_Row.is, _, rfl, iteF hQ⟩
def spAdd (K : PySem.W.Frag) : Sp := fun vs H Q _ => ∃ u v a b, vs = [u, v] ∧ RA K H u a ∧ RA K H v b ∧ Gq (a ++ b) ∧ ∀ x H', Same H H' → RA K H' x (norm (a ++ b)) → Q x H'
theorem ok_Row___add__ (T : Txt K mg) : FnOk P w K mg base CX0 6 (He.ma K (He.ga K "Row") "__add__") T.fd_Row___add__ ["self", "other"] (spAdd K) := by
  refine T.F_Row___add__.ok sc_Row___add__ (fun vs H Q E h => ?_) (fun cdv A outer s H vs Q E hr h => ⟨_, PSs.nox
    (pss_cons (ps_expr (pe_call (ok__check_row T) (hr.mono (by decide)) (by rfl) T.g__check_row T.F__check_row.kp T.b__check_row .nil pass0 (pa_cons (pv 1) pa_nil)))
      (pss_one (ps_ret (pe_make T.mk_Row (ok_Row___init__ T) (hr.mono (by decide)) (by rfl) T.g_Row T.b_Row___init__ .nil pass0 (pa_cons (pe_op op_cat (pe_meth0 (pv 0) T.cl_Row T.me_Row_pairs (ok_Row_pairs T) (hr.mono (by decide)) T.b_Row_pairs .nil pass0) (pe_meth0 (pv 1) T.cl_Row T.me_Row_pairs (ok_Row_pairs T) (hr.mono (by decide)) T.b_Row_pairs .nil pass0)) pa_nil))))), ?_⟩)
  · obtain ⟨u, v, a, b, rfl, _⟩ := h
    rfl
  · obtain ⟨u, v, a, b, rfl, R1, R2, g, hQ⟩ := h
    obtain ⟨x, dx, d, ks, rfl, hx, hd, hK, nf⟩ := id R1
    obtain ⟨y, dy, e, ls, rfl, hy, he, hL, ng⟩ := id R2
    refine ⟨_, rfl, _, _, rfl, R2, ?_⟩
    refine ⟨_, rfl, x, dx, _, rfl, hx, rfl, _, _, rfl, R1, fun p xs H1 s1 np hp pr => ?_⟩
    refine ⟨_, rfl, y, dy, _, rfl, s1 _ _ hy, rfl, _, _, rfl, rowAt_same R2 s1, fun q ys H2 s2 nq hq qr => ?_⟩
    have hl : xs.length + ys.length ≤ sizeLine := by rw [pLen pr, pLen qr]; have := g.len; rw [List.length_append] at this; have := line64; omega
    refine ⟨p, q, xs, ys, rfl, rfl, s2 _ _ hp, hq, hl, fun z hz => ?_⟩
    have s3 := same_new (o := .lst (xs ++ ys)) hz
    exact mk_row (sqL_of upd_same) (pApp (prsV_tk pr (same_tk (s2.trans s3))) (prsV_tk qr (same_tk s3))) g fun v H3 s4 r => hQ v H3 (((s1.trans s2).trans s3).trans s4) r
end
end L86
set_option maxRecDepth 100000
set_option maxHeartbeats 4000000
namespace L86
open PySem PySem.Spec PyProof.Rows L2 Q7
section
variable {P : Program} {w : World} {K : PySem.W.Frag} {mg : Str → Option Value} {base : Heap}
/-! ### rows: the product -/
theorem prod_take {a b : Rw} {i : Nat} {p : Int × Rat} (h : a[i]? = some p) : prod (a.take (i + 1)) b = prod (a.take i) b ++ b.map fun q => (p.1 + q.1, p.2 * q.2) := by
  unfold prod
  rw [List.take_succ, h, List.flatMap_append]
  simp
theorem map_take' {b : Rw} {j : Nat} {q : Int × Rat} (f : Int × Rat → Int × Rat) (h : b[j]? = some q) : (b.take (j + 1)).map f = (b.take j).map f ++ [f q] := by
  rw [List.take_succ, h, List.map_append]
  rfl
theorem prod_len (a b : Rw) : (prod a b).length = a.length * b.length := by
  unfold prod
  rw [List.length_flatMap]
  simp [List.map_const']
def spMul (K : PySem.W.Frag) : Sp := fun vs H Q _ => ∃ u v a b, vs = [u, v] ∧ RA K H u a ∧ RA K H v b ∧ Gq a ∧ Gq b ∧ Gq (prod a b) ∧ ∀ x H', Same H H' → RA K H' x (norm (prod a b)) → Q x H'
theorem ok_Row___mul__ (T : Txt K mg) : FnOk P w K mg base CX0 6 (He.ma K (He.ga K "Row") "__mul__") T.fd_Row___mul__ ["self", "other"] (spMul K) := by
  refine T.F_Row___mul__.ok sc_Row___mul__ (fun vs H Q E h => ?_) (fun cdv A outer s H vs Q E hr h => ⟨_, PSs.nox
    (pss_cons (ps_expr (pe_call (ok__check_row T) (hr.mono (by decide)) (by rfl) T.g__check_row T.F__check_row.kp T.b__check_row .nil pass0 (pa_cons (pv 1) pa_nil)))
      (pss_cons (ps_set (i := 2) sc_Row___mul__.nd rfl (.inr rfl) (pe_meth0 (pv 1) T.cl_Row T.me_Row_pairs (ok_Row_pairs T) (hr.mono (by decide)) T.b_Row_pairs .nil pass0))
      (pss_one (ps_ret (pe_make T.mk_Row (ok_Row___init__ T) (hr.mono (by decide)) (by rfl) T.g_Row T.b_Row___init__ .nil pass0 (pa_cons (pe_lc2 (own := [("mine", 3), ("x", 4), ("their", 5), ("y", 6)]) (vs1 := [5, 6]) rfl sc_Row___mul__.nd (pi_list (pe_meth0 (pv 0) T.cl_Row T.me_Row_pairs (ok_Row_pairs T) (hr.mono (by decide)) T.b_Row_pairs .nil pass0)) (blkOk_by (N := ["self", "other", "theirs", "mine", "x", "their", "y"]) (sc := defScope s_Row___mul__) (by decide +kernel)) (by decide) (fun _ _ _ _ _ => (show PG _ _ (gTup K 2 (gCons (gName 3) (gCons (gName 4) gNil))) from pg_tup rfl (pgs_cons (pg_name (i := 3) sc_Row___mul__.nd rfl (.inl rfl) (hf := .inr rfl)) (pgs_cons (pg_name (i := 4) sc_Row___mul__.nd rfl (.inl rfl) (hf := .inr rfl)) pgs_nil)))) (fun _ _ _ _ _ => pts_nil) (fun _ _ _ _ _ => (show PI _ _ _ (iList K (tVar 2)) from (pi_list (pv 2)))) (fun _ _ _ _ _ => (show PG _ _ (gTup K 2 (gCons (gName 5) (gCons (gName 6) gNil))) from pg_tup rfl (pgs_cons (pg_name (i := 5) sc_Row___mul__.nd rfl (.inl rfl) (hf := .inr rfl)) (pgs_cons (pg_name (i := 6) sc_Row___mul__.nd rfl (.inl rfl) (hf := .inr rfl)) pgs_nil)))) (fun _ _ _ _ _ => pts_nil) (fun _ _ _ _ _ => (pe_tup (pa_cons (pe_op op_add (pv 3) (pv 5)) (pa_cons (pe_call (ok__product T) (hr.mono (by decide)) (by rfl) T.g__product T.F__product.kp T.b__product .nil pass0 (pa_cons (pv 4) (pa_cons (pv 6) pa_nil))) pa_nil))))) pa_nil)))))), ?_⟩)
  · obtain ⟨u, v, a, b, rfl, _⟩ := h
    rfl
  · obtain ⟨u, v, a, b, rfl, R1, R2, g1, g2, g, hQ⟩ := h
    obtain ⟨x, dx, d, ks, rfl, hx, hd, hK, nf⟩ := id R1
    obtain ⟨y, dy, e, ls, rfl, hy, he, hL, ng⟩ := id R2
    refine ⟨_, rfl, _, _, rfl, R2, ?_⟩
    refine ⟨_, rfl, y, dy, _, rfl, hy, rfl, _, _, rfl, R2, fun q ys H1 s1 nq hq qr => ?_⟩
    refine ⟨_, rfl, x, dx, _, rfl, s1 _ _ hx, rfl, _, _, rfl, rowAt_same R1 s1, fun p xs H2 s2 np hp pr => ?_⟩
    have hq2 := s2 _ _ hq
    have qr2 := prsV_tk qr (same_tk s2)
    refine ⟨p, rfl, ⟨_, sqL_of hp⟩, fun D hD => ?_⟩
    refine turn_list (xs := xs) (fun σ2 H3 Nx => _) (fun i H' => Same H2 H' ∧ ∃ zs, H' D = some (.lst zs) ∧ PrsV K H' zs (prod (a.take i) b)) ⟨same_new hD, [], upd_same, .nil⟩ (fun i H' _ q => sqL_of (q.1 _ _ hp)) ?_ ?_
    · rintro i v H' hv ⟨sm, zs, hz, hP⟩
      obtain ⟨t, ht, ⟨pa, w1, rfl, Sp, fy⟩⟩ := pGet pr hv
      refine ⟨pa, _, rfl, sqT_same Sp sm, rfl, _, _, rfl, _, _, rfl, rfl, ?_⟩
      refine ⟨rfl, ?_⟩
      refine ⟨_, rfl, q, rfl, ⟨_, sqL_of (sm _ _ hq2)⟩, ?_⟩
      refine turn_list (xs := ys) (fun σ2 H3 Nx => _) (fun j H' => Same H2 H' ∧ ∃ zs, H' D = some (.lst zs) ∧ PrsV K H' zs (prod (a.take i) b ++ (b.take j).map fun q => (t.1 + q.1, t.2 * q.2))) ⟨sm, zs, hz, by simpa using hP⟩ (fun j H' _ r => sqL_of (r.1 _ _ hq2)) ?_ ?_
      · rintro j v H'' hv2 ⟨sm2, zs2, hz2, hP2⟩
        obtain ⟨r, hr2, ⟨pb, w2, rfl, Sp2, fy2⟩⟩ := pGet qr2 hv2
        refine ⟨pb, _, rfl, sqT_same Sp2 sm2, rfl, _, _, rfl, _, _, rfl, rfl, ?_⟩
        refine ⟨rfl, ?_⟩
        refine ⟨_, rfl, _, rfl, _, _, rfl, rfl, _, rfl, _, rfl, _, _, _, _, rfl, frV_same fy sm2, frV_same fy2 sm2, g1.mem t (List.mem_of_getElem? ht), g2.mem r (List.mem_of_getElem? hr2), fun z H3 s3 fz => ?_⟩
        refine ⟨two_le, fun tp htp => ?_⟩
        have s4 := s3.trans (same_new (o := .tup [.int (t.1 + r.1), z]) htp)
        have hz3 := s4 _ _ hz2
        have i1 : i < a.length := (List.getElem?_eq_some_iff.mp ht).1
        have j1 : j < b.length := (List.getElem?_eq_some_iff.mp hr2).1
        have hlen : zs2.length < sizeLine := by
          rw [pLen hP2, List.length_append, prod_len, List.length_map, List.length_take, List.length_take]
          have := g1.len; have := g2.len
          have h1 : min i a.length * b.length ≤ 63 * 63 := Nat.mul_le_mul (by omega) (by omega)
          have : 63 * 63 + 63 < sizeLine := by decide
          omega
        refine ⟨zs2, hz3, hlen, same_mut (sm2.trans s4) hD, _, upd_same, ?_⟩
        rw [map_take' _ hr2, ← List.append_assoc]
        exact pApp (prsV_tk hP2 ((same_tk s4).trans (tk_lst hz3))) (.cons ⟨tp, z, rfl, sqT_tk (sqT_of upd_same) (tk_lst hz3), frV_tk (frV_same fz (same_new htp)) (tk_lst hz3)⟩ .nil)
      · rintro H'' ⟨sm2, zs2, hz2, hP2⟩
        rw [pLen qr2, List.take_length] at hP2
        exact ⟨sm2, zs2, hz2, by rw [prod_take ht]; exact hP2⟩
    · rintro H3 ⟨s3, zs, hz, hP⟩
      rw [pLen pr, List.take_length] at hP
      exact mk_row (sqL_of hz) hP g fun v H4 s4 r => hQ v H4 (((s1.trans s2).trans s3).trans s4) r
end
end L86
set_option maxRecDepth 100000
set_option maxHeartbeats 4000000
namespace L86
open PySem PySem.Spec PyProof.Rows L2 Q7
section
variable {P : Program} {w : World} {K : PySem.W.Frag} {mg : Str → Option Value} {base : Heap}
/-! ### the law's lists of pairs -/
theorem nd_low {r m : Int} (h0 : 0 ≤ r) (h1 : r < 9) (m0 : 0 ≤ m) (m1 : m < 6) : ND 60 240 (Rat.divInt (r - 4) (1 + m)) := by
  have go : ∀ j : Int, j ≠ 0 → 0 ≤ j → j ≤ 60 → (1 + m) * j = 60 → ND 60 240 (Rat.divInt (r - 4) (1 + m)) := fun j hj j0 j1 e => by
    refine ⟨(r - 4) * j, ?_, ?_⟩
    · rw [← Rat.divInt_mul_right (a := j) hj, e]
      rfl
    · rw [Int.natAbs_mul]
      exact Nat.mul_le_mul (show (r - 4).natAbs ≤ 4 by omega) (show j.natAbs ≤ 60 by omega)
  have : m = 0 ∨ m = 1 ∨ m = 2 ∨ m = 3 ∨ m = 4 ∨ m = 5 := by omega
  rcases this with rfl | rfl | rfl | rfl | rfl | rfl
  · exact go 60 (by decide) (by decide) (by decide) (by decide)
  · exact go 30 (by decide) (by decide) (by decide) (by decide)
  · exact go 20 (by decide) (by decide) (by decide) (by decide)
  · exact go 15 (by decide) (by decide) (by decide) (by decide)
  · exact go 12 (by decide) (by decide) (by decide) (by decide)
  · exact go 10 (by decide) (by decide) (by decide) (by decide)
/-- all but b stays -/
def Sb (b : Addr) (H H' : Hp) : Prop := ∀ x o, H x = some o → x ≠ b → H' x = some o
theorem Sb.trans {b : Addr} {H H1 H2 : Hp} (s : Sb b H H1) (t : Sb b H1 H2) : Sb b H H2 := fun x o e n => t x o (s x o e n) n
theorem Sb.of {b : Addr} {H H' : Hp} (s : Same H H') : Sb b H H' := fun x o e _ => s x o e
theorem Sb.upd {b : Addr} {H : Hp} {o : HO} : Sb b H (upd H b o) := fun x p e n => by rw [upd_ne n]; exact e
theorem Sb.free {b l : Addr} {H H' : Hp} (s : Sb b H H') (h : H' l = none) : H l = none ∨ l = b := by
  by_cases e : l = b
  · exact .inr e
  · cases h2 : H l with
    | none => exact .inl rfl
    | some o => rw [s l o h2 e] at h; cases h
def spLPairs (K : PySem.W.Frag) : Sp := fun vs H Q _ => ∃ b c d, vs = [.ref b] ∧ BagAt H b c d ∧ 0 ≤ d ∧ d < 2 ^ 36 ∧
  ∀ p xs ps H' c' d', Sb b H H' → BagAt H' b c' d' → 0 ≤ d' → d' ≤ d + 16 → H p = none → H' p = some (.lst xs) → PrsV K H' xs ps → Gd 60 240 4 5 ps → Q (.ref p) H'
theorem sb_mut {b p : Addr} {H H' : Hp} {o : HO} (s : Sb b H H') (h : H p = none) : Sb b H (upd H' p o) := fun x u e n => by
  rw [upd_ne (ne_of_none e h)]
  exact s x u e n
theorem ok__law_pairs (T : Txt K mg) : FnOk P w K mg base CX0 2 (He.ga K "_law_pairs") T.fd__law_pairs ["bag"] (spLPairs K) := by
  refine T.F__law_pairs.ok sc__law_pairs (fun vs H Q E h => ?_) (fun cdv A outer s H vs Q E hr h => ⟨_, PSs.nox
    (pss_cons (ps_set (i := 1) sc__law_pairs.nd rfl (.inl rfl) (pe_lst pa_nil))
      (pss_cons (ps_for PassesOwn.never rfl (pi_range1 (by rfl) T.m_range (pa_cons (pe_call (ok__law_draw T) (hr.mono (by decide)) (by rfl) T.g__law_draw T.F__law_draw.kp T.b__law_draw .nil pass0 (pa_cons (pv 0) (pa_cons pe_int pa_nil))) pa_nil)) (pg_name (i := 2) sc__law_pairs.nd rfl (.inl rfl)) (pss_one (ps_expr (pe_bm PySem.F.plainAttrs_list PySem.F.slot_list_append PySem.F.type_list_append mt_append (pv 1) (pa_cons (pe_tup (pa_cons (pe_call (ok__law_draw T) (hr.mono (by decide)) (by rfl) T.g__law_draw T.F__law_draw.kp T.b__law_draw .nil pass0 (pa_cons (pv 0) (pa_cons pe_int pa_nil))) (pa_cons (pe_call (ok__law_low T) (hr.mono (by decide)) (by rfl) T.g__law_low T.F__law_low.kp T.b__law_low .nil pass0 (pa_cons (pe_op op_sub (pe_call (ok__law_draw T) (hr.mono (by decide)) (by rfl) T.g__law_draw T.F__law_draw.kp T.b__law_draw .nil pass0 (pa_cons (pv 0) (pa_cons pe_int pa_nil))) pe_int) (pa_cons (pe_op op_add pe_int (pe_call (ok__law_draw T) (hr.mono (by decide)) (by rfl) T.g__law_draw T.F__law_draw.kp T.b__law_draw .nil pass0 (pa_cons (pv 0) (pa_cons pe_int pa_nil)))) pa_nil))) pa_nil))) pa_nil)))))
      (pss_one (ps_ret (pv 1))))), ?_⟩)
  · obtain ⟨b, c, d, rfl, _⟩ := h
    rfl
  · obtain ⟨b, c, d, rfl, hb, d0, d1, hQ⟩ := h
    refine ⟨by decide, fun l hl => ?_⟩
    have lb : l ≠ b := fun e => by subst e; unfold BagAt at hb; rw [hl] at hb; cases hb
    have hb1 : BagAt (upd H l (.lst [])) b c d := by unfold BagAt; rw [upd_ne lb.symm]; exact hb
    refine ⟨_, rfl, b, c, d, 6, rfl, hb1, d0, by omega, by decide, by decide, fun r c1 r0 r1 => ?_⟩
    refine ⟨r, rfl, by omega, by omega, ?_⟩
    refine for_range (lo := 0) (n := r.toNat) (fun i σ H' => Sb b H H' ∧ ∃ z, σ = [some (.ref b), some (.ref l), z] ∧ ∃ cc, BagAt H' b cc (d + 1 + 3 * i) ∧ ∃ zs ps, H' l = some (.lst zs) ∧ PrsV K H' zs ps ∧ Gd 60 240 4 i ps) ⟨(Sb.of (same_new hl)).trans Sb.upd, _, rfl, c1, ?_, [], [], ?_, .nil, ⟨by simp, by simp, by simp, by simp⟩⟩ ?_ ?_
    · unfold BagAt
      rw [upd_same]
      simp
    · rw [upd_ne lb, upd_same]
    · rintro i σ H' hi ⟨sb, z, rfl, cc, hB, zs, ps, hz, hP, g⟩
      have hi5 : i < 6 := by omega
      refine ⟨_, rfl, .inl ⟨rfl, _, sqL_of hz⟩, ?_⟩
      refine ⟨_, rfl, b, _, _, 5, rfl, hB, by omega, by omega, by decide, by decide, fun r1 e1 p0 p1 => ?_⟩
      refine ⟨_, rfl, b, _, _, 9, rfl, upd_same, by omega, by omega, by decide, by decide, fun r2 e2 q0 q1 => ?_⟩
      rw [upd_upd]
      refine ⟨_, _, rfl, rfl, ?_⟩
      refine ⟨_, rfl, b, _, _, 6, rfl, upd_same, by omega, by omega, by decide, by decide, fun r3 e3 w0 w1 => ?_⟩
      rw [upd_upd]
      refine ⟨_, _, rfl, rfl, _, _, rfl, (by omega : (0 : Int) < 1 + r3), ?_, fun v H2 s2 f => ?_⟩
      · refine Nat.lt_of_lt_of_le (show (1 + r3).natAbs < 2 ^ 3 by omega) (pow_le' (by decide))
      refine ⟨two_le, fun t ht => ?_⟩
      have s3 := s2.trans (same_new (o := .tup [.int r1, v]) ht)
      have hz2 : upd H' b (.lst [.int e3, .int (d + 1 + 3 * i + 1 + 1 + 1)]) l = some (.lst zs) := by rw [upd_ne lb]; exact hz
      have hz3 := s3 _ _ hz2
      have hlen : zs.length < sizeLine := by rw [pLen hP]; have := g.len; have := line64; omega
      have tk1 : TK H' (upd H' b (.lst [.int e3, .int (d + 1 + 3 * i + 1 + 1 + 1)])) := tk_lst hB
      refine ⟨l, zs, _, rfl, rfl, hz3, hlen, ?_⟩
      refine ⟨sb_mut ((sb.trans Sb.upd).trans (Sb.of s3)) hl, _, rfl, e3, ?_, _, ps ++ [(r1, Rat.divInt (r2 - 4) (1 + r3))], upd_same, ?_, ?_⟩
      · unfold BagAt
        rw [upd_ne lb.symm, s3 _ _ upd_same]
        rw [show d + 1 + 3 * ((i + 1 : Nat) : Int) = d + 1 + 3 * (i : Int) + 1 + 1 + 1 by omega]
      · exact pApp (prsV_tk hP (tk1.trans ((same_tk s3).trans (tk_lst hz3)))) (.cons ⟨t, v, rfl, sqT_tk (sqT_of upd_same) (tk_lst hz3), frV_tk (frV_same f (same_new ht)) (tk_lst hz3)⟩ .nil)
      · refine Gd.app g ⟨?_, ?_, ?_, by simp⟩
        · intro p hp; rw [List.mem_singleton] at hp; subst hp; exact nd_low q0 q1 w0 w1
        · intro p hp; rw [List.mem_singleton] at hp; subst hp; exact p0
        · intro p hp; rw [List.mem_singleton] at hp; subst hp; show r1 ≤ 4; omega
    · rintro σ H' ⟨sb, z, rfl, cc, hB, zs, ps, hz, hP, g⟩
      exact ⟨_, rfl, hQ l zs ps H' cc _ sb hB (by omega) (by omega) hl hz hP (g.mono (Nat.le_refl _) (Nat.le_refl _) (by omega))⟩
def spPlain (K : PySem.W.Frag) : Sp := fun vs H Q _ => ∃ l xs ps, vs = [.ref l] ∧ SqL K H l xs ∧ PrsV K H xs ps ∧ Gq ps ∧
  ∀ p ys H', Same H H' → H p = none → H' p = some (.lst ys) → PrsV K H' ys (norm ps) → Q (.ref p) H'
theorem frV_tup {H : Hp} {t : Addr} {a : Int} {b : Nat} {q : Rat} (h : H t = some (.tup [.int a, .int b])) (e1 : q.num = a) (e2 : q.den = b) : FrV K H (.ref t) q := ⟨t, rfl, sqT_of (by rw [e1, e2]; exact h)⟩
theorem ok__law_plain (T : Txt K mg) : FnOk P w K mg base CX0 3 (He.ga K "_law_plain") T.fd__law_plain ["pairs"] (spPlain K) := by
  refine T.F__law_plain.ok sc__law_plain (fun vs H Q E h => ?_) (fun cdv A outer s H vs Q E hr h => ⟨_, PSs.nox
    (pss_cons (ps_set (i := 1) sc__law_plain.nd rfl (.inr rfl) pe_dnewK)
      (pss_cons (ps_for PassesOwn.never rfl (pi_list (pv 0)) (pg_tup rfl (pgs_cons (pg_name (i := 2) sc__law_plain.nd rfl (.inl rfl)) (pgs_cons (pg_name (i := 3) sc__law_plain.nd rfl (.inl rfl)) pgs_nil))) (pss_one (ps_dput (hu_of hr) (pv 1) (pv 2) (pe_call (ok__law_added T) (hr.mono (by decide)) (by rfl) T.g__law_added T.F__law_added.kp T.b__law_added .nil pass0 (pa_cons (pe_dget2 (hu_of hr) (pv 1) (pv 2) (pe_tup (pa_cons pe_int (pa_cons pe_int pa_nil))) ⟨by rfl, by rfl, by rfl, by rfl⟩) (pa_cons (pv 3) pa_nil))) rfl)))
      (pss_one (ps_ret (pe_lc (own := [("tick", 2)]) rfl sc__law_plain.nd (pi_list (pe_callB (call_sortedDI rfl) (by rfl) T.m_sorted (by decide +kernel) (pa_cons (pv 1) pa_nil))) (blkOk_by (N := ["pairs", "sums", "tick", "number"]) (sc := defScope s__law_plain) (by decide +kernel)) (fun _ _ _ _ _ => (pg_name (i := 2) sc__law_plain.nd rfl (.inl rfl) (hf := .inr rfl))) (fun _ _ _ _ _ => (pts_one (pt_cmpR (show OpR _ (compareOp .NotEq) (rNeD K) from (op_neD hr.units)) (pe_dget (hu_of hr) (pv 1) (pv 2) (fun _ _ => rfl)) (pe_tup (pa_cons pe_int (pa_cons pe_int pa_nil))) (nomark _)))) (fun _ _ _ _ _ => (pe_tup (pa_cons (pv 2) (pa_cons (pe_dget (hu_of hr) (pv 1) (pv 2) (fun _ _ => rfl)) pa_nil))))))))), ?_⟩)
  · obtain ⟨l, xs, ps, rfl, _⟩ := h
    rfl
  · obtain ⟨l, xs, ps, rfl, S, hp, g, hQ⟩ := h
    have hlen : xs.length ≤ 63 := by rw [pLen hp]; exact g.len
    have hlen2 : (sums ps).length ≤ 63 := by have := sums_len ps; have := g.len; omega
    intro d hd
    refine ⟨_, rfl, l, rfl, ⟨_, sqL_same S (same_new hd)⟩, ?_⟩
    refine for_list (xs := xs) (fun i σ H' => Same H H' ∧ ∃ ks o3 o4, H' d = some (.dK ks) ∧ KvF K H' ks (sums (ps.take i)) ∧ σ = [some (.ref l), some (.ref d), o3, o4]) ⟨same_new hd, [], _, _, upd_same, .nil, rfl⟩ (fun i σ H' _ p => sqL_same S p.1) ?_ ?_
    · rintro i v σ H' hv ⟨sm, ks, o3, o4, hk, hK, rfl⟩
      obtain ⟨p, hq, ⟨pa, y, rfl, Sp, fy⟩⟩ := pGet hp hv
      refine ⟨pa, _, rfl, sqT_same Sp sm, rfl, _, _, rfl, _, _, rfl, rfl, ?_⟩
      have hmem := List.mem_of_getElem? hq
      refine ⟨_, rfl, d, rfl, .inl ⟨ks, .inl hk⟩, _, rfl, two_le, fun t ht => ?_⟩
      have s0 := same_new (o := .tup [.int 0, .int 1]) ht
      have hK0 := kvF_tk hK (same_tk s0)
      have hdg : DGet (upd H' t (.tup [.int 0, .int 1])) d (.int p.1) (valV ks (Sum.inl p.1)) := DGet.k (k := Sum.inl p.1) (s0 _ _ hk)
      have hf : FrV K (upd H' t (.tup [.int 0, .int 1])) ((valV ks (Sum.inl p.1)).getD (.ref t)) (look (sums (ps.take i)) p.1) := by
        rcases kvF_get p.1 hK0 with ⟨a, _, c⟩ | ⟨w, a, _, c⟩
        · rw [a, c]
          exact frV_tup (q := 0) upd_same rfl rfl
        · rw [a]
          exact c
      refine ⟨_, hdg, _, rfl, _, _, _, _, rfl, hf, frV_same fy (sm.trans s0), g.look i p.1, g.mem p hmem, fun z H3 s3 r => ?_⟩
      have s03 := s0.trans s3
      refine ⟨_, rfl, _, rfl, d, _, rfl, DPut.k (k := Sum.inl p.1) (s03 _ _ hk) ?_, ?_⟩
      · have h1 := hK.length
        have h2 := sums_len (ps.take i)
        have h3 := line64
        have h4 := g.len
        rw [List.length_take] at h2
        omega
      · refine ⟨same_mut (sm.trans s03) hd, _, _, _, upd_same, ?_, rfl⟩
        rw [sums_take hq]
        exact kvF_tk (kvF_put (kvF_tk hK (same_tk s03)) (sums_nodup _) r) (tk_dk (s03 _ _ hk))
    · rintro σ H3 ⟨s3, ks, o3, o4, hk, hK, rfl⟩
      rw [pLen hp, List.take_length] at hK
      refine ⟨_, rfl, d, ks, (sums ps).map (·.1), rfl, .inl hk, kvF_keys hK, ?_, fun ys sp hperm hsort hsp => ⟨sp, rfl, ⟨_, sqL_of upd_same⟩, fun D2 hD2 => ?_⟩⟩
      · rw [List.length_map]; omega
      have nd : ys.Nodup := hperm.nodup_iff.mpr (sums_nodup ps)
      have ylen : ys.length ≤ 63 := by rw [hperm.length_eq, List.length_map]; exact hlen2
      have s4 := same_new (o := .lst (ys.map V.int)) hsp
      refine lc_list (xs := ys.map V.int) (fun i H' => Same (upd H3 sp (.lst (ys.map V.int))) H' ∧ ∃ zs, H' D2 = some (.lst zs) ∧ PrsV K H' zs (pick (sums ps) (ys.take i)) ∧ zs.length ≤ i) ⟨same_new hD2, [], upd_same, .nil, Nat.le_refl _⟩ (fun i H' _ p => sqL_of (p.1 _ _ upd_same)) ?_ ?_
      · rintro i v H' hv ⟨sm, zs, hz, hP, hzl⟩
        have hi : i < ys.length := by
          have := (List.getElem?_eq_some_iff.mp hv).1
          rwa [List.length_map] at this
        obtain ⟨t, ht, rfl⟩ : ∃ t, ys[i]? = some t ∧ v = .int t := by
          rw [List.getElem?_map] at hv
          obtain ⟨t, a, b⟩ := Option.map_eq_some_iff.mp hv
          exact ⟨t, a, b.symm⟩
        have hK' := kvF_tk hK (same_tk (s4.trans sm))
        have hk' := sm _ _ (s4 _ _ hk)
        have hg : DGet H' d (.int t) (valV ks (Sum.inl t)) := DGet.k (k := Sum.inl t) hk'
        obtain ⟨w, a, ft⟩ : ∃ w, valV ks (Sum.inl t) = some w ∧ FrV K H' w (look (sums ps) t) := by
          rcases kvF_get t hK' with ⟨a, b, c⟩ | ⟨w, a, b, c⟩
          · exact absurd (hperm.mem_iff.mp (List.mem_of_getElem? ht)) b
          · exact ⟨w, a, c⟩
        rw [a] at hg
        refine ⟨rfl, ?_⟩
        refine ⟨_, rfl, _, rfl, d, w, rfl, hg, two_le, fun t0 ht0 => ?_⟩
        have s0 := same_new (o := .tup [.int 0, .int 1]) ht0
        have ft0 := frV_same ft s0
        refine ⟨_, _, frV_dp ft0, frV_dp (q := 0) (frV_tup (K := K) (q := 0) upd_same rfl rfl), sh_fr _, sh_fr 0, _, rfl, ?_⟩
        rw [eqv_fr]
        by_cases hz0 : look (sums ps) t = 0
        · rw [decide_eq_true hz0]
          refine iteF ?_
          exact ⟨sm.trans s0, zs, s0 _ _ hz, by rw [pick_snoc ht, if_pos hz0]; exact prsV_tk hP (same_tk s0), by omega⟩
        · rw [decide_eq_false hz0]
          refine iteT ?_
          have hk0 := s0 _ _ hk'
          have hg0 : DGet (upd H' t0 (.tup [.int 0, .int 1])) d (.int t) (some w) := by
            have : DGet (upd H' t0 (.tup [.int 0, .int 1])) d (.int t) (valV ks (Sum.inl t)) := DGet.k (k := Sum.inl t) hk0
            rwa [a] at this
          refine ⟨_, rfl, _, rfl, _, rfl, d, w, rfl, hg0, two_le, fun t1 ht1 => ?_⟩
          have s1 := s0.trans (same_new (o := .tup [.int t, w]) ht1)
          have hz1 := s1 _ _ hz
          refine ⟨zs, hz1, by have := line64; omega, same_mut (sm.trans s1) hD2, _, upd_same, ?_, by rw [List.length_append, List.length_singleton]; omega⟩
          rw [pick_snoc ht, if_neg hz0]
          exact pApp (prsV_tk hP ((same_tk s1).trans (tk_lst hz1))) (.cons ⟨t1, w, rfl, sqT_tk (sqT_of upd_same) (tk_lst hz1), frV_tk (frV_same ft s1) (tk_lst hz1)⟩ .nil)
      · rintro H4 ⟨sm4, zs, hz, hP, _⟩
        rw [List.length_map, List.take_length, norm_pick hperm hsort] at hP
        have s5 := s3.trans s4
        have hD0 : H D2 = none := s5.free hD2
        exact hQ D2 zs H4 (s5.trans sm4) hD0 hz hP
def spLSum (K : PySem.W.Frag) : Sp := fun vs H Q _ => ∃ l xs ps, vs = [.ref l] ∧ SqL K H l xs ∧ PrsV K H xs ps ∧ Gq ps ∧ ∀ x H', Same H H' → FrV K H' x (ps.map (·.2)).sum → Q x H'
theorem ok__law_sum (T : Txt K mg) : FnOk P w K mg base CX0 3 (He.ga K "_law_sum") T.fd__law_sum ["pairs"] (spLSum K) := by
  refine T.F__law_sum.ok sc__law_sum (fun vs H Q E h => ?_) (fun cdv A outer s H vs Q E hr h => ⟨_, PSs.nox
    (pss_cons (ps_set (i := 1) sc__law_sum.nd rfl (.inl rfl) (pe_tup (pa_cons pe_int (pa_cons pe_int pa_nil))))
      (pss_cons (ps_for PassesOwn.never rfl (pi_list (pv 0)) (pg_tup rfl (pgs_cons (pg_name (i := 2) sc__law_sum.nd rfl (.inl rfl)) (pgs_cons (pg_name (i := 3) sc__law_sum.nd rfl (.inl rfl)) pgs_nil))) (pss_one (ps_set (i := 1) sc__law_sum.nd rfl (.inl rfl) (pe_call (ok__law_added T) (hr.mono (by decide)) (by rfl) T.g__law_added T.F__law_added.kp T.b__law_added .nil pass0 (pa_cons (pv 1) (pa_cons (pv 3) pa_nil))))))
      (pss_one (ps_ret (pv 1))))), ?_⟩)
  · obtain ⟨l, xs, ps, rfl, _⟩ := h
    rfl
  · obtain ⟨l, xs, ps, rfl, S, hp, g, hQ⟩ := h
    refine ⟨two_le, fun t ht => ?_⟩
    have s0 := same_new (o := .tup [.int 0, .int 1]) ht
    refine ⟨_, rfl, l, rfl, ⟨_, sqL_same S s0⟩, ?_⟩
    refine for_list (xs := xs) (fun i σ H' => Same H H' ∧ ∃ o t z w, σ = [o, some t, z, w] ∧ FrV K H' t ((ps.map (·.2)).take i).sum) ⟨s0, _, _, _, _, rfl, frV_tup (q := 0) upd_same rfl rfl⟩ (fun i σ H' _ p => sqL_same S p.1) ?_ ?_
    · rintro i x σ H' hx ⟨sm, o, t, z, w, rfl, ft⟩
      obtain ⟨q, hq, ⟨pa, y, rfl, Sp, fy⟩⟩ := pGet hp hx
      refine ⟨pa, _, rfl, sqT_same Sp sm, rfl, _, _, rfl, _, _, rfl, rfl, ?_⟩
      refine ⟨_, rfl, _, rfl, _, _, _, _, rfl, ft, frV_same fy sm, g.psum i, g.mem q (List.mem_of_getElem? hq), fun y H2 s2 r => ?_⟩
      have hq2 : (ps.map (·.2))[i]? = some q.2 := by rw [List.getElem?_map, hq]; rfl
      exact ⟨sm.trans s2, _, _, _, _, rfl, by rw [take_sum hq2]; exact r⟩
    · rintro σ H' ⟨sm, o, t, z, w, rfl, ft⟩
      rw [pLen hp, show ps.length = (ps.map (·.2)).length by rw [List.length_map], List.take_length] at ft
      exact ⟨_, rfl, hQ _ _ sm ft⟩
end
end L86
set_option maxRecDepth 100000
set_option maxHeartbeats 4000000
namespace L86
open PySem PySem.Spec PyProof.Rows L2 Q7
section
variable {P : Program} {w : World} {K : PySem.W.Frag} {mg : Str → Option Value} {base : Heap}
def spLProd (K : PySem.W.Frag) : Sp := fun vs H Q _ => ∃ l xs a k ys b, vs = [.ref l, .ref k] ∧ SqL K H l xs ∧ PrsV K H xs a ∧ SqL K H k ys ∧ PrsV K H ys b ∧ Gq a ∧ Gq b ∧ Gq (prod a b) ∧
  ∀ p zs H', Same H H' → H p = none → H' p = some (.lst zs) → PrsV K H' zs (norm (prod a b)) → Q (.ref p) H'
theorem ok__law_product (T : Txt K mg) : FnOk P w K mg base CX0 4 (He.ga K "_law_product") T.fd__law_product ["one", "two"] (spLProd K) := by
  refine T.F__law_product.ok sc__law_product (fun vs H Q E h => ?_) (fun cdv A outer s H vs Q E hr h => ⟨_, PSs.nox
    (pss_cons (ps_set (i := 2) sc__law_product.nd rfl (.inl rfl) (pe_lst pa_nil))
      (pss_cons (ps_for PassesOwn.never rfl (pi_list (pv 0)) (pg_tup rfl (pgs_cons (pg_name (i := 3) sc__law_product.nd rfl (.inr rfl)) (pgs_cons (pg_name (i := 4) sc__law_product.nd rfl (.inr rfl)) pgs_nil))) (pss_one (ps_expr (pe_bm PySem.F.plainAttrs_list PySem.F.slot_list_extend PySem.F.type_list_extend mt_extend (pv 2) (pa_cons (pe_lc (own := [("other", 5), ("value", 6)]) rfl sc__law_product.nd (pi_list (pv 1)) (blkOk_by (N := ["one", "two", "found", "tick", "number", "other", "value"]) (sc := defScope s__law_product) (by decide +kernel)) (fun _ _ _ _ _ => (show PG _ _ (gTup K 2 (gCons (gName 5) (gCons (gName 6) gNil))) from pg_tup rfl (pgs_cons (pg_name (i := 5) sc__law_product.nd rfl (.inl rfl) (hf := .inr rfl)) (pgs_cons (pg_name (i := 6) sc__law_product.nd rfl (.inl rfl) (hf := .inr rfl)) pgs_nil)))) (fun _ _ _ _ _ => pts_nil) (fun _ _ _ _ _ => (pe_tup (pa_cons (pe_op op_add (pv 3) (pv 5)) (pa_cons (pe_call (ok__law_times T) (hr.mono (by decide)) (by rfl) T.g__law_times T.F__law_times.kp T.b__law_times .nil pass0 (pa_cons (pv 4) (pa_cons (pv 6) pa_nil))) pa_nil))))) pa_nil)))))
      (pss_one (ps_ret (pe_call (ok__law_plain T) (hr.mono (by decide)) (by rfl) T.g__law_plain T.F__law_plain.kp T.b__law_plain .nil pass0 (pa_cons (pv 2) pa_nil)))))), ?_⟩)
  · obtain ⟨l, xs, a, k, ys, b, rfl, _⟩ := h
    rfl
  · obtain ⟨l, xs, a, k, ys, b, rfl, S1, P1, S2, P2, g1, g2, g, hQ⟩ := h
    refine ⟨by decide, fun f hf => ?_⟩
    refine ⟨_, rfl, l, rfl, ⟨_, sqL_same S1 (same_new hf)⟩, ?_⟩
    refine for_list (xs := xs) (fun i σ H' => Same H H' ∧ ∃ zs, H' f = some (.lst zs) ∧ PrsV K H' zs (prod (a.take i) b) ∧ ∃ o3 o4 o5 o6, σ = [some (.ref l), some (.ref k), some (.ref f), o3, o4, o5, o6]) ⟨same_new hf, [], upd_same, .nil, _, _, _, _, rfl⟩ (fun i σ H' _ p => sqL_same S1 p.1) ?_ ?_
    · rintro i v σ H' hv ⟨sm, zs, hz, hP, o3, o4, o5, o6, rfl⟩
      obtain ⟨t, ht, ⟨pa, w1, rfl, Sp, fy⟩⟩ := pGet P1 hv
      have i1 : i < a.length := (List.getElem?_eq_some_iff.mp ht).1
      refine ⟨pa, _, rfl, sqT_same Sp sm, rfl, _, _, rfl, _, _, rfl, rfl, ?_⟩
      refine ⟨_, rfl, .inl ⟨rfl, _, sqL_of hz⟩, ?_⟩
      refine ⟨_, rfl, k, rfl, ⟨_, sqL_same S2 sm⟩, fun D hD => ?_⟩
      refine lc_list (xs := ys) (fun j H2 => Same H' H2 ∧ ∃ ws, H2 D = some (.lst ws) ∧ PrsV K H2 ws ((b.take j).map fun q => (t.1 + q.1, t.2 * q.2))) ⟨same_new hD, [], upd_same, .nil⟩ (fun j H2 _ r => sqL_same S2 (sm.trans r.1)) ?_ ?_
      · rintro j v H2 hv2 ⟨sm2, ws, hw, hP2⟩
        obtain ⟨r, hr2, ⟨pb, w2, rfl, Sp2, fy2⟩⟩ := pGet P2 hv2
        have j1 : j < b.length := (List.getElem?_eq_some_iff.mp hr2).1
        have s12 := sm.trans sm2
        refine ⟨pb, _, rfl, sqT_same Sp2 s12, rfl, _, _, rfl, _, _, rfl, rfl, ?_⟩
        refine ⟨rfl, ?_⟩
        refine ⟨_, rfl, _, rfl, _, _, rfl, rfl, _, rfl, _, rfl, _, _, _, _, rfl, frV_same fy s12, frV_same fy2 s12, g1.mem t (List.mem_of_getElem? ht), g2.mem r (List.mem_of_getElem? hr2), fun z H3 s3 fz => ?_⟩
        refine ⟨two_le, fun tp htp => ?_⟩
        have s4 := s3.trans (same_new (o := .tup [.int (t.1 + r.1), z]) htp)
        have hw3 := s4 _ _ hw
        have hlen : ws.length < sizeLine := by
          rw [pLen hP2, List.length_map, List.length_take]
          have := g2.len; have := line64; omega
        refine ⟨ws, hw3, hlen, same_mut (sm2.trans s4) hD, _, upd_same, ?_⟩
        rw [map_take' _ hr2]
        exact pApp (prsV_tk hP2 ((same_tk s4).trans (tk_lst hw3))) (.cons ⟨tp, z, rfl, sqT_tk (sqT_of upd_same) (tk_lst hw3), frV_tk (frV_same fz (same_new htp)) (tk_lst hw3)⟩ .nil)
      · rintro H2 ⟨sm2, ws, hw, hP2⟩
        rw [pLen P2, List.take_length] at hP2
        have hz2 := sm2 _ _ hz
        refine ⟨f, D, zs, ws, rfl, rfl, hz2, hw, ?_, same_mut (sm.trans sm2) hf, _, upd_same, ?_, _, _, _, _, rfl⟩
        · rw [pLen hP, pLen hP2, prod_len, List.length_map, List.length_take]
          have := g1.len; have := g2.len
          have h1 : min i a.length * b.length ≤ 63 * 63 := Nat.mul_le_mul (by omega) (by omega)
          have : 63 * 63 + 63 < sizeLine := by decide
          omega
        · rw [prod_take ht]
          exact pApp (prsV_tk hP ((same_tk sm2).trans (tk_lst hz2))) (prsV_tk hP2 (tk_lst hz2))
    · rintro σ H' ⟨sm, zs, hz, hP, o3, o4, o5, o6, rfl⟩
      rw [pLen P1, List.take_length] at hP
      exact ⟨_, rfl, f, zs, _, rfl, sqL_of hz, hP, g, fun p ws H2 s2 np hp pr => hQ p ws H2 (sm.trans s2) (sm.free np) hp pr⟩
theorem nmB' {n : Nat} {q : Rat} (h : B n q) : q.num.natAbs < 2 ^ n := h.1
theorem dnB' {n : Nat} {q : Rat} (h : B n q) : ((q.den : Int)).natAbs < 2 ^ n := by rw [Int.natAbs_natCast]; exact h.2
/-- both laws of fractions, at small ones -/
def spFR (K : PySem.W.Frag) : Sp := fun vs H Q _ => ∃ u v p q, vs = [u, v] ∧ FrV K H u p ∧ FrV K H v q ∧ B 300 p ∧ B 300 q ∧ ∀ H', Same H H' → Q (.bl true) H'
theorem ne_fr {H : Hp} {x y : V} {p : Rat} {Q : VK} (h1 : FrV K H x p) (h2 : FrV K H y p) (hQ : Q (.bl false) H) : rNeD K x y H Q :=
  ⟨_, _, frV_dp h1, frV_dp h2, sh_fr _, sh_fr _, by rw [eqv_fr, decide_eq_true rfl]; exact hQ⟩
theorem eq_fr {H : Hp} {x y : V} {p : Rat} {Q : VK} (h1 : FrV K H x p) (h2 : FrV K H y p) (hQ : Q (.bl true) H) : rEqD K x y H Q :=
  ⟨_, _, frV_dp h1, frV_dp h2, sh_fr _, sh_fr _, by rw [eqv_fr, decide_eq_true rfl]; exact hQ⟩
theorem three_eq (p : Rat) : Rat.divInt (3 * p.num) (3 * p.den) = p := by
  rw [Rat.divInt_mul_left (by decide)]
  exact Rat.num_divInt_den p
theorem ok__law_fractions_right (T : Txt K mg) : FnOk P w K mg base CX0 5 (He.ga K "_law_fractions_right") T.fd__law_fractions_right ["one", "two"] (spFR K) := by
  refine T.F__law_fractions_right.ok sc__law_fractions_right (fun vs H Q E h => ?_) (fun cdv A outer s H vs Q E hr h => ⟨_, PSs.nox
    (pss_cons (ps_if (PW.pt (pw_or (pt_cmpR (op_neD hr.units) (pe_call (ok_plus T) (hr.mono (by decide)) (by rfl) T.g_plus T.F_plus.kp T.b_plus .nil pass0 (pa_cons (pv 0) (pa_cons (pv 1) pa_nil))) (pe_call (ok__law_added T) (hr.mono (by decide)) (by rfl) T.g__law_added T.F__law_added.kp T.b__law_added .nil pass0 (pa_cons (pv 0) (pa_cons (pv 1) pa_nil))) (nomark _)) (pw_or1 (pt_cmpR (op_neD hr.units) (pe_call (ok_times T) (hr.mono (by decide)) (by rfl) T.g_times T.F_times.kp T.b_times .nil pass0 (pa_cons (pv 0) (pa_cons (pv 1) pa_nil))) (pe_call (ok__law_times T) (hr.mono (by decide)) (by rfl) T.g__law_times T.F__law_times.kp T.b__law_times .nil pass0 (pa_cons (pv 0) (pa_cons (pv 1) pa_nil))) (nomark _))))) (pss_one (ps_ret pe_bl)) pss_nil)
      (pss_cons (ps_if (PW.pt (pw_or (pt_cmpR (op_neD hr.units) (pe_call (ok_minus T) (hr.mono (by decide)) (by rfl) T.g_minus T.F_minus.kp T.b_minus .nil pass0 (pa_cons (pv 0) (pa_cons (pv 1) pa_nil))) (pe_call (ok__law_added T) (hr.mono (by decide)) (by rfl) T.g__law_added T.F__law_added.kp T.b__law_added .nil pass0 (pa_cons (pv 0) (pa_cons (pe_tup (pa_cons (pe_un un_neg (pe_ix ix_tup (pv 1) pe_int (fun _ _ => rfl))) (pa_cons (pe_ix ix_tup (pv 1) pe_int (fun _ _ => rfl)) pa_nil))) pa_nil))) (nomark _)) (pw_or1 (pt_cmpR (op_neD hr.units) (pe_call (ok_fraction T) (hr.mono (by decide)) (by rfl) T.g_fraction T.F_fraction.kp T.b_fraction .nil pass0 (pa_cons (pe_op op_mulW pe_int (pe_ix ix_tup (pv 0) pe_int (fun _ _ => rfl))) (pa_cons (pe_op op_mulW pe_int (pe_ix ix_tup (pv 0) pe_int (fun _ _ => rfl))) pa_nil))) (pv 0) (nomark _))))) (pss_one (ps_ret pe_bl)) pss_nil)
      (pss_cons (ps_if (pt_cmpR op_ne (pe_call (ok_is_less T) (hr.mono (by decide)) (by rfl) T.g_is_less T.F_is_less.kp T.b_is_less .nil pass0 (pa_cons (pv 0) (pa_cons (pv 1) pa_nil))) (pe_cmpR op_lt (pe_op op_mulW (pe_ix ix_tup (pv 0) pe_int (fun _ _ => rfl)) (pe_ix ix_tup (pv 1) pe_int (fun _ _ => rfl))) (pe_op op_mulW (pe_ix ix_tup (pv 1) pe_int (fun _ _ => rfl)) (pe_ix ix_tup (pv 0) pe_int (fun _ _ => rfl))) (nomark _)) (nomark _)) (pss_one (ps_ret pe_bl)) pss_nil)
      (pss_one (ps_ret (pe_or (pe_cmpR op_eq (pe_ix ix_tup (pv 1) pe_int (fun _ _ => rfl)) pe_int (nomark _)) (pe_one (pe_cmpR (op_eqD hr.units) (pe_call (ok_times T) (hr.mono (by decide)) (by rfl) T.g_times T.F_times.kp T.b_times .nil pass0 (pa_cons (pe_call (ok_over T) (hr.mono (by decide)) (by rfl) T.g_over T.F_over.kp T.b_over .nil pass0 (pa_cons (pv 0) (pa_cons (pv 1) pa_nil))) (pa_cons (pv 1) pa_nil))) (pv 0) (nomark _))))))))), ?_⟩)
  · obtain ⟨u, v, p, q, rfl, _⟩ := h
    rfl
  · obtain ⟨u, v, p, q, rfl, fu, fv, b1', b2', hQ⟩ := h
    have b1 : B BN p := b1'.mono (by decide)
    have b2 : B BN q := b2'.mono (by decide)
    refine ⟨_, rfl, _, rfl, _, _, _, _, rfl, fu, fv, b1, b2, fun x H1 s1 f1 => ?_⟩
    refine ⟨_, rfl, _, rfl, _, _, _, _, rfl, frV_same fu s1, frV_same fv s1, b1, b2, fun y H2 s2 f2 => ?_⟩
    refine ne_fr (frV_same f1 s2) f2 ⟨_, rfl, iteF ?_⟩
    have s3 := s1.trans s2
    refine ⟨_, rfl, _, rfl, _, _, _, _, rfl, frV_same fu s3, frV_same fv s3, b1, b2, fun x H3 s4 f1 => ?_⟩
    have s5 := s3.trans s4
    refine ⟨_, rfl, _, rfl, _, _, _, _, rfl, frV_same fu s5, frV_same fv s5, b1, b2, fun y H4 s6 f2 => ?_⟩
    refine ne_fr (frV_same f1 s6) f2 ⟨_, rfl, iteF ?_⟩
    have s7 := s5.trans s6
    refine ⟨_, rfl, _, rfl, _, _, _, _, rfl, frV_same fu s7, frV_same fv s7, b1, b2, fun x H5 s8 f1 => ?_⟩
    have s9 := s7.trans s8
    obtain ⟨pv', rfl, Sv⟩ := id fv
    obtain ⟨pu, rfl, Su⟩ := id fu
    refine ⟨_, rfl, _, rfl, _, _, _, _, rfl, rfl, sqT_same Sv s9, rfl, _, rfl, _, rfl, _, _, _, _, rfl, rfl, sqT_same Sv s9, rfl, two_le, fun t ht => ?_⟩
    have s10 := s9.trans (same_new (o := .tup [.int (-q.num), .int q.den]) ht)
    refine ⟨_, _, _, _, rfl, frV_same fu s10, frV_neg upd_same, b1, B.neg' b2, fun y H6 s11 f2 => ?_⟩
    refine ne_fr (frV_same f1 ((same_new ht).trans s11)) f2 ⟨_, rfl, iteF ?_⟩
    have s12 := s10.trans s11
    have h3 : CMulW 3 p.num := cmul_of (a := 2) (by decide) (nmB b1) (by decide)
    have h4 : CMulW 3 p.den := cmul_of (a := 2) (by decide) (dnB b1) (by decide)
    have hd := p.den_pos
    refine ⟨_, rfl, _, _, _, _, rfl, rfl, sqT_same Su s12, rfl, _, _, rfl, rfl, h3, _, rfl, _, _, _, _, rfl, rfl, sqT_same Su s12, rfl, _, _, rfl, rfl, h4, _, _, rfl, (by omega), ?_, fun x H7 s13 f1 => ?_⟩
    · have := abs_mul_lt (a := 3) (b := (p.den : Int)) (n := 2) (m := BN) (by decide) (dnB b1)
      exact Nat.lt_of_lt_of_le this (pow_le' (by decide))
    rw [three_eq] at f1
    have s14 := s12.trans s13
    refine ⟨_, rfl, ne_fr f1 (frV_same fu s14) ⟨_, rfl, iteF ?_⟩⟩
    refine ⟨_, rfl, _, rfl, _, _, _, _, rfl, frV_same fu s14, frV_same fv s14, b1, b2, ?_⟩
    refine ⟨_, rfl, _, _, _, _, rfl, rfl, sqT_same Su s14, rfl, _, rfl, _, _, _, _, rfl, rfl, sqT_same Sv s14, rfl, _, _, rfl, rfl, mulW (nmB b1) (dnB b2), ?_⟩
    refine ⟨_, rfl, _, _, _, _, rfl, rfl, sqT_same Sv s14, rfl, _, rfl, _, _, _, _, rfl, rfl, sqT_same Su s14, rfl, _, _, rfl, rfl, mulW (nmB b2) (dnB b1), _, _, rfl, rfl, rfl, _, rfl, ?_⟩
    rw [show (!decide (V.bl (decide (p.num * q.den < q.num * p.den)) = V.bl (decide (p.num * q.den < q.num * p.den)))) = false by rw [decide_eq_true rfl]; rfl]
    refine iteF ?_
    refine ⟨_, rfl, _, _, _, _, rfl, rfl, sqT_same Sv s14, rfl, rfl, _, rfl, ?_⟩
    by_cases h0 : q = 0
    · rw [show decide (V.int q.num = V.int 0) = true by subst h0; rfl]
      exact iteT (hQ _ s14)
    · rw [show decide (V.int q.num = V.int 0) = false from decide_eq_false fun e => num_ne h0 (V.int.inj e)]
      refine iteF ⟨_, rfl, _, rfl, _, _, _, _, rfl, frV_same fu s14, frV_same fv s14, b1, b2, h0, fun x H8 s15 f3 => ?_⟩
      have s16 := s14.trans s15
      have b3 : B BN (p / q) := by
        rw [divq_eq]
        refine B.div ?_ ?_ (Int.mul_ne_zero (by omega) (num_ne h0))
        · exact Nat.lt_of_lt_of_le (abs_mul_lt (nmB' b1') (dnB' b2')) (pow_le' (by decide))
        · exact Nat.lt_of_lt_of_le (abs_mul_lt (dnB' b1') (nmB' b2')) (pow_le' (by decide))
      refine ⟨_, rfl, _, _, _, _, rfl, f3, frV_same fv s16, b3, b2, fun y H9 s17 f4 => ?_⟩
      have e : p / q * q = p := Rat.div_mul_cancel h0
      have f5 : FrV K H9 y p := by rw [← e]; exact f4
      exact ⟨_, rfl, eq_fr f5 (frV_same fu (s16.trans s17)) (hQ _ (s16.trans s17))⟩
end
end L86
set_option maxRecDepth 100000
set_option maxHeartbeats 4000000
namespace L86
open PySem PySem.Spec PyProof.Rows L2 Q7
section
variable {P : Program} {w : World} {K : PySem.W.Frag} {mg : Str → Option Value} {base : Heap}
/-! ### one row right -/
section
variable {H : Hp} {v x y : V} {a b : Rw} {Q : VK} {E : XK}
theorem rowm {m : Str} {X : Prop} (R : RA K H v a) (hm : ∀ d, List.lookup m [("_shares", V.ref d)] = none) (h : X) : ∃ a dx fs, v = .ref a ∧ H a = some (.ins (RC K) dx fs) ∧ fs.lookup m = none ∧ X := by
  obtain ⟨x, dx, d, ks, rfl, hx, _⟩ := R
  exact ⟨x, dx, _, rfl, hx, hm d, h⟩
theorem row2 {sp : Sp} (R1 : RA K H x a) (R2 : RA K H y b) (h : sp [x, y] H Q E) : rOwn2 (RC K) sp E x y H Q := by
  obtain ⟨p, dx, d, ks, rfl, hx, _⟩ := R1
  obtain ⟨q, dy, e, ls, rfl, hy, _⟩ := R2
  exact ⟨p, dx, _, q, dy, _, rfl, rfl, hx, hy, h⟩
theorem rowNe (R1 : RA K H x a) (R2 : RA K H y b) (e : a = b) (h : Q (.bl false) H) : rOwnNe (RC K) (spREq K) E x y H Q := by
  obtain ⟨p, dx, d, ks, rfl, hx, _⟩ := id R1
  obtain ⟨q, dy, e', ls, rfl, hy, _⟩ := id R2
  exact ⟨p, dx, _, q, dy, _, rfl, rfl, hx, hy, _, _, a, b, rfl, R1, R2, _, rfl, by rw [decide_eq_true e]; exact h⟩
theorem rowEq (R1 : RA K H x a) (R2 : RA K H y b) (e : a = b) (h : Q (.bl true) H) : rOwn2 (RC K) (spREq K) E x y H Q :=
  row2 R1 R2 ⟨_, _, a, b, rfl, R1, R2, by rw [decide_eq_true e]; exact h⟩
theorem rowIn {n : Int} (R : RA K H y a) (h0 : 0 ≤ n) (h : Q (.bl (decide (n ∈ a.map (·.1)))) H) : rOwnIn (RC K) (spHas K) E (.int n) y H Q := by
  obtain ⟨q, dy, e', ls, rfl, hy, _⟩ := id R
  exact ⟨q, dy, _, rfl, hy, _, a, n, rfl, R, h0, _, rfl, h⟩
theorem rowLen (R : RA K H y a) (hl : a.length < 2 ^ 62) (h : Q (.int a.length) H) : rOwnLen (RC K) (spLen K) E [y] H Q := by
  obtain ⟨q, dy, e', ls, rfl, hy, _⟩ := id R
  exact ⟨q, dy, _, rfl, hy, _, a, rfl, R, _, rfl, by omega, by omega, h⟩
theorem insAt {x : Addr} (R : RA K H (.ref x) a) : ∃ dx d, H x = some (.ins (RC K) dx [("_shares", .ref d)]) := by
  obtain ⟨q, dy, e', ls, e, hy, _⟩ := R
  cases e
  exact ⟨dy, e', hy⟩
theorem ne_prs {p q : Addr} {xs ys : List V} (h1 : H p = some (.lst xs)) (P1 : PrsV K H xs a) (h2 : H q = some (.lst ys)) (P2 : PrsV K H ys b) (e : a = b) (h : Q (.bl false) H) : rNeD K (.ref p) (.ref q) H Q :=
  ⟨_, _, .lst (sqL_of h1) (prsV_dp P1), .lst (sqL_of h2) (prsV_dp P2), sh_prs _, sh_prs _, by rw [eqv_lists, decide_eq_true e]; exact h⟩
theorem ne_int {i j : Int} (e : i = j) (h : Q (.bl false) H) : rNe (.int i) (.int j) H Q := ⟨rfl, by rw [decide_eq_true (by rw [e])]; exact h⟩
end
theorem mk_row1 {H1 : Hp} {E : XK} {Rq : Hp → Prop} {l x dx : Addr} {xs : List V} {ps : Rw} (S : SqL K H1 l xs) (hp : PrsV K H1 xs ps) (g : Gq ps) (hx : H1 x = none) (hd : H1 dx = none) (ne : dx ≠ x) (hQ : ∀ H', Same H1 H' → RA K H' (.ref x) (norm ps) → Rq H') :
    spInit K [.ref x, .ref l] (upd (upd H1 dx (.own x)) x (.ins (RC K) dx [])) (fun v H2 => v = .non ∧ Rq H2) E := by
  have s : Same H1 (upd (upd H1 dx (.own x)) x (.ins (RC K) dx [])) := (same_new hd).trans (same_new (by rw [upd_ne ne.symm]; exact hx))
  exact ⟨x, dx, l, xs, ps, rfl, upd_same, sqL_same S s, prsV_tk hp (same_tk s), g, fun H' k r => ⟨rfl, hQ _ (Same.made hx hd k) r⟩⟩
theorem mk_row1T {H1 : Hp} {E : XK} {Rq : Hp → Prop} {l x dx : Addr} {xs : List V} {ps : Rw} (S : SqT K H1 l xs) (hp : PrsV K H1 xs ps) (g : Gq ps) (hx : H1 x = none) (hd : H1 dx = none) (ne : dx ≠ x) (hQ : ∀ H', Same H1 H' → RA K H' (.ref x) (norm ps) → Rq H') :
    spInitT K [.ref x, .ref l] (upd (upd H1 dx (.own x)) x (.ins (RC K) dx [])) (fun v H2 => v = .non ∧ Rq H2) E := by
  have s : Same H1 (upd (upd H1 dx (.own x)) x (.ins (RC K) dx [])) := (same_new hd).trans (same_new (by rw [upd_ne ne.symm]; exact hx))
  exact ⟨x, dx, l, xs, ps, rfl, upd_same, sqT_same S s, prsV_tk hp (same_tk s), g, fun H' k r => ⟨rfl, hQ _ (Same.made hx hd k) r⟩⟩
theorem Gq.rev {ps : Rw} (h : Gq ps) : Gq ps.reverse := by
  obtain ⟨D, M, T, g, r⟩ := h
  exact ⟨D, M, T, ⟨fun p hp => g.nd p (List.mem_reverse.mp hp), fun p hp => g.lo p (List.mem_reverse.mp hp), fun p hp => g.hi p (List.mem_reverse.mp hp), by rw [List.length_reverse]; exact g.len⟩, r⟩
theorem dp_ints {H : Hp} : ∀ ns : List Int, DpAll K H (ns.map V.int) (ns.map PyData.int)
  | [] => .nil
  | n :: r => .cons (.int n) (dp_ints r)
theorem eqv_ints (ns : List Int) : PyData.eqv (.list (ns.map PyData.int)) (.list (ns.map PyData.int)) = true := by
  simp only [PyData.eqv]
  induction ns with
  | nil => simp [PyData.eqvAll]
  | cons n r ih => simp only [List.map_cons, PyData.eqvAll, PyData.eqv, ih, Bool.and_true]; simp
theorem ticks_snoc (n : Nat) (a : Rw) : ticksIn (n + 1) a = if ((n : Nat) : Int) ∈ a.map (·.1) then ticksIn n a ++ [((n : Nat) : Int)] else ticksIn n a := by
  unfold ticksIn
  rw [List.range_succ, List.map_append, List.filter_append]
  by_cases h : ((n : Nat) : Int) ∈ a.map (·.1)
  · rw [if_pos h, List.map_singleton, List.filter_cons_of_pos (by simpa using h)]
    rfl
  · rw [if_neg h, List.map_singleton, List.filter_cons_of_neg (by simpa using h)]
    simp
theorem ticks_len (n : Nat) (a : Rw) : (ticksIn n a).length ≤ n := by
  unfold ticksIn
  refine Nat.le_trans (List.length_filter_le _ _) ?_
  simp
def spOne (K : PySem.W.Frag) : Sp := fun vs H Q _ => ∃ l xs ps n, vs = [.ref l, .int n] ∧ SqL K H l xs ∧ PrsV K H xs ps ∧ Gs ps ∧ 0 ≤ n ∧ n ≤ 8 ∧ ∀ H', Same H H' → Q (.bl true) H'
theorem ok__law_one_right (T : Txt K mg) : FnOk P w K mg base CX0 7 (He.ga K "_law_one_right") T.fd__law_one_right ["pairs", "tick"] (spOne K) := by
  refine T.F__law_one_right.ok sc__law_one_right (fun vs H Q E h => ?_) (fun cdv A outer s H vs Q E hr h => ⟨_, PSs.nox
    (pss_cons (ps_asg (pe_tup (pa_cons (pe_make T.mk_Row (ok_Row___init__ T) (hr.mono (by decide)) (by rfl) T.g_Row T.b_Row___init__ .nil pass0 (pa_cons (pv 0) pa_nil)) (pa_cons (pe_call (ok__law_plain T) (hr.mono (by decide)) (by rfl) T.g__law_plain T.F__law_plain.kp T.b__law_plain .nil pass0 (pa_cons (pv 0) pa_nil)) pa_nil))) (pg_tup rfl (pgs_cons (pg_name (i := 2) sc__law_one_right.nd rfl (.inr rfl)) (pgs_cons (pg_name (i := 3) sc__law_one_right.nd rfl (.inl rfl)) pgs_nil))))
      (pss_cons (ps_if (PW.pt (pw_or (pt_cmpR (op_neD hr.units) (pe_meth0 (pv 2) T.cl_Row T.me_Row_pairs (ok_Row_pairs T) (hr.mono (by decide)) T.b_Row_pairs .nil pass0) (pv 3) (nomark _)) (pw_or (pt_cmpR op_ne (pe_callB (call_ownLen (E := E0) T.me_Row___len__.at_ T.me_Row___len__.fn (ok_Row___len__ T) (hr.mono (by decide)) T.b_Row___len__ (fun _ _ _ _ z => z)) (by rfl) T.m_len (by decide +kernel) (pa_cons (pv 2) pa_nil)) (pe_callB call_len_seq (by rfl) T.m_len (by decide +kernel) (pa_cons (pv 3) pa_nil)) (nomark _)) (pw_or1 (pt_cmpR (op_neD hr.units) (pe_meth0 (pv 2) T.cl_Row T.me_Row_total (ok_Row_total T) (hr.mono (by decide)) T.b_Row_total .nil pass0) (pe_call (ok__law_sum T) (hr.mono (by decide)) (by rfl) T.g__law_sum T.F__law_sum.kp T.b__law_sum .nil pass0 (pa_cons (pv 3) pa_nil)) (nomark _)))))) (pss_one (ps_ret pe_bl)) pss_nil)
      (pss_cons (ps_if (pt_cmpR (op_neD hr.units) (pe_meth0 (pe_meth (pv 2) T.cl_Row T.me_Row_moved (ok_Row_moved T) (hr.mono (by decide)) T.b_Row_moved .nil pass0 (pa_cons (pv 1) pa_nil)) T.cl_Row T.me_Row_pairs (ok_Row_pairs T) (hr.mono (by decide)) T.b_Row_pairs .nil pass0) (pe_lc (own := [("place", 7), ("number", 8)]) rfl sc__law_one_right.nd (pi_list (pv 3)) (blkOk_by (N := ["pairs", "tick", "row", "plain", "ahead", "ticks", "pair", "place", "number"]) (sc := defScope s__law_one_right) (by decide +kernel)) (fun _ _ _ _ _ => (show PG _ _ (gTup K 2 (gCons (gName 7) (gCons (gName 8) gNil))) from pg_tup rfl (pgs_cons (pg_name (i := 7) sc__law_one_right.nd rfl (.inl rfl) (hf := .inr rfl)) (pgs_cons (pg_name (i := 8) sc__law_one_right.nd rfl (.inl rfl) (hf := .inr rfl)) pgs_nil)))) (fun _ _ _ _ _ => pts_nil) (fun _ _ _ _ _ => (pe_tup (pa_cons (pe_op op_add (pv 7) (pv 1)) (pa_cons (pv 8) pa_nil))))) (nomark _)) (pss_one (ps_ret pe_bl)) pss_nil)
      (pss_cons (ps_if (pt_cmpR (op_ownNe (E := E0) T.ne_Row (ok_Row___eq__ T) (hr.mono (by decide)) T.b_Row___eq__ (fun _ _ _ _ z => z)) (pe_meth (pv 2) T.cl_Row T.me_Row_moved (ok_Row_moved T) (hr.mono (by decide)) T.b_Row_moved .nil pass0 (pa_cons (pv 1) pa_nil)) (pe_op (op_own2 T.first_Row T.me_Row___mul__.at_ T.me_Row___mul__.fn (ok_Row___mul__ T) (hr.mono (by decide)) T.b_Row___mul__ pass0) (pv 2) (pe_make T.mk_Row (ok_Row___init__ T) (hr.mono (by decide)) (by rfl) T.g_Row T.b_Row___init__ .nil pass0 (pa_cons (pe_lst (pa_cons (pe_tup (pa_cons (pv 1) (pa_cons (pe_tup (pa_cons pe_int (pa_cons pe_int pa_nil))) pa_nil))) pa_nil)) pa_nil))) (nomark _)) (pss_one (ps_ret pe_bl)) pss_nil)
      (pss_cons (ps_setLc (i := 4) (own := [("pair", 6)]) rfl sc__law_one_right.nd rfl rfl rfl (pi_list (pv 3)) (blkOk_by (N := ["pairs", "tick", "row", "plain", "ahead", "ticks", "pair", "place", "number"]) (sc := defScope s__law_one_right) (by decide +kernel)) (fun _ _ _ _ _ => (pg_name (i := 6) sc__law_one_right.nd rfl (.inl rfl) (hf := .inr rfl))) (fun _ _ _ _ _ => (pts_one (pt_cmpR op_le (pe_ix (show IxR _ (rIxT K) from ix_tup) (pv 6) pe_int (fun _ _ => rfl)) (pv 1) (nomark _)))) (fun _ _ _ _ _ => (pv 6)))
      (pss_cons (ps_if (PW.pt (pw_or (pt_cmpR (op_neD hr.units) (pe_meth0 (pe_meth (pv 2) T.cl_Row T.me_Row_cut (ok_Row_cut T) (hr.mono (by decide)) T.b_Row_cut .nil pass0 (pa_cons (pv 1) pa_nil)) T.cl_Row T.me_Row_pairs (ok_Row_pairs T) (hr.mono (by decide)) T.b_Row_pairs .nil pass0) (pv 4) (nomark _)) (pw_or1 (pt_cmpR (op_neD hr.units) (pe_meth (pv 2) T.cl_Row T.me_Row_up_to (ok_Row_up_to T) (hr.mono (by decide)) T.b_Row_up_to .nil pass0 (pa_cons (pv 1) pa_nil)) (pe_call (ok__law_sum T) (hr.mono (by decide)) (by rfl) T.g__law_sum T.F__law_sum.kp T.b__law_sum .nil pass0 (pa_cons (pv 4) pa_nil)) (nomark _))))) (pss_one (ps_ret pe_bl)) pss_nil)
      (pss_cons (ps_if (pt_cmpR (op_neD hr.units) (pe_meth (pv 2) T.cl_Row T.me_Row_at (ok_Row_at T) (hr.mono (by decide)) T.b_Row_at .nil pass0 (pa_cons (pv 1) pa_nil)) (pe_call (ok__law_sum T) (hr.mono (by decide)) (by rfl) T.g__law_sum T.F__law_sum.kp T.b__law_sum .nil pass0 (pa_cons (pe_lc (own := [("pair", 6)]) rfl sc__law_one_right.nd (pi_list (pv 3)) (blkOk_by (N := ["pairs", "tick", "row", "plain", "ahead", "ticks", "pair", "place", "number"]) (sc := defScope s__law_one_right) (by decide +kernel)) (fun _ _ _ _ _ => (pg_name (i := 6) sc__law_one_right.nd rfl (.inl rfl) (hf := .inr rfl))) (fun _ _ _ _ _ => (pts_one (pt_cmpR op_eq (pe_ix (show IxR _ (rIxT K) from ix_tup) (pv 6) pe_int (fun _ _ => rfl)) (pv 1) (nomark _)))) (fun _ _ _ _ _ => (pv 6))) pa_nil)) (nomark _)) (pss_one (ps_ret pe_bl)) pss_nil)
      (pss_cons (ps_setLc (i := 5) (own := [("place", 7)]) rfl sc__law_one_right.nd rfl rfl rfl (pi_range1 (by rfl) T.m_range (pa_cons pe_int pa_nil)) (blkOk_by (N := ["pairs", "tick", "row", "plain", "ahead", "ticks", "pair", "place", "number"]) (sc := defScope s__law_one_right) (by decide +kernel)) (fun _ _ _ _ _ => (pg_name (i := 7) sc__law_one_right.nd rfl (.inl rfl) (hf := .inr rfl))) (fun _ _ _ _ _ => (pts_one (pt_cmpR (show OpR _ (compareOp .In) (rOwnIn (He.ga K "Row") (spHas K) E0) from op_ownIn T.me_Row___contains__.at_ T.me_Row___contains__.fn (ok_Row___contains__ T) (hr.mono (by decide)) T.b_Row___contains__ pass0) (pv 7) (pv 2) rfl))) (fun _ _ _ _ _ => (pv 7)))
      (pss_one (ps_ret (pe_and (pe_cmpR (op_eqD hr.units) (pv 5) (pe_lc (own := [("pair", 6)]) rfl sc__law_one_right.nd (pi_list (pv 3)) (blkOk_by (N := ["pairs", "tick", "row", "plain", "ahead", "ticks", "pair", "place", "number"]) (sc := defScope s__law_one_right) (by decide +kernel)) (fun _ _ _ _ _ => (pg_name (i := 6) sc__law_one_right.nd rfl (.inl rfl) (hf := .inr rfl))) (fun _ _ _ _ _ => pts_nil) (fun _ _ _ _ _ => (pe_ix (show IxR _ (rIxT K) from ix_tup) (pv 6) pe_int (fun _ _ => rfl)))) (nomark _)) (pe_and (pe_cmpR (op_ownEq T.me_Row___eq__.at_ T.me_Row___eq__.fn (ok_Row___eq__ T) (hr.mono (by decide)) T.b_Row___eq__ pass0) (pv 2) (pe_make T.mk_Row (ok_Row___init___T T) (hr.mono (by decide)) (by rfl) T.g_Row T.b_Row___init__ .nil pass0 (pa_cons (pe_callTy call_tuple_of (by rfl) T.m_tuple (by decide +kernel) (pa_cons (pe_revL (pv 0)) pa_nil)) pa_nil)) (nomark _)) (pe_one (pe_cmpR (op_ownEq T.me_Row___eq__.at_ T.me_Row___eq__.fn (ok_Row___eq__ T) (hr.mono (by decide)) T.b_Row___eq__ pass0) (pv 2) (pe_make T.mk_Row (ok_Row___init__ T) (hr.mono (by decide)) (by rfl) T.g_Row T.b_Row___init__ .nil pass0 (pa_cons (pv 3) pa_nil)) (nomark _))))))))))))))), ?_⟩)
  · obtain ⟨l, xs, ps, n, rfl, _⟩ := h
    rfl
  · obtain ⟨l, xs, ps, n, rfl, S, hp, g, h0, h8, hQ⟩ := h
    have ga := g.norm
    have nf := norm_nf ps
    have ga63 := ga.len
    have l64 := line64
    refine ⟨_, rfl, fun xrv drv hxrv hdrv nerv => mk_row1 S hp g.q hxrv hdrv nerv fun H1 s1 R => ?_⟩
    refine ⟨_, rfl, l, xs, ps, rfl, sqL_same S s1, prsV_tk hp (same_tk s1), g.q, fun p ys H2 s2 np2 hl2 P => ?_⟩
    refine ⟨two_le, fun t ht => ?_⟩
    refine ⟨t, _, rfl, sqT_of upd_same, rfl, _, _, rfl, _, _, rfl, rfl, ?_⟩
    have sn := same_new (o := .tup [.ref xrv, .ref p]) ht
    have s := (s1.trans s2).trans sn
    replace R := rowAt_same R (s2.trans sn)
    replace P := prsV_tk P (same_tk sn)
    replace hl2 := sn _ _ hl2
    have hys : ys.length = (norm ps).length := pLen P
    generalize hH : upd H2 t (.tup [.ref xrv, .ref p]) = H3 at *
    clear hH sn
    -- pairs, len, total
    refine ⟨_, rfl, rowm R (fun _ => rfl) ⟨_, _, rfl, R, fun p2 zs H4 s4 _ hz Pz => ?_⟩⟩
    refine ⟨_, rfl, ne_prs hz Pz (s4 _ _ hl2) (prsV_tk P (same_tk s4)) rfl ⟨_, rfl, iteF ?_⟩⟩
    obtain ⟨dx0, d0, hx0⟩ := insAt (rowAt_same R s4)
    refine ⟨_, rfl, xrv, dx0, _, rfl, hx0, _, _, rfl, rowAt_same R s4, _, rfl, by omega, by omega, ?_⟩
    refine ⟨_, rfl, p, ys, rfl, .inl (sqL_of (s4 _ _ hl2)), ne_int (by rw [hys]) ⟨_, rfl, iteF ?_⟩⟩
    refine ⟨_, rfl, rowm (rowAt_same R s4) (fun _ => rfl) ⟨_, _, rfl, rowAt_same R s4, ga, fun z1 H5 s5 f1 => ?_⟩⟩
    have s35 := s4.trans s5
    refine ⟨_, rfl, p, ys, _, rfl, sqL_of (s35 _ _ hl2), prsV_tk P (same_tk s35), ga, fun z2 H6 s6 f2 => ne_fr (frV_same f1 s6) f2 ⟨_, rfl, iteF ?_⟩⟩
    have s36 := s35.trans s6
    replace s := s.trans s36
    replace R := rowAt_same R s36
    replace P := prsV_tk P (same_tk s36)
    replace hl2 := s36 _ _ hl2
    clear s4 s5 s35 s6 s36 hz Pz f1 f2
    -- moved
    refine ⟨_, rfl, rowm R (fun _ => rfl) ⟨_, rfl, _, _, n, rfl, R, h0, ga, g.mv h0 h8, fun rm H7 s7 Rm => ?_⟩⟩
    refine rowm Rm (fun _ => rfl) ⟨_, _, rfl, Rm, fun p3 zs H8 s8 _ hz Pz => ?_⟩
    have s68 := s7.trans s8
    refine ⟨_, rfl, p, rfl, ⟨_, sqL_of (s68 _ _ hl2)⟩, fun D hD => ?_⟩
    refine lc_list (xs := ys) (fun i H' => Same H8 H' ∧ ∃ ws, H' D = some (.lst ws) ∧ PrsV K H' ws (mv n ((norm ps).take i)) ∧ ws.length ≤ i) ⟨same_new hD, [], upd_same, .nil, Nat.le_refl _⟩ (fun i H' _ q => sqL_of (q.1 _ _ (s68 _ _ hl2))) ?_ ?_
    · rintro i v H' hv ⟨sm, ws, hw, hP, hwl⟩
      obtain ⟨q, hq, ⟨pa, y, rfl, Sp, fy⟩⟩ := pGet P hv
      have sp := s68.trans sm
      refine ⟨pa, _, rfl, sqT_same Sp sp, rfl, _, _, rfl, _, _, rfl, rfl, ?_⟩
      refine ⟨rfl, ?_⟩
      have h1 : i < (norm ps).length := (List.getElem?_eq_some_iff.mp hq).1
      refine ⟨_, rfl, _, rfl, _, _, rfl, rfl, _, rfl, two_le, fun t ht => ?_⟩
      have sn := same_new (o := .tup [.int (q.1 + n), y]) ht
      have hw2 := sn _ _ hw
      refine ⟨ws, hw2, by omega, same_mut (sm.trans sn) hD, _, upd_same, ?_, by rw [List.length_append, List.length_singleton]; omega⟩
      rw [show mv n ((norm ps).take (i + 1)) = mv n ((norm ps).take i) ++ [(q.1 + n, q.2)] by unfold mv; rw [List.take_succ, hq, List.map_append]; rfl]
      exact pApp (prsV_tk hP ((same_tk sn).trans (tk_lst hw2))) (.cons ⟨t, y, rfl, sqT_tk (sqT_of upd_same) (tk_lst hw2), frV_tk (frV_same fy (sp.trans sn)) (tk_lst hw2)⟩ .nil)
    rintro H9 ⟨s9, ws, hw, hP, _⟩
    rw [hys, List.take_length] at hP
    refine ne_prs (s9 _ _ hz) (prsV_tk Pz (same_tk s9)) hw hP (norm_self (nf_mv nf)) ⟨_, rfl, iteF ?_⟩
    have s69 := s68.trans s9
    replace s := s.trans s69
    replace R := rowAt_same R s69
    replace P := prsV_tk P (same_tk s69)
    replace hl2 := s69 _ _ hl2
    clear s7 s8 s68 s9 s69 hz Pz hP hw Rm
    -- moved as a product
    refine ⟨_, rfl, rowm R (fun _ => rfl) ⟨_, rfl, _, _, n, rfl, R, h0, ga, g.mv h0 h8, fun rm H10 s10 Rm => ?_⟩⟩
    refine ⟨_, rfl, _, rfl, two_le, fun t1 ht1 => ⟨two_le, fun t2 ht2 => ⟨(by decide : 1 ≤ sizeLine), fun l1 hl1 => ?_⟩⟩⟩
    have k1 := same_new (o := .tup [.int 1, .int 1]) ht1
    have k2 := same_new (o := .tup [.int n, .ref t1]) ht2
    have k3 := same_new (o := .lst [.ref t2]) hl1
    refine fun xr1 dr1 hxr1 hdr1 ner1 => mk_row1 (ps := [(n, 1)]) (sqL_of upd_same) (.cons ⟨t2, _, rfl, sqT_same (sqT_of upd_same) k3, frV_same (frV_tup (q := 1) upd_same rfl rfl) (k2.trans k3)⟩ .nil) (Gq.single h0 h8) hxr1 hdr1 ner1 fun H11 s11 R1 => ?_
    have s911 := s10.trans (((k1.trans k2).trans k3).trans s11)
    refine row2 (rowAt_same R s911) R1 ⟨_, _, _, _, rfl, rowAt_same R s911, R1, ga, Gq.singleN h0 h8, g.single h0 h8, fun r2 H12 s12 R2 => ?_⟩
    refine rowNe (rowAt_same Rm ((((k1.trans k2).trans k3).trans s11).trans s12)) R2 (one_mv n (norm ps)) ⟨_, rfl, iteF ?_⟩
    have s912 := s911.trans s12
    replace s := s.trans s912
    replace R := rowAt_same R s912
    replace P := prsV_tk P (same_tk s912)
    replace hl2 := s912 _ _ hl2
    clear k1 k2 k3 s10 s11 s12 s911 s912 R1 R2 Rm
    -- ahead
    refine ⟨_, rfl, p, rfl, ⟨_, sqL_of hl2⟩, fun D hD => ?_⟩
    refine lc_list (xs := ys) (fun i H' => Same H12 H' ∧ ∃ ws, H' D = some (.lst ws) ∧ PrsV K H' ws (upTo n ((norm ps).take i)) ∧ ws.length ≤ i) ⟨same_new hD, [], upd_same, .nil, Nat.le_refl _⟩ (fun i H' _ q => sqL_of (q.1 _ _ hl2)) ?_ ?_
    · rintro i v H' hv ⟨sm, ws, hw, hP, hwl⟩
      obtain ⟨q, hq, hpv⟩ := pGet P hv
      obtain ⟨pa, y, rfl, Sp, fy⟩ := id hpv
      refine ⟨rfl, ?_⟩
      have h1 : i < (norm ps).length := (List.getElem?_eq_some_iff.mp hq).1
      refine ⟨_, rfl, pa, _, _, _, rfl, rfl, sqT_same Sp sm, rfl, _, rfl, _, _, rfl, rfl, _, rfl, ite2 (fun c => ?_) fun c => ?_⟩
      · refine ⟨_, rfl, ws, hw, by omega, same_mut sm hD, _, upd_same, ?_, by rw [List.length_append, List.length_singleton]; omega⟩
        rw [show upTo n ((norm ps).take (i + 1)) = upTo n ((norm ps).take i) ++ [q] from (filt_take _ hq).trans (by rw [if_pos c]; rfl)]
        exact pApp (prsV_tk hP (tk_lst hw)) (.cons (prV_tk (prV_tk hpv (same_tk sm)) (tk_lst hw)) .nil)
      · refine ⟨sm, ws, hw, ?_, by omega⟩
        rw [show upTo n ((norm ps).take (i + 1)) = upTo n ((norm ps).take i) from (filt_take _ hq).trans (by rw [if_neg c, List.append_nil]; rfl)]
        exact hP
    rintro H13 ⟨s13, ws, hw, PA, _⟩
    rw [hys, List.take_length] at PA
    replace s := s.trans s13
    replace R := rowAt_same R s13
    replace P := prsV_tk P (same_tk s13)
    replace hl2 := s13 _ _ hl2
    clear s13
    have gu : Gq (upTo n (norm ps)) := ga.sub List.filter_sublist
    -- cut, up_to
    refine ⟨_, rfl, rowm R (fun _ => rfl) ⟨_, rfl, _, _, n, rfl, R, h0, ga, fun rc H14 s14 Rc => ?_⟩⟩
    refine rowm Rc (fun _ => rfl) ⟨_, _, rfl, Rc, fun p4 zs H15 s15 _ hz Pz => ?_⟩
    have s1315 := s14.trans s15
    refine ⟨_, rfl, ne_prs hz Pz (s1315 _ _ hw) (prsV_tk PA (same_tk s1315)) (norm_self (nf_upTo nf)) ⟨_, rfl, iteF ?_⟩⟩
    refine ⟨_, rfl, rowm (rowAt_same R s1315) (fun _ => rfl) ⟨_, rfl, _, _, n, rfl, rowAt_same R s1315, h0, ga, fun z1 H16 s16 f1 => ?_⟩⟩
    have s1316 := s1315.trans s16
    refine ⟨_, rfl, D, ws, _, rfl, sqL_of (s1316 _ _ hw), prsV_tk PA (same_tk s1316), gu, fun z2 H17 s17 f2 => ne_fr (frV_same f1 s17) f2 ⟨_, rfl, iteF ?_⟩⟩
    have s1317 := s1316.trans s17
    replace s := s.trans s1317
    replace R := rowAt_same R s1317
    replace P := prsV_tk P (same_tk s1317)
    replace hl2 := s1317 _ _ hl2
    clear s14 s15 s1315 s16 s1316 s17 s1317 hz Pz f1 f2 PA hw Rc
    -- at
    refine ⟨_, rfl, rowm R (fun _ => rfl) ⟨_, rfl, _, _, n, rfl, R, h0, fun z1 f1 => ?_⟩⟩
    refine ⟨_, rfl, p, rfl, ⟨_, sqL_of hl2⟩, fun D2 hD2 => ?_⟩
    refine lc_list (xs := ys) (fun i H' => Same H17 H' ∧ ∃ ws, H' D2 = some (.lst ws) ∧ PrsV K H' ws (eqAt n ((norm ps).take i)) ∧ ws.length ≤ i) ⟨same_new hD2, [], upd_same, .nil, Nat.le_refl _⟩ (fun i H' _ q => sqL_of (q.1 _ _ hl2)) ?_ ?_
    · rintro i v H' hv ⟨sm, ws, hw, hP, hwl⟩
      obtain ⟨q, hq, hpv⟩ := pGet P hv
      obtain ⟨pa, y, rfl, Sp, fy⟩ := id hpv
      refine ⟨rfl, ?_⟩
      have h1 : i < (norm ps).length := (List.getElem?_eq_some_iff.mp hq).1
      refine ⟨_, rfl, pa, _, _, _, rfl, rfl, sqT_same Sp sm, rfl, _, rfl, rfl, _, rfl, ite2 (fun c => ?_) fun c => ?_⟩
      · have c' : q.1 = n := V.int.inj (of_decide_eq_true c)
        refine ⟨_, rfl, ws, hw, by omega, same_mut sm hD2, _, upd_same, ?_, by rw [List.length_append, List.length_singleton]; omega⟩
        rw [show eqAt n ((norm ps).take (i + 1)) = eqAt n ((norm ps).take i) ++ [q] from (filt_take _ hq).trans (by rw [if_pos (decide_eq_true c')]; rfl)]
        exact pApp (prsV_tk hP (tk_lst hw)) (.cons (prV_tk (prV_tk hpv (same_tk sm)) (tk_lst hw)) .nil)
      · have c' : ¬ q.1 = n := fun e => c (decide_eq_true (by rw [e]))
        refine ⟨sm, ws, hw, ?_, by omega⟩
        rw [show eqAt n ((norm ps).take (i + 1)) = eqAt n ((norm ps).take i) from (filt_take _ hq).trans (by rw [if_neg (by simpa using c'), List.append_nil]; rfl)]
        exact hP
    rintro H18 ⟨s18, ws, hw, PA, _⟩
    rw [hys, List.take_length] at PA
    refine ⟨D2, ws, _, rfl, sqL_of hw, PA, ga.sub List.filter_sublist, fun z2 H19 s19 f2 => ?_⟩
    have s1719 := s18.trans s19
    rw [look_at nf n] at f1
    refine ne_fr (frV_same f1 s1719) f2 ⟨_, rfl, iteF ?_⟩
    replace s := s.trans s1719
    replace R := rowAt_same R s1719
    replace P := prsV_tk P (same_tk s1719)
    replace hl2 := s1719 _ _ hl2
    clear s18 s19 s1719 f1 f2 PA hw
    -- in
    refine ⟨9, rfl, by decide, by decide, fun D3 hD3 => ?_⟩
    refine lc_range (lo := 0) (n := 9) (fun i H' => Same H19 H' ∧ H' D3 = some (.lst ((ticksIn i (norm ps)).map V.int))) ⟨same_new hD3, upd_same⟩ ?_ ?_
    · rintro i H' hi ⟨sm, hw⟩
      refine ⟨rfl, ?_⟩
      refine ⟨_, rfl, _, rfl, rowIn (rowAt_same R sm) (by omega) ⟨_, rfl, ite2 (fun c => ?_) fun c => ?_⟩⟩
      · have c' := of_decide_eq_true c
        rw [Int.zero_add] at c'
        refine ⟨_, rfl, _, hw, ?_, same_mut sm hD3, ?_⟩
        · rw [List.length_map]; have := ticks_len i (norm ps); omega
        · rw [upd_same, ticks_snoc, if_pos c', List.map_append, Int.zero_add]; rfl
      · have c' := fun e => c (decide_eq_true e)
        rw [Int.zero_add] at c'
        refine ⟨sm, ?_⟩
        rw [ticks_snoc, if_neg c']
        exact hw
    rintro H20 ⟨s20, hw⟩
    rw [ticks_all nf g.tick] at hw
    -- the end
    refine ⟨_, rfl, _, rfl, p, rfl, ⟨_, sqL_of (s20 _ _ hl2)⟩, fun D4 hD4 => ?_⟩
    refine lc_list (xs := ys) (fun i H' => Same H20 H' ∧ H' D4 = some (.lst ((((norm ps).take i).map (·.1)).map V.int))) ⟨same_new hD4, upd_same⟩ (fun i H' _ q => sqL_of (q.1 _ _ (s20 _ _ hl2))) ?_ ?_
    · rintro i v H' hv ⟨sm, hw2⟩
      obtain ⟨q, hq, ⟨pa, y, rfl, Sp, fy⟩⟩ := pGet P hv
      refine ⟨rfl, ?_⟩
      have h1 : i < (norm ps).length := (List.getElem?_eq_some_iff.mp hq).1
      refine ⟨_, rfl, pa, _, _, _, rfl, rfl, sqT_same Sp (s20.trans sm), rfl, _, hw2, ?_, same_mut sm hD4, ?_⟩
      · rw [List.length_map, List.length_map, List.length_take]; omega
      · rw [upd_same, List.take_succ, hq, List.map_append, List.map_append]; rfl
    rintro H21 ⟨s21, hw2⟩
    rw [hys, List.take_length] at hw2
    refine ⟨_, _, .lst (sqL_of (s21 _ _ hw)) (dp_ints _), .lst (sqL_of hw2) (dp_ints _), sh_ints _, sh_ints _, _, rfl, ?_⟩
    rw [eqv_ints]
    have s1921 := s20.trans s21
    replace s := s.trans s1921
    replace R := rowAt_same R s1921
    replace P := prsV_tk P (same_tk s1921)
    replace hl2 := s1921 _ _ hl2
    refine iteT ⟨_, rfl, _, rfl, l, xs, rfl, sqL_same S s, fun p1 hp1 => ⟨p1, _, rfl, .inl ⟨sqL_of upd_same, fun q1 hq1 => ?_⟩⟩⟩
    have k1 := same_new (o := .lst xs.reverse) hp1
    have k2 := same_new (o := .tup xs.reverse) hq1
    have k := s.trans (k1.trans k2)
    refine fun xr1 dr1 hxr1 hdr1 ner1 => mk_row1T (ps := ps.reverse) (sqT_of upd_same) (pRev (prsV_tk hp (same_tk k))) (Gq.rev g.q) hxr1 hdr1 ner1 fun H22 s22 R1 => ?_
    have k3 := (k1.trans k2).trans s22
    refine rowEq (rowAt_same R k3) R1 (norm_rev ps).symm ⟨_, rfl, iteT ?_⟩
    refine ⟨_, rfl, _, rfl, fun xr2 dr2 hxr2 hdr2 ner2 => mk_row1 (ps := norm ps) (sqL_of (k3 _ _ hl2)) (prsV_tk P (same_tk k3)) ga hxr2 hdr2 ner2 fun H23 s23 R2 => ?_⟩
    exact rowEq (rowAt_same R (k3.trans s23)) R2 (norm_norm ps).symm (hQ _ (s.trans (k3.trans s23)))
end
end L86
set_option maxRecDepth 100000
set_option maxHeartbeats 4000000
namespace L86
open PySem PySem.Spec PyProof.Rows L2 Q7
section
variable {P : Program} {w : World} {K : PySem.W.Frag} {mg : Str → Option Value} {base : Heap}
/-! ### all of it right -/
structure W3 (K : PySem.W.Frag) (H : Hp) (p1 p2 p3 : Addr) (xs1 xs2 xs3 : List V) (a b c : Rw) : Prop where
  h1 : H p1 = some (.lst xs1)
  P1 : PrsV K H xs1 a
  h2 : H p2 = some (.lst xs2)
  P2 : PrsV K H xs2 b
  h3 : H p3 = some (.lst xs3)
  P3 : PrsV K H xs3 c
theorem W3.same {H H' : Hp} {p1 p2 p3 : Addr} {xs1 xs2 xs3 : List V} {a b c : Rw} (w : W3 K H p1 p2 p3 xs1 xs2 xs3 a b c) (s : Same H H') : W3 K H' p1 p2 p3 xs1 xs2 xs3 a b c :=
  ⟨s _ _ w.h1, prsV_tk w.P1 (same_tk s), s _ _ w.h2, prsV_tk w.P2 (same_tk s), s _ _ w.h3, prsV_tk w.P3 (same_tk s)⟩
structure R3 (K : PySem.W.Frag) (H : Hp) (x y z : V) (a b c : Rw) : Prop where
  A : RA K H x (norm a)
  B : RA K H y (norm b)
  C : RA K H z (norm c)
theorem R3.same {H H' : Hp} {x y z : V} {a b c : Rw} (w : R3 K H x y z a b c) (s : Same H H') : R3 K H' x y z a b c := ⟨rowAt_same w.A s, rowAt_same w.B s, rowAt_same w.C s⟩
def LsV (K : PySem.W.Frag) (H : Hp) (b D : Addr) : List V → List Rw → Prop := Paired fun v ps => ∃ p xs, v = .ref p ∧ p ≠ b ∧ p ≠ D ∧ H p = some (.lst xs) ∧ PrsV K H xs ps ∧ Gp ps
theorem lsV_sb {H H' : Hp} {b D : Addr} (s : Sb b H H') (t : TK H H') : ∀ {vs : List V} {rs : List Rw}, LsV K H b D vs rs → LsV K H' b D vs rs
  | _, _, .nil => .nil
  | _, _, .cons ⟨p, xs, e, n1, n2, h, P, g⟩ r => .cons ⟨p, xs, e, n1, n2, s _ _ h n1, prsV_tk P t, g⟩ (lsV_sb s t r)
theorem lsV_upd {H : Hp} {b D : Addr} {ys : List V} {o : HO} (h : H D = some (.lst ys)) : ∀ {vs : List V} {rs : List Rw}, LsV K H b D vs rs → LsV K (upd H D o) b D vs rs
  | _, _, .nil => .nil
  | _, _, .cons ⟨p, xs, e, n1, n2, hp, P, g⟩ r => .cons ⟨p, xs, e, n1, n2, by rw [upd_ne n2]; exact hp, prsV_tk P (tk_lst h), g⟩ (lsV_upd h r)
def half : Rat := ⟨1, 2, by decide, by decide⟩
theorem Gp.mem {a : Rw} (h : Gp a) : ∀ p ∈ a, B 300 p.2 := fun p hp => (h.nd p hp).B (by decide) (Nat.lt_of_lt_of_le (show 60 < 2 ^ 6 by decide) (pow_le' (by decide))) (Nat.lt_of_lt_of_le (show 240 < 2 ^ 8 by decide) (pow_le' (by decide)))
/-- all but b stays, all tuples too -/
structure Sbt (b : Addr) (H H' : Hp) : Prop where
  sb : Sb b H H'
  tk : TK H H'
def spLPairs' : True := trivial
def spRight (K : PySem.W.Frag) : Sp := fun vs H Q _ => ∃ b c d, vs = [.ref b] ∧ BagAt H b c d ∧ 0 ≤ d ∧ d < 2 ^ 35 ∧ ∀ H', Sb b H H' → Q (.bl true) H'
theorem sb_tk {b : Addr} {H H' : Hp} {ys : List V} (hb : H b = some (.lst ys)) (s : Sb b H H') : TK H H' := fun a xs q => by
  rcases q with q | ⟨z, q⟩
  · exact .inl (s _ _ q (ne_of q hb (by intro z; cases z)))
  · exact .inr ⟨z, s _ _ q (ne_of q hb (by intro z; cases z))⟩
theorem ok__law_right (T : Txt K mg) : FnOk P w K mg base CX0 8 (He.ga K "_law_right") T.fd__law_right ["bag"] (spRight K) := by
  refine T.F__law_right.ok sc__law_right (fun vs H Q E h => ?_) (fun cdv A outer s H vs Q E hr h => ⟨_, PSs.nox
    (pss_cons (ps_asg (pe_lc (own := [("k", 9)]) rfl sc__law_right.nd (pi_range1 (by rfl) T.m_range (pa_cons pe_int pa_nil)) (blkOk_by (N := ["bag", "one", "two", "three", "tick", "here", "there", "third", "numbers", "k", "pair"]) (sc := defScope s__law_right) (by decide +kernel)) (fun _ _ _ _ _ => (pg_name (i := 9) sc__law_right.nd rfl (.inl rfl) (hf := .inr rfl))) (fun _ _ _ _ _ => pts_nil) (fun _ _ _ _ _ => (pe_call (ok__law_pairs T) (hr.mono (by decide)) (by rfl) T.g__law_pairs T.F__law_pairs.kp T.b__law_pairs .nil pass0 (pa_cons (pv 0) pa_nil)))) (pg_unl rfl (pgs_cons (pg_name (i := 1) sc__law_right.nd rfl (.inl rfl)) (pgs_cons (pg_name (i := 2) sc__law_right.nd rfl (.inl rfl)) (pgs_cons (pg_name (i := 3) sc__law_right.nd rfl (.inl rfl)) pgs_nil)))))
      (pss_cons (ps_set (i := 4) sc__law_right.nd rfl (.inl rfl) (pe_call (ok__law_draw T) (hr.mono (by decide)) (by rfl) T.g__law_draw T.F__law_draw.kp T.b__law_draw .nil pass0 (pa_cons (pv 0) (pa_cons pe_int pa_nil))))
      (pss_cons (ps_if (PW.pt (pw_or (pt_not (pt_val (pe_call (ok__law_one_right T) (hr.mono (by decide)) (by rfl) T.g__law_one_right T.F__law_one_right.kp T.b__law_one_right .nil pass0 (pa_cons (pv 1) (pa_cons (pv 4) pa_nil))))) (pw_or1 (pt_not (pt_val (pe_call (ok__law_one_right T) (hr.mono (by decide)) (by rfl) T.g__law_one_right T.F__law_one_right.kp T.b__law_one_right .nil pass0 (pa_cons (pe_call (ok__law_product T) (hr.mono (by decide)) (by rfl) T.g__law_product T.F__law_product.kp T.b__law_product .nil pass0 (pa_cons (pv 1) (pa_cons (pv 2) pa_nil))) (pa_cons (pv 4) pa_nil)))))))) (pss_one (ps_ret pe_bl)) pss_nil)
      (pss_cons (ps_par3 (i := 5) (j := 6) (l := 7) rfl sc__law_right.nd rfl rfl rfl (by decide) (by decide) (by decide) rfl rfl rfl (pa_cons (pe_make T.mk_Row (ok_Row___init__ T) (hr.mono (by decide)) (by rfl) T.g_Row T.b_Row___init__ .nil pass0 (pa_cons (pv 1) pa_nil)) (pa_cons (pe_make T.mk_Row (ok_Row___init__ T) (hr.mono (by decide)) (by rfl) T.g_Row T.b_Row___init__ .nil pass0 (pa_cons (pv 2) pa_nil)) (pa_cons (pe_make T.mk_Row (ok_Row___init__ T) (hr.mono (by decide)) (by rfl) T.g_Row T.b_Row___init__ .nil pass0 (pa_cons (pv 3) pa_nil)) pa_nil))) (by rfl))
      (pss_cons (ps_if (PW.pt (pw_or (pt_cmpR (op_neD hr.units) (pe_meth0 (pe_op (op_own2 T.first_Row T.me_Row___add__.at_ T.me_Row___add__.fn (ok_Row___add__ T) (hr.mono (by decide)) T.b_Row___add__ pass0) (pv 5) (pv 6)) T.cl_Row T.me_Row_pairs (ok_Row_pairs T) (hr.mono (by decide)) T.b_Row_pairs .nil pass0) (pe_call (ok__law_plain T) (hr.mono (by decide)) (by rfl) T.g__law_plain T.F__law_plain.kp T.b__law_plain .nil pass0 (pa_cons (pe_op op_cat (pv 1) (pv 2)) pa_nil)) (nomark _)) (pw_or1 (pt_cmpR (op_neD hr.units) (pe_meth0 (pe_op (op_own2 T.first_Row T.me_Row___mul__.at_ T.me_Row___mul__.fn (ok_Row___mul__ T) (hr.mono (by decide)) T.b_Row___mul__ pass0) (pv 5) (pv 6)) T.cl_Row T.me_Row_pairs (ok_Row_pairs T) (hr.mono (by decide)) T.b_Row_pairs .nil pass0) (pe_call (ok__law_product T) (hr.mono (by decide)) (by rfl) T.g__law_product T.F__law_product.kp T.b__law_product .nil pass0 (pa_cons (pv 1) (pa_cons (pv 2) pa_nil))) (nomark _))))) (pss_one (ps_ret pe_bl)) pss_nil)
      (pss_cons (ps_if (PW.pt (pw_or (pt_cmpR (op_ownNe (E := E0) T.ne_Row (ok_Row___eq__ T) (hr.mono (by decide)) T.b_Row___eq__ (fun _ _ _ _ z => z)) (pe_op (op_own2 T.first_Row T.me_Row___mul__.at_ T.me_Row___mul__.fn (ok_Row___mul__ T) (hr.mono (by decide)) T.b_Row___mul__ pass0) (pv 5) (pv 6)) (pe_op (op_own2 T.first_Row T.me_Row___mul__.at_ T.me_Row___mul__.fn (ok_Row___mul__ T) (hr.mono (by decide)) T.b_Row___mul__ pass0) (pv 6) (pv 5)) (nomark _)) (pw_or1 (pt_cmpR (op_ownNe (E := E0) T.ne_Row (ok_Row___eq__ T) (hr.mono (by decide)) T.b_Row___eq__ (fun _ _ _ _ z => z)) (pe_op (op_own2 T.first_Row T.me_Row___add__.at_ T.me_Row___add__.fn (ok_Row___add__ T) (hr.mono (by decide)) T.b_Row___add__ pass0) (pv 5) (pv 6)) (pe_op (op_own2 T.first_Row T.me_Row___add__.at_ T.me_Row___add__.fn (ok_Row___add__ T) (hr.mono (by decide)) T.b_Row___add__ pass0) (pv 6) (pv 5)) (nomark _))))) (pss_one (ps_ret pe_bl)) pss_nil)
      (pss_cons (ps_if (PW.pt (pw_or (pt_cmpR (op_ownNe (E := E0) T.ne_Row (ok_Row___eq__ T) (hr.mono (by decide)) T.b_Row___eq__ (fun _ _ _ _ z => z)) (pe_op (op_own2 T.first_Row T.me_Row___mul__.at_ T.me_Row___mul__.fn (ok_Row___mul__ T) (hr.mono (by decide)) T.b_Row___mul__ pass0) (pe_op (op_own2 T.first_Row T.me_Row___mul__.at_ T.me_Row___mul__.fn (ok_Row___mul__ T) (hr.mono (by decide)) T.b_Row___mul__ pass0) (pv 5) (pv 6)) (pv 7)) (pe_op (op_own2 T.first_Row T.me_Row___mul__.at_ T.me_Row___mul__.fn (ok_Row___mul__ T) (hr.mono (by decide)) T.b_Row___mul__ pass0) (pv 5) (pe_op (op_own2 T.first_Row T.me_Row___mul__.at_ T.me_Row___mul__.fn (ok_Row___mul__ T) (hr.mono (by decide)) T.b_Row___mul__ pass0) (pv 6) (pv 7))) (nomark _)) (pw_or1 (pt_cmpR (op_ownNe (E := E0) T.ne_Row (ok_Row___eq__ T) (hr.mono (by decide)) T.b_Row___eq__ (fun _ _ _ _ z => z)) (pe_op (op_own2 T.first_Row T.me_Row___mul__.at_ T.me_Row___mul__.fn (ok_Row___mul__ T) (hr.mono (by decide)) T.b_Row___mul__ pass0) (pv 5) (pe_op (op_own2 T.first_Row T.me_Row___add__.at_ T.me_Row___add__.fn (ok_Row___add__ T) (hr.mono (by decide)) T.b_Row___add__ pass0) (pv 6) (pv 7))) (pe_op (op_own2 T.first_Row T.me_Row___add__.at_ T.me_Row___add__.fn (ok_Row___add__ T) (hr.mono (by decide)) T.b_Row___add__ pass0) (pe_op (op_own2 T.first_Row T.me_Row___mul__.at_ T.me_Row___mul__.fn (ok_Row___mul__ T) (hr.mono (by decide)) T.b_Row___mul__ pass0) (pv 5) (pv 6)) (pe_op (op_own2 T.first_Row T.me_Row___mul__.at_ T.me_Row___mul__.fn (ok_Row___mul__ T) (hr.mono (by decide)) T.b_Row___mul__ pass0) (pv 5) (pv 7))) (nomark _))))) (pss_one (ps_ret pe_bl)) pss_nil)
      (pss_cons (ps_set (i := 8) sc__law_right.nd rfl (.inl rfl) (pe_op op_cat (pe_lc (own := [("pair", 10)]) rfl sc__law_right.nd (pi_list (pe_op op_cat (pe_op op_cat (pv 1) (pv 2)) (pv 3))) (blkOk_by (N := ["bag", "one", "two", "three", "tick", "here", "there", "third", "numbers", "k", "pair"]) (sc := defScope s__law_right) (by decide +kernel)) (fun _ _ _ _ _ => (pg_name (i := 10) sc__law_right.nd rfl (.inl rfl) (hf := .inr rfl))) (fun _ _ _ _ _ => pts_nil) (fun _ _ _ _ _ => (pe_ix (show IxR _ (rIxT K) from ix_tup) (pv 10) pe_int (fun _ _ => rfl)))) (pe_lst (pa_cons (pe_tup (pa_cons pe_int (pa_cons pe_int pa_nil))) (pa_cons (pe_tup (pa_cons pe_int (pa_cons pe_int pa_nil))) pa_nil)))))
      (pss_one (ps_ret (pe_call (ok__law_fractions_right T) (hr.mono (by decide)) (by rfl) T.g__law_fractions_right T.F__law_fractions_right.kp T.b__law_fractions_right .nil pass0 (pa_cons (pe_ix ix_list (pv 8) (pe_call (ok__law_draw T) (hr.mono (by decide)) (by rfl) T.g__law_draw T.F__law_draw.kp T.b__law_draw .nil pass0 (pa_cons (pv 0) (pa_cons (pe_callB call_len_seq (by rfl) T.m_len (by decide +kernel) (pa_cons (pv 8) pa_nil)) pa_nil))) (fun _ _ => rfl)) (pa_cons (pe_ix ix_list (pv 8) (pe_call (ok__law_draw T) (hr.mono (by decide)) (by rfl) T.g__law_draw T.F__law_draw.kp T.b__law_draw .nil pass0 (pa_cons (pv 0) (pa_cons (pe_callB call_len_seq (by rfl) T.m_len (by decide +kernel) (pa_cons (pv 8) pa_nil)) pa_nil))) (fun _ _ => rfl)) pa_nil))))))))))))), ?_⟩)
  · obtain ⟨b, c, d, rfl, _⟩ := h
    rfl
  · obtain ⟨bg, c0, d0, rfl, hb, d1, d2, hQ⟩ := h
    have l64 := line64
    refine ⟨3, rfl, by decide, by decide, fun D hD => ?_⟩
    have Db : D ≠ bg := fun e => by subst e; unfold BagAt at hb; rw [hD] at hb; cases hb
    refine lc_range (lo := 0) (n := 3) (fun i H' => Sb bg H H' ∧ (∃ cc dd, BagAt H' bg cc dd ∧ 0 ≤ dd ∧ dd ≤ d0 + 16 * i) ∧ ∃ acc rs, H' D = some (.lst acc) ∧ LsV K H' bg D acc rs ∧ acc.length = i) ⟨Sb.of (same_new hD), ⟨c0, d0, by unfold BagAt; rw [upd_ne Db.symm]; exact hb, by omega, by omega⟩, [], [], upd_same, .nil, rfl⟩ ?_ ?_
    · rintro i H' hi ⟨sb, ⟨cc, dd, hB, e1, e2⟩, acc, rs, hA, hL, hlen⟩
      refine ⟨rfl, ?_⟩
      refine ⟨_, rfl, bg, cc, dd, rfl, hB, by omega, by omega, fun p xs ps H2 c' d' sb2 hB2 f0 f1 np hl hP g => ?_⟩
      have pb : p ≠ bg := fun e => by subst e; unfold BagAt at hB; rw [np] at hB; cases hB
      have pD : p ≠ D := fun e => by subst e; rw [np] at hA; cases hA
      have hA2 := sb2 _ _ hA Db
      have tk2 := sb_tk hB sb2
      refine ⟨acc, hA2, by omega, sb_mut (sb.trans sb2) hD, ⟨c', d', ?_, by omega, by omega⟩, acc ++ [.ref p], rs ++ [ps], upd_same, ?_, by rw [List.length_append, List.length_singleton]; omega⟩
      · unfold BagAt; rw [upd_ne Db.symm]; exact hB2
      · exact lsV_upd hA2 (pApp (lsV_sb sb2 tk2 hL) (.cons ⟨p, xs, rfl, pb, pD, hl, hP, g⟩ .nil))
    rintro H1 ⟨sb1, ⟨c1, dd, hB1, e1, e2⟩, acc, rs, hA, hL, hlen⟩
    cases hL with
    | nil => simp at hlen
    | cons l1 hL =>
    cases hL with
    | nil => simp at hlen
    | cons l2 hL =>
    cases hL with
    | nil => simp at hlen
    | cons l3 hL =>
    cases hL with
    | cons _ _ => simp at hlen
    | nil =>
    obtain ⟨p1, xs1, rfl, n1, m1, h1, P1, ga⟩ := l1
    obtain ⟨p2, xs2, rfl, n2, m2, h2, P2, gb⟩ := l2
    obtain ⟨p3, xs3, rfl, n3, m3, h3, P3, gc⟩ := l3
    rename_i a b c
    refine ⟨D, _, rfl, sqL_of hA, rfl, _, _, rfl, _, _, rfl, _, _, rfl, rfl, ?_⟩
    refine ⟨_, rfl, bg, c1, dd, 6, rfl, hB1, by omega, by omega, by decide, by decide, fun n c2 r0 r1 => ?_⟩
    have tk1 : TK H1 (upd H1 bg (.lst [.int c2, .int (dd + 1)])) := tk_lst hB1
    have W : W3 K (upd H1 bg (.lst [.int c2, .int (dd + 1)])) p1 p2 p3 xs1 xs2 xs3 a b c := ⟨by rw [upd_ne n1]; exact h1, prsV_tk P1 tk1, by rw [upd_ne n2]; exact h2, prsV_tk P2 tk1, by rw [upd_ne n3]; exact h3, prsV_tk P3 tk1⟩
    have hB : BagAt (upd H1 bg (.lst [.int c2, .int (dd + 1)])) bg c2 (dd + 1) := upd_same
    have sb : Sb bg H (upd H1 bg (.lst [.int c2, .int (dd + 1)])) := sb1.trans Sb.upd
    generalize upd H1 bg (.lst [.int c2, .int (dd + 1)]) = H2 at *
    have la := pLen P1; have lb := pLen P2; have lc := pLen P3
    have la5 := ga.len; have lb5 := gb.len; have lc5 := gc.len
    clear h1 P1 h2 P2 h3 P3 tk1 hA hB1 sb1
    refine ⟨_, rfl, _, rfl, p1, xs1, a, n, rfl, sqL_of W.h1, W.P1, ga.s, r0, by omega, fun H3 s3 => ⟨_, rfl, iteF ?_⟩⟩
    replace W := W.same s3; replace hB := s3 _ _ hB; replace sb := sb.trans (Sb.of s3)
    refine ⟨_, rfl, _, rfl, p1, xs1, a, p2, xs2, b, rfl, sqL_of W.h1, W.P1, sqL_of W.h2, W.P2, ga.s.q, gb.s.q, ga.prq gb, fun p zs H4 s4 _ hz hP => ?_⟩
    refine ⟨_, rfl, p, zs, _, n, rfl, sqL_of hz, hP, ga.prs gb, r0, by omega, fun H5 s5 => ⟨_, rfl, iteF ?_⟩⟩
    have s45 := s4.trans s5
    replace W := W.same s45; replace hB := s45 _ _ hB; replace sb := sb.trans (Sb.of s45)
    clear s3 s4 s5 s45 hz hP
    refine ⟨_, rfl, fun x1 y1 i1 i2 i3 => mk_row1 (sqL_of W.h1) W.P1 ga.s.q i1 i2 i3 fun H6 s6 RA6 => ?_⟩
    replace W := W.same s6; replace hB := s6 _ _ hB; replace sb := sb.trans (Sb.of s6)
    refine ⟨_, rfl, fun x2 y2 i1 i2 i3 => mk_row1 (sqL_of W.h2) W.P2 gb.s.q i1 i2 i3 fun H7 s7 RB7 => ?_⟩
    replace W := W.same s7; replace hB := s7 _ _ hB; replace sb := sb.trans (Sb.of s7)
    refine ⟨_, rfl, fun x3 y3 i1 i2 i3 => mk_row1 (sqL_of W.h3) W.P3 gc.s.q i1 i2 i3 fun H8 s8 RC8 => ?_⟩
    replace W := W.same s8; replace hB := s8 _ _ hB; replace sb := sb.trans (Sb.of s8)
    have R : R3 K H8 (.ref x1) (.ref x2) (.ref x3) a b c := ⟨rowAt_same RA6 (s7.trans s8), rowAt_same RB7 s8, RC8⟩
    clear s6 s7 s8 RA6 RB7 RC8
    refine ⟨_, _, _, rfl, ?_⟩
    -- the sum, the product, by pairs
    refine ⟨_, rfl, _, rfl, row2 R.A R.B ⟨_, _, _, _, rfl, R.A, R.B, ga.sumnq gb, fun v H9 s9 R9 => ?_⟩⟩
    refine rowm R9 (fun _ => rfl) ⟨_, _, rfl, R9, fun q zs H10 s10 _ hz hP => ?_⟩
    have s11 := s9.trans s10
    replace W := W.same s11; replace R := R.same s11; replace hB := s11 _ _ hB; replace sb := sb.trans (Sb.of s11)
    refine ⟨_, rfl, _, rfl, p1, p2, xs1, xs2, rfl, rfl, W.h1, W.h2, by omega, fun r hr' => ?_⟩
    have k1 := same_new (o := .lst (xs1 ++ xs2)) hr'
    refine ⟨r, _, a ++ b, rfl, sqL_of upd_same, pApp (prsV_tk W.P1 (same_tk k1)) (prsV_tk W.P2 (same_tk k1)), ga.sumq gb, fun r2 ws H11 s12 _ hw hP2 => ?_⟩
    have k2 := k1.trans s12
    refine ne_prs (k2 _ _ hz) (prsV_tk hP (same_tk k2)) hw hP2 (add_ok a b) ⟨_, rfl, iteF ?_⟩
    replace W := W.same k2; replace R := R.same k2; replace hB := k2 _ _ hB; replace sb := sb.trans (Sb.of k2)
    clear s9 s10 s11 k1 s12 k2 hz hP hw hP2 R9
    refine ⟨_, rfl, _, rfl, row2 R.A R.B ⟨_, _, _, _, rfl, R.A, R.B, ga.gq, gb.gq, ga.prnq gb, fun v H12 s9 R9 => ?_⟩⟩
    refine rowm R9 (fun _ => rfl) ⟨_, _, rfl, R9, fun q zs H13 s10 _ hz hP => ?_⟩
    have s11 := s9.trans s10
    replace W := W.same s11; replace R := R.same s11; replace hB := s11 _ _ hB; replace sb := sb.trans (Sb.of s11)
    refine ⟨_, rfl, _, rfl, p1, xs1, a, p2, xs2, b, rfl, sqL_of W.h1, W.P1, sqL_of W.h2, W.P2, ga.s.q, gb.s.q, ga.prq gb, fun r2 ws H14 s12 _ hw hP2 => ?_⟩
    refine ne_prs (s12 _ _ hz) (prsV_tk hP (same_tk s12)) hw hP2 (mul_ok a b) ⟨_, rfl, iteF ?_⟩
    replace W := W.same s12; replace R := R.same s12; replace hB := s12 _ _ hB; replace sb := sb.trans (Sb.of s12)
    clear s9 s10 s11 s12 hz hP hw hP2 R9
    -- exchanged
    refine ⟨_, rfl, _, rfl, row2 R.A R.B ⟨_, _, _, _, rfl, R.A, R.B, ga.gq, gb.gq, ga.prnq gb, fun v1 H15 s9 R9 => ?_⟩⟩
    replace W := W.same s9; replace R := R.same s9; replace hB := s9 _ _ hB; replace sb := sb.trans (Sb.of s9)
    refine ⟨_, rfl, _, rfl, row2 R.B R.A ⟨_, _, _, _, rfl, R.B, R.A, gb.gq, ga.gq, gb.prnq ga, fun v2 H16 s10 R10 => ?_⟩⟩
    refine rowNe (rowAt_same R9 s10) R10 (mul_comm' _ _) ⟨_, rfl, iteF ?_⟩
    replace W := W.same s10; replace R := R.same s10; replace hB := s10 _ _ hB; replace sb := sb.trans (Sb.of s10)
    clear s9 s10 R9 R10
    refine ⟨_, rfl, _, rfl, row2 R.A R.B ⟨_, _, _, _, rfl, R.A, R.B, ga.sumnq gb, fun v1 H17 s9 R9 => ?_⟩⟩
    replace W := W.same s9; replace R := R.same s9; replace hB := s9 _ _ hB; replace sb := sb.trans (Sb.of s9)
    refine ⟨_, rfl, _, rfl, row2 R.B R.A ⟨_, _, _, _, rfl, R.B, R.A, gb.sumnq ga, fun v2 H18 s10 R10 => ?_⟩⟩
    refine rowNe (rowAt_same R9 s10) R10 (add_comm' _ _) ⟨_, rfl, iteF ?_⟩
    replace W := W.same s10; replace R := R.same s10; replace hB := s10 _ _ hB; replace sb := sb.trans (Sb.of s10)
    clear s9 s10 R9 R10
    -- put together
    refine ⟨_, rfl, _, rfl, row2 R.A R.B ⟨_, _, _, _, rfl, R.A, R.B, ga.gq, gb.gq, ga.prnq gb, fun v1 H19 s9 R9 => ?_⟩⟩
    replace W := W.same s9; replace R := R.same s9; replace hB := s9 _ _ hB; replace sb := sb.trans (Sb.of s9)
    refine ⟨_, rfl, row2 R9 R.C ⟨_, _, _, _, rfl, R9, R.C, ga.prNq gb, gc.gq, ga.pr3 gb gc, fun v2 H20 s10 R10 => ?_⟩⟩
    replace W := W.same s10; replace R := R.same s10; replace hB := s10 _ _ hB; replace sb := sb.trans (Sb.of s10)
    refine ⟨_, rfl, _, rfl, _, rfl, row2 R.B R.C ⟨_, _, _, _, rfl, R.B, R.C, gb.gq, gc.gq, gb.prnq gc, fun v3 H21 s11 R11 => ?_⟩⟩
    replace W := W.same s11; replace R := R.same s11; replace hB := s11 _ _ hB; replace sb := sb.trans (Sb.of s11)
    refine row2 R.A R11 ⟨_, _, _, _, rfl, R.A, R11, ga.gq, gb.prNq gc, ga.pr3' gb gc, fun v4 H22 s12 R12 => ?_⟩
    replace W := W.same s12; replace R := R.same s12; replace hB := s12 _ _ hB; replace sb := sb.trans (Sb.of s12)
    refine rowNe (rowAt_same R10 (s11.trans s12)) R12 (mul_assoc' _ _ _) ⟨_, rfl, iteF ?_⟩
    clear s9 s10 s11 s12 R9 R10 R11 R12
    refine ⟨_, rfl, _, rfl, _, rfl, row2 R.B R.C ⟨_, _, _, _, rfl, R.B, R.C, gb.sumnq gc, fun v1 H23 s9 R9 => ?_⟩⟩
    replace W := W.same s9; replace R := R.same s9; replace hB := s9 _ _ hB; replace sb := sb.trans (Sb.of s9)
    refine row2 R.A R9 ⟨_, _, _, _, rfl, R.A, R9, ga.gq, gb.sumNq gc, ga.prs3 gb gc, fun v2 H24 s10 R10 => ?_⟩
    replace W := W.same s10; replace R := R.same s10; replace hB := s10 _ _ hB; replace sb := sb.trans (Sb.of s10)
    refine ⟨_, rfl, _, rfl, row2 R.A R.B ⟨_, _, _, _, rfl, R.A, R.B, ga.gq, gb.gq, ga.prnq gb, fun v3 H25 s11 R11 => ?_⟩⟩
    replace W := W.same s11; replace R := R.same s11; replace hB := s11 _ _ hB; replace sb := sb.trans (Sb.of s11)
    refine ⟨_, rfl, _, rfl, row2 R.A R.C ⟨_, _, _, _, rfl, R.A, R.C, ga.gq, gc.gq, ga.prnq gc, fun v4 H26 s12 R12 => ?_⟩⟩
    replace W := W.same s12; replace R := R.same s12; replace hB := s12 _ _ hB; replace sb := sb.trans (Sb.of s12)
    refine row2 (rowAt_same R11 s12) R12 ⟨_, _, _, _, rfl, rowAt_same R11 s12, R12, ga.spr3 gb gc, fun v5 H27 s13 R13 => ?_⟩
    replace W := W.same s13; replace R := R.same s13; replace hB := s13 _ _ hB; replace sb := sb.trans (Sb.of s13)
    refine rowNe (rowAt_same R10 ((s11.trans s12).trans s13)) R13 (mul_add' _ _ _) ⟨_, rfl, iteF ?_⟩
    clear s9 s10 s11 s12 s13 R9 R10 R11 R12 R13
    -- the numbers
    refine ⟨_, rfl, _, rfl, p1, p2, xs1, xs2, rfl, rfl, W.h1, W.h2, by omega, fun q1 hq1 => ?_⟩
    have k1 := same_new (o := .lst (xs1 ++ xs2)) hq1
    refine ⟨_, rfl, q1, p3, _, xs3, rfl, rfl, upd_same, k1 _ _ W.h3, by rw [List.length_append]; omega, fun q2 hq2 => ?_⟩
    have k2 := k1.trans (same_new (o := .lst (xs1 ++ xs2 ++ xs3)) hq2)
    replace W := W.same k2; replace R := R.same k2; replace hB := k2 _ _ hB; replace sb := sb.trans (Sb.of k2)
    have hP : PrsV K _ (xs1 ++ xs2 ++ xs3) (a ++ b ++ c) := pApp (pApp W.P1 W.P2) W.P3
    have hq3 := upd_same (H := upd H27 q1 (.lst (xs1 ++ xs2))) (a := q2) (o := .lst (xs1 ++ xs2 ++ xs3))
    generalize upd (upd H27 q1 (.lst (xs1 ++ xs2))) q2 (.lst (xs1 ++ xs2 ++ xs3)) = H28 at *
    have hlx : (xs1 ++ xs2 ++ xs3).length ≤ 15 := by rw [List.length_append, List.length_append]; omega
    refine ⟨q2, rfl, ⟨_, sqL_of hq3⟩, fun D2 hD2 => ?_⟩
    refine lc_list (xs := xs1 ++ xs2 ++ xs3) (fun i H' => Same H28 H' ∧ ∃ ws, H' D2 = some (.lst ws) ∧ Paired (FrV K H') ws (((a ++ b ++ c).take i).map (·.2)) ∧ ws.length = i) ⟨same_new hD2, [], upd_same, .nil, rfl⟩ (fun i H' _ q => sqL_of (q.1 _ _ hq3)) ?_ ?_
    · rintro i v H' hv ⟨sm, ws, hw, hPw, hwl⟩
      obtain ⟨q, hq, ⟨pa, y, rfl, Sp, fy⟩⟩ := pGet hP hv
      have i1 := (List.getElem?_eq_some_iff.mp hv).1
      refine ⟨rfl, ?_⟩
      refine ⟨_, rfl, pa, _, _, _, rfl, rfl, sqT_same Sp sm, rfl, ws, hw, by omega, same_mut sm hD2, _, upd_same, ?_, by rw [List.length_append, List.length_singleton, hwl]⟩
      rw [List.take_succ, hq, List.map_append]
      exact pApp (pImp (fun _ _ f => frV_tk f (tk_lst hw)) hPw) (.cons (frV_tk (frV_same fy sm) (tk_lst hw)) .nil)
    rintro H29 ⟨s29, ws, hw, hPw, hwl⟩
    rw [pLen hP, List.take_length] at hPw
    replace hB := s29 _ _ hB; replace sb := sb.trans (Sb.of s29)
    clear W R hP hq3
    refine ⟨two_le, fun t1 ht1 => ⟨two_le, fun t2 ht2 => ⟨two_le, fun l2 hl2 => ?_⟩⟩⟩
    have j1 := same_new (o := .tup [.int 0, .int 1]) ht1
    have j2 := same_new (o := .tup [.int 1, .int 2]) ht2
    have j3 := same_new (o := .lst [.ref t1, .ref t2]) hl2
    have j := (j1.trans j2).trans j3
    refine ⟨D2, l2, ws, _, rfl, rfl, j _ _ hw, upd_same, by show ws.length + 2 ≤ sizeLine; omega, fun nl hnl => ?_⟩
    have j4 := j.trans (same_new (o := .lst (ws ++ [.ref t1, .ref t2])) hnl)
    have hN := upd_same (H := upd (upd (upd H29 t1 (.tup [.int 0, .int 1])) t2 (.tup [.int 1, .int 2])) l2 (.lst [.ref t1, .ref t2])) (a := nl) (o := .lst (ws ++ [.ref t1, .ref t2]))
    have hF : Paired (FrV K (upd (upd (upd (upd H29 t1 (.tup [.int 0, .int 1])) t2 (.tup [.int 1, .int 2])) l2 (.lst [.ref t1, .ref t2])) nl (.lst (ws ++ [.ref t1, .ref t2])))) (ws ++ [.ref t1, .ref t2]) ((a ++ b ++ c).map (·.2) ++ [0, half]) := by
      have z := same_new (H := upd (upd (upd H29 t1 (.tup [.int 0, .int 1])) t2 (.tup [.int 1, .int 2])) l2 (.lst [.ref t1, .ref t2])) (o := .lst (ws ++ [.ref t1, .ref t2])) hnl
      refine pApp (pImp (fun _ _ f => frV_same f j4) hPw) (.cons (frV_same (frV_tup (q := 0) upd_same rfl rfl) ((j2.trans j3).trans z)) (.cons (frV_same (frV_tup (q := half) upd_same rfl rfl) (j3.trans z)) .nil))
    replace hB := j4 _ _ hB; replace sb := sb.trans (Sb.of j4)
    generalize upd (upd (upd (upd H29 t1 (.tup [.int 0, .int 1])) t2 (.tup [.int 1, .int 2])) l2 (.lst [.ref t1, .ref t2])) nl (.lst (ws ++ [.ref t1, .ref t2])) = H30 at *
    clear j1 j2 j3 j j4 hw hPw
    have nb : nl ≠ bg := fun e => by
      subst e
      rw [hN] at hB
      have := congrArg List.length (HO.lst.inj (Option.some.inj hB))
      rw [List.length_append] at this
      have e2 := List.append_inj_right' (s₁ := ws) (t₁ := [V.ref t1, V.ref t2]) (s₂ := []) (t₂ := [V.int c2, V.int (dd + 1)]) (HO.lst.inj (Option.some.inj hB)) rfl
      cases e2
    have hall : ∀ q ∈ (a ++ b ++ c).map (·.2) ++ [0, half], B 300 q := by
      intro q hq
      rcases List.mem_append.mp hq with h | h
      · obtain ⟨p, hp, rfl⟩ := List.mem_map.mp h
        rcases List.mem_append.mp hp with h | h
        · rcases List.mem_append.mp h with h | h
          · exact Gp.mem ga p h
          · exact Gp.mem gb p h
        · exact Gp.mem gc p h
      · have h1 : B 2 (0 : Rat) := ⟨by decide, by decide⟩
        have h2 : B 2 half := ⟨by decide, by decide⟩
        rcases List.mem_cons.mp h with rfl | h
        · exact h1.mono (by decide)
        · rw [List.mem_singleton] at h
          subst h
          exact h2.mono (by decide)
    generalize (a ++ b ++ c).map (·.2) ++ [0, half] = qs at *
    have hnl' : (ws ++ [V.ref t1, V.ref t2]).length = ws.length + 2 := by rw [List.length_append]; rfl
    generalize ws ++ [V.ref t1, V.ref t2] = ns at *
    refine ⟨_, rfl, _, rfl, _, rfl, nl, ns, rfl, .inl (sqL_of hN), bg, c2, dd + 1, _, rfl, hB, by omega, by omega, by omega, by omega, fun r c3 w0 w1 => ?_⟩
    obtain ⟨j, rfl⟩ : ∃ j : Nat, r = j := ⟨r.toNat, by omega⟩
    obtain ⟨v, hv⟩ : ∃ v, ns[j]? = some v := ⟨_, List.getElem?_eq_getElem (by omega)⟩
    obtain ⟨q, hq, fq⟩ := pGet hF hv
    have tkA : TK H30 (upd H30 bg (.lst [.int c3, .int (dd + 1 + 1)])) := tk_lst hB
    have hN2 : upd H30 bg (.lst [.int c3, .int (dd + 1 + 1)]) nl = some (.lst ns) := by rw [upd_ne nb]; exact hN
    refine ⟨nl, ns, _, v, rfl, rfl, sqL_of hN2, atI_nat hv, ?_⟩
    refine ⟨_, rfl, _, rfl, _, rfl, nl, ns, rfl, .inl (sqL_of hN2), bg, c3, dd + 1 + 1, _, rfl, upd_same, by omega, by omega, by omega, by omega, fun r2 c4 w2 w3 => ?_⟩
    rw [upd_upd]
    obtain ⟨j2, rfl⟩ : ∃ j : Nat, r2 = j := ⟨r2.toNat, by omega⟩
    obtain ⟨v2, hv2⟩ : ∃ v, ns[j2]? = some v := ⟨_, List.getElem?_eq_getElem (by omega)⟩
    obtain ⟨q2', hq2', fq2⟩ := pGet hF hv2
    have tkB : TK H30 (upd H30 bg (.lst [.int c4, .int (dd + 1 + 1 + 1)])) := tk_lst hB
    have hN3 : upd H30 bg (.lst [.int c4, .int (dd + 1 + 1 + 1)]) nl = some (.lst ns) := by rw [upd_ne nb]; exact hN
    refine ⟨nl, ns, _, v2, rfl, rfl, sqL_of hN3, atI_nat hv2, ?_⟩
    exact ⟨v, v2, q, q2', rfl, frV_tk fq tkB, frV_tk fq2 tkB, hall q (List.mem_of_getElem? hq), hall q2' (List.mem_of_getElem? hq2'), fun H' s' => hQ H' ((sb.trans Sb.upd).trans (Sb.of s'))⟩
end
end L86
set_option maxRecDepth 100000
set_option maxHeartbeats 4000000
namespace L86
open PySem PySem.Spec PyProof.Rows L2 Q7
section
variable {P : Program} {w : World} {K : PySem.W.Frag} {mg : Str → Option Value} {base : Heap}
/-! ### the law -/
def spLaw (K : PySem.W.Frag) : Sp := fun vs H Q _ => ∃ (a : Addr) (ns : List Int), vs = [.ref a] ∧ SqL K H a (ns.map V.int) ∧ ns.length ≤ 63 ∧ ∀ H', Q (.bl true) H'
theorem eqv_nil (ns : List Int) : PyData.eqv (.list (ns.map PyData.int)) (.list []) = ns.isEmpty := by
  cases ns with
  | nil => simp [PyData.eqv, PyData.eqvAll]
  | cons n r => simp [PyData.eqv, PyData.eqvAll]
theorem cut8 (ns : List Int) : cutV (ns.map V.int) none (some 8) = (ns.take 8).map V.int := by
  unfold cutV
  rw [HT.sIx_none, show (8 : Int) = ((8 : Nat) : Int) from rfl, HT.sIx_nat, List.drop_zero, List.map_take, Nat.sub_zero, List.length_map]
  by_cases h : ns.length ≤ 8
  · rw [List.take_of_length_le (by rw [List.length_map]; omega), List.take_of_length_le (by rw [List.length_map]; omega)]
  · rw [Nat.min_eq_left (by omega)]
theorem rep_ints (k : Nat) : (List.replicate k [V.int 0]).flatten = (List.replicate k (0 : Int)).map V.int := by
  induction k with
  | zero => rfl
  | succ n ih => rw [List.replicate_succ, List.flatten_cons, ih, List.replicate_succ]; rfl
theorem ok_law (T : Txt K mg) : FnOk P w K mg base CX0 9 (He.ga K "law") T.fd_law ["script"] (spLaw K) := by
  refine T.F_law.ok sc_law (fun vs H Q E h => ?_) (fun cdv A outer s H vs Q E hr h => ⟨_, PSs.nox
    (pss_cons (ps_set (i := 1) sc_law.nd rfl (.inl rfl) (pe_op op_cat (pe_slice sl_list (pv 0) po_none (po_some pe_int)) (pe_op op_rep (pe_lst (pa_cons pe_int pa_nil)) (pe_callTy call_int1 (by rfl) T.m_int (by decide +kernel) (pa_cons (pe_cmpR (op_eqD hr.units) (pv 0) (pe_lst pa_nil) (nomark _)) pa_nil)))))
      (pss_cons (ps_for PassesOwn.never rfl (pi_range1 (by rfl) T.m_range (pa_cons (pe_callB call_len_seq (by rfl) T.m_len (by decide +kernel) (pa_cons (pv 1) pa_nil)) pa_nil)) (pg_name (i := 2) sc_law.nd rfl (.inl rfl)) (pss_one (ps_if (pt_not (pt_val (pe_call (ok__law_right T) (hr.mono (by decide)) (by rfl) T.g__law_right T.F__law_right.kp T.b__law_right .nil pass0 (pa_cons (pe_call (ok__law_bag T) (hr.mono (by decide)) (by rfl) T.g__law_bag T.F__law_bag.kp T.b__law_bag .nil pass0 (pa_cons (pe_ix ix_list (pv 1) (pv 2) (fun _ _ => rfl)) (pa_cons (pv 2) pa_nil))) pa_nil)))) (pss_one (ps_ret pe_bl)) pss_nil)))
      (pss_one (ps_ret pe_bl)))), ?_⟩)
  · obtain ⟨a, ns, rfl, _⟩ := h
    rfl
  · obtain ⟨a, ns, rfl, S, hl, hQ⟩ := h
    have l64 := line64
    refine ⟨_, rfl, _, rfl, a, _, rfl, S, fun p hp => ?_⟩
    have s1 := same_new (o := .lst (cutV (ns.map V.int) none (some 8))) hp
    refine ⟨by decide, fun z hz => ?_⟩
    have s2 := s1.trans (same_new (o := .lst [.int 0]) hz)
    refine ⟨_, rfl, by decide, fun e he => ?_⟩
    have s3 := s2.trans (same_new (o := .lst []) he)
    refine ⟨_, _, .lst (sqL_same S s3) (dp_ints ns), .lst (sqL_of upd_same) .nil, sh_ints ns, by decide, ?_⟩
    have bk : ∀ x : Bool, (0 : Int) ≤ (if x = true then 1 else 0) ∧ (if x = true then (1 : Int) else 0) ≤ 1 := fun x => by cases x <;> decide
    have hz3 := same_new (o := .lst []) he z _ upd_same
    have hp3 := ((same_new (o := .lst [.int 0]) hz).trans (same_new (o := .lst []) he)) p _ upd_same
    have b1 := bk (PyData.eqv (.list (ns.map PyData.int)) (.list []))
    generalize (if PyData.eqv (.list (ns.map PyData.int)) (.list []) = true then (1 : Int) else 0) = kk at b1
    refine .inr ⟨_, rfl, z, _, _, rfl, rfl, hz3, ?_, ?_, ?_, fun q hq => ⟨p, q, _, _, rfl, rfl, same_new hq _ _ hp3, upd_same, ?_, fun m hm => ?_⟩⟩
    · have := (bk (PyData.eqv (.list (ns.map PyData.int)) (.list []))).1; omega
    · have := (bk (PyData.eqv (.list (ns.map PyData.int)) (.list []))).2; omega
    · have := (bk (PyData.eqv (.list (ns.map PyData.int)) (.list []))).2
      show 1 * _ ≤ _
      omega
    · have := (bk (PyData.eqv (.list (ns.map PyData.int)) (.list []))).2
      rw [rep_ints, List.length_map, List.length_replicate]
      have h1 := cutV_length (ns.map V.int) none (some 8)
      rw [List.length_map] at h1
      omega
    have hm2 := upd_same (H := upd (upd (upd (upd H p (.lst (cutV (ns.map V.int) none (some 8)))) z (.lst [.int 0])) e (.lst [])) q (.lst (List.replicate (if PyData.eqv (.list (ns.map PyData.int)) (.list []) = true then (1 : Int) else 0).toNat [V.int 0]).flatten)) (a := m) (o := .lst (cutV (ns.map V.int) none (some 8) ++ (List.replicate (if PyData.eqv (.list (ns.map PyData.int)) (.list []) = true then (1 : Int) else 0).toNat [V.int 0]).flatten))
    have b2 := bk (PyData.eqv (.list (ns.map PyData.int)) (.list []))
    obtain ⟨cs, hcs, hcl⟩ : ∃ cs : List Int, cutV (ns.map V.int) none (some 8) ++ (List.replicate (if PyData.eqv (.list (ns.map PyData.int)) (.list []) = true then (1 : Int) else 0).toNat [V.int 0]).flatten = cs.map V.int ∧ cs.length ≤ 64 := by
      refine ⟨ns.take 8 ++ List.replicate (if PyData.eqv (.list (ns.map PyData.int)) (.list []) = true then (1 : Int) else 0).toNat (0 : Int), ?_, ?_⟩
      · rw [cut8, rep_ints, List.map_append]
      · rw [List.length_append, List.length_replicate, List.length_take]; omega
    rw [hcs] at hm2 ⊢
    generalize upd (upd (upd (upd (upd H p (.lst (cutV (ns.map V.int) none (some 8)))) z (.lst [.int 0])) e (.lst [])) q (.lst (List.replicate (if PyData.eqv (.list (ns.map PyData.int)) (.list []) = true then (1 : Int) else 0).toNat [V.int 0]).flatten)) m (.lst (cs.map V.int)) = H5 at *
    refine ⟨_, rfl, m, _, rfl, .inl (sqL_of hm2), ((cs.map V.int).length : Int), rfl, by omega, by rw [List.length_map]; omega, ?_⟩
    refine for_range (lo := 0) (n := ((cs.map V.int).length : Int).toNat) (fun i σ H' => H' m = some (.lst (cs.map V.int)) ∧ ∃ y, σ = [some (.ref a), some (.ref m), y]) ⟨hm2, _, rfl⟩ ?_ ?_
    · rintro i σ H' hi ⟨hM, y, rfl⟩
      rw [Int.zero_add]
      have hi2 : i < cs.length := by rw [List.length_map] at hi; omega
      have hv : (cs.map V.int)[i]? = some (.int cs[i]) := by rw [List.getElem?_map, List.getElem?_eq_getElem hi2]; rfl
      refine ⟨_, rfl, _, rfl, m, _, _, _, rfl, rfl, sqL_of hM, atI_nat hv, _, rfl, _, _, rfl, by omega, by omega, fun b d hb d0 d1 => ?_⟩
      have mb : m ≠ b := ne_of_none hM hb
      refine ⟨b, _, d, rfl, upd_same, d0, by omega, fun H2 sb => ⟨_, rfl, iteF ?_⟩⟩
      exact ⟨sb _ _ (by rw [upd_ne mb]; exact hM) mb, _, rfl⟩
    · rintro σ H' ⟨hM, y, rfl⟩
      exact hQ H'
end
end L86
set_option maxRecDepth 100000
set_option maxHeartbeats 4000000
namespace L86
open PySem PySem.Spec PyProof.Rows L2 Q7
section
variable {P : Program} {w : World} {K : PySem.W.Frag} {mg : Str → Option Value} {base : Heap}
/-! ### the head -/
abbrev R : PySem.W.OpenRow := PySem.W.OpenLaw.row PySem.Challenge.rw_prepaidplans_k86_whole_row_algebra
abbrev hk : PySem.W.Hook := hookX 6 fas fns exs
def ob (s : PySem.W.SharedT) : He.AlD × Bool := obX 6 fas fns exs (HandSHeadRun.getT s)
theorem ob_eq (s : PySem.W.SharedT) : ob s = hk.obs s.abs := obX_eq (HandSHeadRun.getT_eq s)
def loose0 : List Str := ["is_whole", "is_tick", "is_fraction", "fraction", "plus", "minus", "times", "over", "is_less", "sum_of", "_check_fractions", "_reduced", "_sum", "_product", "_is_pair", "_check_tick", "_check_row", "_law_bag", "_law_draw", "_law_low", "_law_pairs", "_law_added", "_law_times", "_law_plain", "_law_product", "_law_sum", "_law_one_right", "_law_fractions_right", "_law_right", "PlanError"]
def loose1 : List Str := ["InvalidFraction", "InvalidRow", "InvalidTick", "Row", "ZERO", "gcd"]
def looses : List Str := loose0 ++ loose1
set_option maxHeartbeats 0 in
theorem run (w : World) : HandSHeadRun.RunEqI R (PySem.W.view R.prog [40]) hk ob 6000 looses w := by
  unfold HandSHeadRun.RunEqI
  kernel_rfl
theorem fin {h : Heap} {f : Addr} (X : K.In h) (G : h.Ns mainGlobals mg) (hfa : mg ("law" : Str) = some (.ref f)) (c : He.SaysD fas fns K) (x : (exs.all fun f => f K) = true) :
    ∃ fd : FuncData, (∀ (s : Shared) (v : Value), BindsTo s fd ⟨[v], []⟩ [("script", v)]) ∧ ∀ base : Heap, K.In base → base.Ns mainGlobals mg → FnOk P w K mg base CX0 9 f fd ["script"] (spLaw K) := by
  obtain ⟨T⟩ := txt X G c x
  have e := hfa.symm.trans T.g_law
  cases e
  have b := FunD.bindsA (ps := ["script"]) T.F_law fun _ _ _ _ _ _ us hl => match us, hl with | [_], _ => rfl
  exact ⟨T.fd_law, fun s v => b s [v] rfl, fun base _ _ => ok_law T⟩
end
end L86
open PySem PySem.W PySem.Calls PyProof.Rows
theorem PySem.Challenge.cw_prepaidplans_k86_whole_row_algebra_holds : PySem.Challenge.rw_prepaidplans_k86_whole_row_algebra.Holds := by
  w_on; o_law
  refine HandSHeadRun.head_imp (r := OpenLaw.row PySem.Challenge.rw_prepaidplans_k86_whole_row_algebra) (q := view (OpenLaw.row PySem.Challenge.rw_prepaidplans_k86_whole_row_algebra).prog [40]) (H := L86.hk) (ob := L86.ob) (M := 6000) (loose := L86.looses) (d := HandSHeadRun.topDef (OpenLaw.row PySem.Challenge.rw_prepaidplans_k86_whole_row_algebra).prog 40) (kwd := []) L86.ob_eq
    L86.run (by kernel_rfl) (by kernel_rfl) (by kernel_rfl) (by rfl) (by first | assumption | decide +kernel) (by decide +kernel) ⟨rfl, rfl, rfl, rfl, rfl, by decide +kernel⟩ ?hw ?hc
  case hw => w_witness2
  case hc =>
    refine L2.walk_ofE (l := PySem.Challenge.rw_prepaidplans_k86_whole_row_algebra) (n := 63) (k := 9) (x := "script") (CX := L2.CX0) rfl (by decide) (by kernel_rfl) ⟨rfl, by decide, by decide⟩ ?F (fun _ _ _ _ z => z)
    intro w mg fa h Y G hmg0
    obtain ⟨K, KX, c, x⟩ := Y
    have hmg : mg ("law" : PySem.Str) = some (.ref fa) := by
      have e : (HandSHeadRun.topDef (OpenLaw.row PySem.Challenge.rw_prepaidplans_k86_whole_row_algebra).prog 40).name = ("law" : PySem.Str) := by kernel_rfl
      rw [← e]
      exact hmg0
    obtain ⟨fd, hb, hF⟩ := L86.fin (P := (PySem.Challenge.rw_prepaidplans_k86_whole_row_algebra).prog) (w := w) KX G hmg c x
    exact ⟨K, fd, L86.spLaw K, KX, hb, fun H a ns hl _ hS => ⟨a, ns, rfl, hS, hl, fun _ => rfl⟩, hF⟩
