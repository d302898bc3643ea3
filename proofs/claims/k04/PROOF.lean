import PyProof.Rows.All
import Wide.All
import OpenK.AllK
import Wide.FinOn
import HandS.ForMost
import HandS.RaiseMore
import HandS.Codes
import HandS.IsInst
import HandS.Walk
import HandS.Exc
import HandS.ExcIs
import HandS.ExcValue
import HandS.TryOnly
import HandS.WordsExc
import HandS.FStr
import HandS.Set
import HandS.SetFor
import HandS.SetTxt0
import PyProof.CollectStr
import HandS.Style
import PySem.Challenge.RW_looplearn_k04_loops
set_option Elab.async false
set_option linter.all false
section
set_option maxRecDepth 100000
set_option maxHeartbeats 2000000
/-! Rules of our own over the hand layer, and the law's bag. -/
namespace Lk
open PySem PySem.Spec PyProof.Rows L2
section
variable {X : Cx}
/-- repr of None, a truth -/
theorem call_repr_bool : CallR X (.builtin "repr") (fun xs H Q => ∃ b, xs = [.bl b] ∧ Q (.str (if b then "True" else "False")) H) := by
  intro pins s σ H xs us Q I r h
  obtain ⟨b, rfl, q⟩ := h
  obtain ⟨u, rfl, rfl⟩ := vals1 r
  exact PySem.P.repr_of_bool ⟨.str _, H, I.tok _, ⟨_, rfl⟩, q⟩
theorem call_repr_none : CallR X (.builtin "repr") (fun xs H Q => xs = [.non] ∧ Q (.str "None") H) := by
  intro pins s σ H xs us Q I r h
  obtain ⟨rfl, q⟩ := h
  obtain ⟨u, rfl, rfl⟩ := vals1 r
  exact PySem.P.repr_of_none ⟨.str _, H, I.tok _, ⟨_, rfl⟩, q⟩
end
/-! ### the bag -/
def bagO (b : Int × Int × Int) : HO := .lst [.int b.1, .int b.2.1, .int b.2.2]
section
variable {P : Program} {w : World} {K : PySem.W.Frag} {mg : Str → Option Value} {base : Heap}
def spBag : Sp := fun vs H Q _ => ∃ c : Int, vs = [.int c] ∧ ∀ p b, H p = none → Q (.ref p) (upd H p (bagO b))
def spPick : Sp := fun vs H Q _ => ∃ (a : Addr) (m : Int) (b : Int × Int × Int), vs = [.ref a, .int m] ∧ H a = some (bagO b) ∧ 0 < m ∧ m < 1073741824 ∧ ∀ v b', 0 ≤ v → v < m → Q (.int v) (upd H a (bagO b'))
end
end Lk
end
section
set_option maxRecDepth 100000
set_option maxHeartbeats 2000000
namespace Lk
open PySem PySem.Spec PyProof.Rows L2
def top (i : Nat) : Stmt := PySem.Challenge.pw_looplearn_k04_loops.main.body.getD i (.Pass ⟨0, 0, 0, 0⟩)
abbrev s_is_letters : Stmt := top 19
abbrev s_is_loop : Stmt := top 22
abbrev s_refuse_no_loop : Stmt := top 23
abbrev s_is_plain : Stmt := top 24
abbrev s_root : Stmt := top 25
abbrev s_turned : Stmt := top 26
abbrev s_alike_for : Stmt := top 27
abbrev s_law_bag : Stmt := top 29
abbrev s_law_pick : Stmt := top 30
abbrev s_law_some : Stmt := top 31
abbrev s_law_known : Stmt := top 32
abbrev s_law_class : Stmt := top 33
abbrev s_law_none : Stmt := top 34
abbrev s_law_loop : Stmt := top 35
abbrev s_law : Stmt := top 36
section
variable {P : Program} {w : World} {K : PySem.W.Frag} {mg : Str → Option Value} {base : Heap}
theorem sc_bag : FnScope ["cell"] ["cell"] (defScope s_law_bag) := ⟨rfl, rfl, rfl, by decide +kernel, rfl, by decide +kernel, by decide +kernel⟩
theorem ok_bag {f : Addr} {fd : FuncData} {k : Nat} (F : Fun K "_law_bag" "_law_bag" s_law_bag f fd) (mmax : mg "max" = none) : FnOk P w K mg base CX0 (k + 1) f fd ["cell"] spBag := by
  refine F.ok sc_bag (fun vs H Q E h => ?_) (fun cdv A outer s H vs Q E hr h => ?_)
  · obtain ⟨c, rfl, _⟩ := h
    rfl
  · obtain ⟨c, rfl, q⟩ := h
    refine ⟨_, pss_one (ps_ret (pe_lst (pa_cons (pe_callB (call_max2 rfl) (by rfl) mmax (by decide +kernel) (pa_cons pe_int (pa_cons (pe_op op_sub (pv 0) (pe_op op_pow pe_int pe_int)) pa_nil)))
      (pa_cons (pv 0) (pa_cons pe_int pa_nil))))), ?_⟩
    refine ⟨_, rfl, _, _, rfl, rfl, ⟨by decide, by decide, by decide⟩, _, _, rfl, rfl, _, _, rfl, ?_⟩
    refine ⟨_, rfl, (by show 3 ≤ sizeLine; decide), fun p hp => ?_⟩
    exact q p (_, _, _) hp
theorem sc_pick : FnScope ["bag", "many", "told", "first", "second"] ["bag", "many"] (defScope s_law_pick) := ⟨rfl, rfl, rfl, by decide +kernel, rfl, by decide +kernel, by decide +kernel⟩
theorem ok_pick {f : Addr} {fd : FuncData} {k : Nat} (F : Fun K "_law_pick" "_law_pick" s_law_pick f fd) : FnOk P w K mg base CX0 (k + 1) f fd ["bag", "many"] spPick := by
  refine F.ok sc_pick (fun vs H Q E h => ?_) (fun cdv A outer s H vs Q E hr h => ?_)
  · obtain ⟨a, m, b, rfl, _⟩ := h
    rfl
  · obtain ⟨a, m, b, rfl, hb, h0, h1, q⟩ := h
    obtain ⟨b0, b1, b2⟩ := b
    have nd := sc_pick.nd
    refine ⟨_, pss_cons (ps_asg (pe_op op_add (pe_ix ix_list (pv 0) pe_int (fun _ _ => rfl)) pe_int) (pg_sub (pv 0) pe_int set_list))
      (pss_cons (ps_if (pt_cmpR op_gt (pe_ix ix_list (pv 0) pe_int (fun _ _ => rfl)) pe_int (nomark _))
        (pss_cons (ps_set (i := 2) nd rfl (Or.inl rfl) (pe_op op_modN (pe_ix ix_list (pv 0) pe_int (fun _ _ => rfl)) (pv 1)))
        (pss_cons (ps_asg (pe_op op_fdivN (pe_ix ix_list (pv 0) pe_int (fun _ _ => rfl)) (pv 1)) (pg_sub (pv 0) pe_int set_list))
        (pss_one (ps_ret (pv 2))))) pss_nil)
      (pss_cons (ps_set (i := 3) nd rfl (Or.inl rfl) (pe_op op_mod (pe_op op_add (pe_op op_add (pe_op op_mul (pe_op op_mod (pe_ix ix_list (pv 0) pe_int (fun _ _ => rfl)) pe_int) pe_int)
          (pe_op op_mul (pe_ix ix_list (pv 0) pe_int (fun _ _ => rfl)) pe_int)) pe_int) pe_int))
      (pss_cons (ps_set (i := 4) nd rfl (Or.inl rfl) (pe_op op_mod (pe_op op_add (pe_op op_mul (pv 3) (pv 3)) (pe_op op_mul (pe_ix ix_list (pv 0) pe_int (fun _ _ => rfl)) pe_int)) pe_int))
      (pss_one (ps_ret (pe_op op_modN (pe_op op_fdiv (pe_op op_add (pe_op op_mul (pv 3) pe_int) (pv 4)) pe_int) (pv 1))))))), ?_⟩
    have g : ∀ o : HO, (upd H a o) a = some o := fun _ => upd_same
    -- bag[2] = bag[2] + 1
    refine ⟨_, rfl, a, _, 2, .int b2, rfl, rfl, SqL.of hb, rfl, _, _, rfl, rfl, _, rfl, a, _, 2, 2, rfl, rfl, hb, rfl, ?_⟩
    -- if bag[0] > 0
    refine ⟨_, rfl, a, _, 0, .int b0, rfl, rfl, SqL.of upd_same, rfl, _, _, rfl, rfl, _, rfl, ite2 (fun c => ?_) (fun c => ?_)⟩
    · refine ⟨_, rfl, a, _, 0, .int b0, rfl, rfl, SqL.of upd_same, rfl, _, rfl, _, _, rfl, rfl, (by omega), ?_⟩
      refine ⟨_, rfl, a, _, 0, .int b0, rfl, rfl, SqL.of upd_same, rfl, _, rfl, _, _, rfl, rfl, ⟨by omega, by omega⟩, _, rfl, a, _, 0, 0, rfl, rfl, upd_same, rfl, ?_⟩
      refine ⟨_, rfl, ?_⟩
      rw [upd_upd]
      exact q _ (b0.fdiv m, b1, b2 + 1) (Int.fmod_nonneg_of_pos _ h0) (Int.fmod_lt_of_pos _ h0)
    · refine ⟨_, rfl, a, _, 1, .int b1, rfl, rfl, SqL.of upd_same, rfl, _, _, rfl, rfl, (by show (0 : Int) < 2147483629; decide), _, _, rfl, rfl, .inr ⟨by decide, by decide⟩, ?_⟩
      refine ⟨_, rfl, a, _, 2, .int (b2 + 1), rfl, rfl, SqL.of upd_same, rfl, _, _, rfl, rfl, .inr ⟨by decide, by decide⟩, _, _, rfl, rfl, _, _, rfl, rfl, _, _, rfl, rfl, (by show (0 : Int) < 2147483647; decide), ?_⟩
      generalize hF : ((b1 % 2147483629 * 48271 + (b2 + 1) * 69621 + 12345) % 2147483647 : Int) = F1
      have hF0 : 0 ≤ F1 := by rw [← hF]; exact Int.emod_nonneg _ (by decide)
      have hF1 : F1 < 2147483647 := by rw [← hF]; exact Int.emod_lt_of_pos _ (by decide)
      refine ⟨_, rfl, _, rfl, _, _, rfl, rfl, .inl ⟨by omega, by omega⟩, _, rfl, a, _, 2, .int (b2 + 1), rfl, rfl, SqL.of upd_same, rfl, _, _, rfl, rfl, .inr ⟨by decide, by decide⟩, _, _, rfl, rfl, _, _, rfl, rfl, (by show (0 : Int) < 2147483587; decide), ?_⟩
      refine ⟨_, rfl, _, _, rfl, rfl, .inl ⟨by omega, by omega⟩, _, rfl, _, _, rfl, rfl, _, _, rfl, rfl, ⟨by decide, by decide⟩, _, rfl, _, _, rfl, rfl, (by omega), ?_⟩
      exact q _ (b0, b1, b2 + 1) (Int.fmod_nonneg_of_pos _ h0) (Int.fmod_lt_of_pos _ h0)
end
end Lk
end
section
set_option maxRecDepth 100000
set_option maxHeartbeats 2000000
namespace Lk
open PySem PySem.Spec PyProof.Rows L2
abbrev S (l : List Nat) : Str := SX.S l
/-- letters from a to z -/
def Az (l : List Nat) : Prop := ∀ c ∈ l, 97 ≤ c ∧ c ≤ 122
/-- all but what stands at a is as it was -/
def SameBut (a : Addr) (H H' : Hp) : Prop := ∀ b o, b ≠ a → H b = some o → H' b = some o
theorem SameBut.trans {a : Addr} {H H1 H2 : Hp} (x : SameBut a H H1) (y : SameBut a H1 H2) : SameBut a H H2 := fun b o n e => y b o n (x b o n e)
theorem sameBut_upd {a : Addr} {H : Hp} {o : HO} : SameBut a H (upd H a o) := fun b u n e => by rw [upd_ne n]; exact e
theorem sameBut_new {a p : Addr} {H : Hp} {o : HO} (h : H p = none) : SameBut a H (upd H p o) := fun b u n e => by rw [upd_ne (ne_of_none e h)]; exact e
theorem same_new {p : Addr} {H : Hp} {o : HO} (h : H p = none) : Same H (upd H p o) := fun b u e => by rw [upd_ne (ne_of_none e h)]; exact e
theorem Same.but {a : Addr} {H H' : Hp} (h : Same H H') : SameBut a H H' := fun b o _ e => h b o e
/-- a bag at a, whatever it holds -/
def Bag (H : Hp) (a : Addr) : Prop := ∃ b, H a = some (bagO b)
theorem alpha_at {i : Nat} (h : i < 26) : (Str.ofString "abcdefghijklmnopqrstuvwxyz").cps[i]? = some (97 + i) := by
  have e : ∀ i : Fin 26, (Str.ofString "abcdefghijklmnopqrstuvwxyz").cps[i.val]? = some (97 + i.val) := by decide +kernel
  exact e ⟨i, h⟩
theorem alpha_len : (Str.ofString "abcdefghijklmnopqrstuvwxyz").length = 26 := by decide +kernel
theorem join_ones (l : List Nat) : Txt.join (Str.ofString "") (l.map fun c => S [c]) = S l := by
  have e : ∀ l : List Nat, TL.joinL [] (l.map fun c => [c]) = l := by
    intro l
    induction l with
    | nil => rfl
    | cons c r ih =>
      cases r with
      | nil => rfl
      | cons d r => 
        show [c] ++ ([] ++ TL.joinL [] ((d :: r).map fun c => [c])) = c :: d :: r
        rw [ih]
        rfl
  have h := SX.join_S [] (l.map fun c => [c])
  rw [e, List.map_map] at h
  exact h
section
variable {P : Program} {w : World} {K : PySem.W.Frag} {mg : Str → Option Value} {base : Heap}
def spSome : Sp := fun vs H Q _ => ∃ (a : Addr) (m : Int) (b : Int × Int × Int), vs = [.ref a, .int m] ∧ H a = some (bagO b) ∧ 0 ≤ m ∧ m ≤ 1000000 ∧
  ∀ l H', Az l → (l.length : Int) = m → Bag H' a → SameBut a H H' → Q (.str (S l)) H'
theorem sc_some : FnScope ["bag", "many", "kinds", "k"] ["bag", "many"] (defScope s_law_some) := ⟨rfl, rfl, rfl, by decide +kernel, rfl, by decide +kernel, by decide +kernel⟩
theorem ok_some {f : Addr} {fd : FuncData} (F : Fun K "_law_some" "_law_some" s_law_some f fd) (pick : C8.Cal P w K mg base 1 "_law_pick" spPick []) (mr : mg "range" = none) : FnOk P w K mg base CX0 2 f fd ["bag", "many"] spSome := by
  refine F.ok sc_some (fun vs H Q E h => ?_) (fun cdv A outer s H vs Q E hr h => ?_)
  · obtain ⟨a, m, b, rfl, _⟩ := h
    rfl
  · obtain ⟨a, m, b, rfl, hb, h0, h1, q⟩ := h
    have nd := sc_some.nd
    refine ⟨_, pss_cons (ps_set (i := 2) nd rfl (Or.inr rfl) (pe_ix ix_list (pe_lst (pa_cons pe_int (pa_cons pe_int (pa_cons pe_int (pa_cons pe_int pa_nil))))) (C8.pe_c pick hr (Nat.le_refl _) rfl (pa_cons (pv 0) (pa_cons pe_int pa_nil))) (fun _ _ => rfl)))
      (pss_one (ps_ret (pe_join pe_str (pe_lc (own := [("k", 3)]) (g := gName 3) (tt := tYes) rfl nd (pi_range1 (by rfl) mr (pa_cons (pv 1) pa_nil)) (blkOk_by (N := ["bag", "many", "kinds", "k"]) (sc := defScope s_law_some) (by decide +kernel))
        (fun _ _ _ _ _ => pg_name (i := 3) nd rfl (Or.inl rfl)) (fun _ _ _ _ _ => pts_nil)
        (fun _ _ _ _ _ => pe_item_str pe_str (C8.pe_c pick hr (Nat.le_refl _) rfl (pa_cons (pv 0) (pa_cons (pv 2) pa_nil))) (fun _ _ => rfl)))))), ?_⟩
    -- kinds
    refine ⟨(by show 4 ≤ sizeLine; decide), fun p hp => ?_⟩
    have nap : a ≠ p := ne_of_none hb hp
    have kinds : ∀ v : Int, 0 ≤ v → v < 4 → ∃ n : Int, 0 < n ∧ n ≤ 26 ∧ ([1, 2, 3, 26] : List Int)[v.toNat]? = some n := by
      intro v h0 h1
      obtain ⟨k, rfl⟩ := Int.eq_ofNat_of_zero_le h0
      match k, h1 with
      | 0, _ => exact ⟨1, by decide, by decide, rfl⟩
      | 1, _ => exact ⟨2, by decide, by decide, rfl⟩
      | 2, _ => exact ⟨3, by decide, by decide, rfl⟩
      | 3, _ => exact ⟨26, by decide, by decide, rfl⟩
      | k + 4, h1 => exact absurd h1 (by omega)
    refine ⟨_, rfl, a, 4, b, rfl, (by rw [upd_ne nap]; exact hb), by decide, by decide, fun v b' v0 v4 => ?_⟩
    obtain ⟨n, n0, n26, hn⟩ := kinds v v0 v4
    refine ⟨p, [.int 1, .int 2, .int 3, .int 26], v, .int n, rfl, rfl, SqL.of (by rw [upd_ne nap.symm, upd_same]), ?_, ?_⟩
    · have e : v = ((v.toNat : Nat) : Int) := by omega
      rw [e]
      refine atI_nat ?_
      have z := congrArg (Option.map V.int) hn
      rw [← List.getElem?_map] at z
      exact z
    -- the join
    refine ⟨⟨_, rfl⟩, _, rfl, m, rfl, by omega, by omega, fun D nD => ?_⟩
    have nDa : D ≠ a := fun z => by rw [z, upd_same] at nD; cases nD
    have nDp : D ≠ p := fun z => by rw [z, upd_ne nap.symm, upd_same] at nD; cases nD
    have hD : H D = none := by rw [upd_ne nDa, upd_ne nDp] at nD; exact nD
    refine lc_range (lo := 0) (n := m.toNat) (fun i H3 => ∃ l, Az l ∧ l.length = i ∧ H3 D = some (.lst (l.map fun c => V.str (S [c]))) ∧ Bag H3 a ∧ SameBut a H H3) ?_ ?_ ?_
    · refine ⟨[], (fun c h => by cases h), rfl, upd_same, ⟨b', by rw [upd_ne nDa.symm, upd_same]⟩, ?_⟩
      refine fun c o hc e => ?_
      rw [upd_ne (ne_of_none e hD), upd_ne hc, upd_ne (ne_of_none e hp)]
      exact e
    · rintro i H3 hi ⟨l, az, hl, eD, ⟨b3, hb3⟩, sb⟩
      refine ⟨rfl, _, rfl, .int n, rfl, a, n, b3, rfl, hb3, n0, by omega, fun v b4 u0 u1 => ?_⟩
      have e26 : v.toNat < 26 := by omega
      refine ⟨_, v, 97 + v.toNat, rfl, rfl, u0, by omega, (by rw [alpha_len]; omega), alpha_at e26, l.map (fun c => V.str (S [c])), by rw [upd_ne nDa]; exact eD, ?_, l ++ [97 + v.toNat], ?_, ?_, ?_, ⟨b4, by rw [upd_ne nDa.symm, upd_same]⟩, ?_⟩
      · rw [List.length_map, hl]
        exact Nat.lt_of_lt_of_le (show i < 1000001 by omega) (by decide)
      · intro c hc
        rcases List.mem_append.mp hc with h | h
        · exact az c h
        · rw [List.mem_singleton] at h
          omega
      · rw [List.length_append, hl]
        rfl
      · rw [upd_same, List.map_append]
        rfl
      · refine fun c o hc e => ?_
        rw [upd_ne (ne_of_none e hD), upd_ne hc]
        exact sb c o hc e
    · rintro H3 ⟨l, az, hl, eD, hb3, sb⟩
      refine ⟨_, D, l.map fun c => S [c], rfl, rfl, .inl (SqL.of (by rw [List.map_map]; exact eD)), ?_, ?_⟩
      · have e : ((l.map fun c => S [c]).map (·.length)).sum = l.length := by
          rw [List.map_map]
          clear eD hl az
          induction l with
          | nil => rfl
          | cons c r ih =>
            rw [List.map_cons, List.sum_cons, ih, List.length_cons]
            show 1 + r.length = r.length + 1
            omega
        rw [e, List.length_map, show (Str.ofString "").length = 0 from by decide +kernel]
        omega
      · rw [join_ones]
        exact q l H3 az (by omega) hb3 sb
end
end Lk
end
section
set_option maxRecDepth 100000
set_option maxHeartbeats 2000000
namespace Lk
open PySem PySem.Spec PyProof.Rows L2
def azC (c : Nat) : Bool := decide (97 ≤ c) && decide (c ≤ 122)
def isAz (l : List Nat) : Bool := l.all azC
theorem isAz_iff {l : List Nat} : isAz l = true ↔ Az l := by
  unfold isAz Az azC
  rw [List.all_eq_true]
  constructor
  · intro h c hc
    have z := h c hc
    rw [Bool.and_eq_true, decide_eq_true_eq, decide_eq_true_eq] at z
    exact z
  · intro h c hc
    rw [Bool.and_eq_true, decide_eq_true_eq, decide_eq_true_eq]
    exact h c hc
/-- what is no text -/
inductive NoStr (H : Hp) : V → Prop where
  | non : NoStr H .non
  | bl (b : Bool) : NoStr H (.bl b)
  | int (i : Int) : NoStr H (.int i)
  | lst {a : Addr} {xs : List V} (e : H a = some (.lst xs)) : NoStr H (.ref a)
  | tup {a : Addr} {xs : List V} (e : H a = some (.tup xs)) : NoStr H (.ref a)
  | dK {a : Addr} {kvs : List (Key × V)} (e : H a = some (.dK kvs)) : NoStr H (.ref a)
theorem NoStr.same {H H' : Hp} {v : V} (h : NoStr H v) (s : Same H H') : NoStr H' v := by
  cases h with
  | non => exact .non
  | bl b => exact .bl b
  | int i => exact .int i
  | lst e => exact .lst (s _ _ e)
  | tup e => exact .tup (s _ _ e)
  | dK e => exact .dK (s _ _ e)
theorem NoStr.ty {K : PySem.W.Frag} {H : Hp} {v : V} (h : NoStr H v) : ∃ n, TyX K H v (.type n) ∧ kitB n "str" = some false := by
  cases h with
  | non => exact ⟨"NoneType", .base .non, by decide +kernel⟩
  | bl b => exact ⟨"bool", .base (.bl b), by decide +kernel⟩
  | int i => exact ⟨"int", .base (.int i), by decide +kernel⟩
  | lst e => exact ⟨"list", .base (.lst e), by decide +kernel⟩
  | tup e => exact ⟨"tuple", .base (.tup e), by decide +kernel⟩
  | dK e => exact ⟨"dict", .base (.dK e), by decide +kernel⟩
/-- is_letters of v is b -/
inductive LetV (H : Hp) : V → Bool → Prop where
  | str (l : List Nat) (h : l.length ≤ 100000) : LetV H (.str (S l)) (isAz l)
  | oth {v : V} (h : NoStr H v) : LetV H v false
theorem LetV.same {H H' : Hp} {v : V} {b : Bool} (h : LetV H v b) (s : Same H H') : LetV H' v b := by
  cases h with
  | str l z => exact .str l z
  | oth z => exact .oth (z.same s)
theorem lt_one (c d : Nat) : decide (([c] : List Nat) < [d]) = decide (c < d) := by
  by_cases h : c < d
  · rw [decide_eq_true h, decide_eq_true]
    exact List.Lex.rel h
  · rw [decide_eq_false h, decide_eq_false]
    intro z
    cases z with
    | rel z => exact h z
    | cons z => cases z
theorem az_ge (c : Nat) : (!decide (((S [c]).cps.toList : List Nat) < (Str.ofString "a").cps.toList)) = decide (97 ≤ c) := by
  rw [show (Str.ofString "a").cps.toList = [97] from by decide +kernel]
  show (!decide (([c] : List Nat) < [97])) = _
  rw [lt_one]
  by_cases h : c < 97
  · rw [decide_eq_true h, decide_eq_false (by omega)]; rfl
  · rw [decide_eq_false h, decide_eq_true (by omega)]; rfl
theorem az_le (c : Nat) : (!decide ((Str.ofString "z").cps.toList < ((S [c]).cps.toList : List Nat))) = decide (c ≤ 122) := by
  rw [show (Str.ofString "z").cps.toList = [122] from by decide +kernel]
  show (!decide (([122] : List Nat) < [c])) = _
  rw [lt_one]
  by_cases h : 122 < c
  · rw [decide_eq_true h, decide_eq_false (by omega)]; rfl
  · rw [decide_eq_false h, decide_eq_true (by omega)]; rfl
section
variable {P : Program} {w : World} {K : PySem.W.Frag} {mg : Str → Option Value} {base : Heap}
def spLetters : Sp := fun vs H Q _ => ∃ v b, vs = [v] ∧ LetV H v b ∧ ∀ H', Same H H' → Q (.bl b) H'
theorem sc_letters : FnScope ["thing", "sign"] ["thing"] (defScope s_is_letters) := ⟨rfl, rfl, rfl, by decide +kernel, rfl, by decide +kernel, by decide +kernel⟩
theorem ok_letters {f : Addr} {fd : FuncData} (F : Fun K "is_letters" "is_letters" s_is_letters f fd) (mi : mg "isinstance" = none) (ms : mg "str" = none) (ma : mg "all" = none) : FnOk P w K mg base CX0 1 f fd ["thing"] spLetters := by
  refine F.ok sc_letters (fun vs H Q E h => ?_) (fun cdv A outer s H vs Q E hr h => ?_)
  · obtain ⟨v, b, rfl, _⟩ := h
    rfl
  · obtain ⟨v, b, rfl, hv, q⟩ := h
    have nd := sc_letters.nd
    refine ⟨_, pss_one (ps_ret (pe_and (pe_callB call_isi (by rfl) mi (by decide +kernel) (pa_cons (pv 0) (pa_cons (pe_bltn (v := .ty "str") (by rfl) ms (by decide +kernel) rfl) pa_nil)))
      (pe_one (pe_callB (cr_all rfl) (by rfl) ma (by decide +kernel) (pa_cons (pe_lc (own := [("sign", 1)]) (g := gName 1) (tt := tYes) rfl nd (pi_str (pv 0)) (blkOk_by (N := ["thing", "sign"]) (sc := defScope s_is_letters) (by decide +kernel))
        (fun _ _ _ _ _ => pg_name (i := 1) nd rfl (Or.inl rfl)) (fun _ _ _ _ _ => pts_nil)
        (fun _ _ _ _ _ => pe_chain op_le_str op_le_str pe_str (pv 1) pe_str)) pa_nil))))), ?_⟩
    cases hv with
    | oth h =>
      obtain ⟨n, ty, kb⟩ := h.ty (K := K)
      refine ⟨_, rfl, v, .ty "str", _, _, false, rfl, .ty _, ty, kit_ty kb, false, rfl, ?_⟩
      exact q H (Same.refl H)
    | str l hl =>
      refine ⟨_, rfl, _, .ty "str", _, _, true, rfl, .ty _, .base (.str _), kit_ty (by decide +kernel), true, rfl, ?_⟩
      refine ⟨_, rfl, _, rfl, fun D nD => ?_⟩
      refine lc_it walk_str (fun i H3 => Same H H3 ∧ H3 D = some (.lst (((l.take i).map azC).map V.bl))) ⟨same_new nD, upd_same⟩ (fun _ _ _ _ => True.intro) ?_ ?_
      · rintro i x H3 H4 hi ⟨s3, e3⟩ ⟨rfl, c, hc, rfl⟩
        have hc' : l[i]? = some c := by
          rw [← hc]
          show l[i]? = (l.toArray)[i]?
          rw [List.getElem?_toArray]
        refine ⟨rfl, _, rfl, _, _, rfl, rfl, _, rfl, ?_⟩
        rw [az_ge]
        have hi' : i < l.length := (List.getElem?_eq_some_iff.mp hc').1
        have step : ∀ b : Bool, b = azC c → ∃ acc, H4 D = some (HO.lst acc) ∧ acc.length < sizeLine ∧ Same H (upd H4 D (HO.lst (acc ++ [V.bl b]))) ∧ upd H4 D (HO.lst (acc ++ [V.bl b])) D = some (HO.lst (((l.take (i + 1)).map azC).map V.bl)) := by
          intro b e
          refine ⟨_, e3, ?_, fun b o e => ?_, ?_⟩
          · rw [List.length_map, List.length_map, List.length_take]
            exact Nat.lt_of_le_of_lt (show min i l.length ≤ 100000 by omega) (by decide)
          · rw [upd_ne (ne_of_none e nD)]
            exact s3 b o e
          · rw [upd_same, List.take_add_one, hc', List.map_append, List.map_append, e]
            rfl
        refine ite2 (fun g => ?_) (fun g => ?_)
        · refine ⟨_, _, rfl, rfl, step _ ?_⟩
          have z := az_le c
          unfold azC
          rw [g, Bool.true_and]
          exact z
        · refine step false ?_
          unfold azC
          rw [Bool.eq_false_iff.mpr g, Bool.false_and]
      · rintro H3 ⟨s3, e3⟩
        have el : l.take ((S l).cps.size) = l := List.take_of_length_le (by show l.length ≤ (l.toArray).size; rw [List.size_toArray]; exact Nat.le_refl _)
        rw [el] at e3
        refine ⟨D, _, rfl, SqL.of e3, ?_⟩
        show Q (.bl ((l.map azC).all id)) H3
        have e : (l.map azC).all id = isAz l := by
          rw [List.all_map]
          rfl
        rw [e]
        exact q H3 s3
end
end Lk
end
section
set_option maxRecDepth 100000
set_option maxHeartbeats 2000000
/-! A caught error that a name keeps behind its suite; isinstance of it. -/
namespace Lk
open PySem PySem.Spec PyProof.Rows L2
/-- an error's object of the class cls, its own dict at d, caught before -/
def ExT (cls : Value) (d : Option Addr) (a : Addr) : HO := .ext fun h => ∃ (oe : Obj) (vs : Array Value), h.get? a = some oe ∧ Zc cls d oe ∧ oe.data = .fields vs
theorem exT_ok {P : Program} {w : World} {H : Hp} {h : Heap} {a : Addr} {cls : Value} {d : Option Addr} {oe : Obj} {vs : Array Value} (e : h.get? a = some oe) (z : Zc cls d oe) (hd : oe.data = .fields vs) : ObjOk P w H h a (ExT cls d a) :=
  ⟨⟨oe, vs, e, z, hd⟩, ⟨oe, e⟩, fun _ _ ⟨o, v, q, r⟩ k => ⟨o, v, k o q, r⟩⟩
section
variable {X : Cx} {pins : List (Addr × Obj)} {σ : L2.St} {H : Hp} {s : Shared}
/-- what is pinned and was made since the entry may be tracked -/
theorem tracked {a : Addr} {oe : Obj} {o : HO} (I : Inv X ((a, oe) :: pins) σ H s) (h0 : X.s_0.heap.get? a = none) (hp : ∀ p ∈ X.pn ++ pins, p.1 ≠ a) (new : ObjOk X.prog X.w (upd H a o) s.heap a o) : Inv X pins σ (upd H a o) s := by
  obtain ⟨ha, hn, nL, nF, nc⟩ := I.pin (a, oe) (List.mem_append.mpr (.inr List.mem_cons_self))
  refine ⟨I.ok, I.os, I.bare, ⟨I.base.keep, I.base.slot, fun b u e n hx => ?_, I.base.there, fun b xs e => ?_, fun b u xs e => ?_, fun b ps e => ?_⟩, I.loc, I.cell, ?_, fun x c e => ?_, fun p h => ?_, I.hok.laidN (fun _ _ e => e) hn new, I.len⟩
  · rw [upd_ne (fun z => by rw [z, h0] at e; cases e)]
    exact I.base.free b u e n hx
  · rw [upd_ne (ne_of_none (I.base.tups b xs e) hn)]
    exact I.base.tups b xs e
  · rw [upd_ne (ne_of_none (I.base.frzs b u xs e) hn)]
    exact I.base.frzs b u xs e
  · obtain ⟨m, q⟩ := I.base.tbls b ps e
    exact ⟨m, by rw [upd_ne (ne_of_none q hn)]; exact q⟩
  · rw [upd_ne nL.symm]
    exact I.free
  · rw [upd_ne (fun z => ?_)]
    · exact I.freeC x c e
    · obtain ⟨v, o', q1, q2⟩ := I.cell x c e
      have q3 : s.heap.get? a = some o' := by rw [← z]; exact q1
      rw [show s.heap.get? a = some oe from ha] at q3
      cases q3
      exact nc v q2
  · have hm : p ∈ X.pn ++ ((a, oe) :: pins) := by
      rcases List.mem_append.mp h with h | h
      · exact List.mem_append.mpr (.inl h)
      · exact List.mem_append.mpr (.inr (List.mem_cons_of_mem _ h))
    obtain ⟨q1, q2, q3⟩ := I.pin p hm
    exact ⟨q1, by rw [upd_ne (hp p h)]; exact q2, q3⟩
theorem unsuiteP {a : Addr} {q : Addr × Obj} (I : Inv (X.suite a (q :: (X.pn ++ pins))) [] σ H s) (ok : X.Ok) : Inv X (q :: pins) σ H s :=
  ⟨ok, I.os, I.bare, I.base, I.loc, I.cell, I.free, I.freeC, fun p hp => I.pin p (by
    rw [List.append_nil]
    show p ∈ q :: (X.pn ++ pins)
    rcases List.mem_append.mp hp with h | h
    · exact List.mem_cons_of_mem _ (List.mem_append.mpr (.inl h))
    · rcases List.mem_cons.mp h with e | h
      · rw [e]; exact List.mem_cons_self
      · exact List.mem_cons_of_mem _ (List.mem_append.mpr (.inr h))), I.hok, I.len⟩
end
/-- the wish of a clause that takes whatever comes, and behind which the error is kept -/
def wKeep (K : PySem.W.Frag) (c : Value) (i : Nat) (ts : Addr → Value → Option Addr → TS) (D : Ends) : WX := fun cls d σ H =>
  PySem.W.exmOne K cls c = some true ∧ ∀ a, H a = none → ts a cls d { nx := fun σ' H' => H' a = none → D.nx (σ'.set i none) (upd H' a (ExT cls d a)), rt := fun _ _ => False, bk := fun _ _ => False, ct := fun _ _ => False } (σ.set i (some (.ref a))) H
section
variable {X : Cx} {x n : Str} {c : Value} {i : Nat} {body suite : List Stmt} {b₀ : Stmt} {np pos pos' : Pos} {tb : WX → TS} {ts : Addr → Value → Option Addr → TS}
/-- what is known of an error that came down: its object where it landed, that it is new, that the frame's state stands -/
structure Down (X : Cx) (pins : List (Addr × Obj)) (a : Addr) (cls : Value) (d : Option Addr) (σ : L2.St) (H : Hp) (s : Shared) : Prop where
  st : Inv X pins σ H s
  ob : ∃ oe vs, s.heap.get? a = some oe ∧ Zc cls d oe ∧ oe.data = .fields vs
  nH : H a = none
  n0 : X.s_0.heap.get? a = none
  nP : ∀ p ∈ X.pn ++ pins, p.1 ≠ a
  nL : a ≠ X.env.locals
  nF : a ∉ X.fs
theorem down {pins : List (Addr × Obj)} {a : Addr} {B : Heap} {cls : Value} {d : Option Addr} {σ : L2.St} {H : Hp} {sI s' : Shared} {h : Heap} (hs : X.stack = X.env :: X.outer) (hf : X.env.frame = some X.env.locals) (hex : X.ex = [])
    (J : Inv X pins σ H sI) (nb : ∀ b o, sI.heap.get? b = some o → b ∉ frs X.stack → B.get? b = some o) (up : sI.heap.UpToSlots h) (os : s'.os = sI.os) (ag : AllBare s'.gens) (na : H a = none)
    (fl : HandSPX.FlyingZ B (X.env :: X.outer) a (Zc cls d) h) : Down X pins a cls d σ H { s' with heap := h } := by
  obtain ⟨oe, vs, he, hz, hd⟩ := fl.there
  have off : a ∉ frs (X.env :: X.outer) := fun hm => by
    obtain ⟨_, o, e, q⟩ := fl.2.2.1.mem hm
    have z : oe = o := Option.some.inj (he.symm.trans e)
    exact q vs (by rw [← z]; exact hd)
  have gone : sI.heap.get? a = none := by
    rcases e : sI.heap.get? a with _ | o
    · rfl
    · have z := nb a o e (by rw [hs]; exact off)
      rw [fl.2.1] at z
      cases z
  refine ⟨J.landed nb fl.1 up os ag, ⟨oe, vs, he, hz, hd⟩, na, ?_, fun p hp z => ?_, fun z => off ?_, fun hm => off ?_⟩
  · rcases e : X.s_0.heap.get? a with _ | o
    · rfl
    · obtain ⟨u, z⟩ := J.base.there a o e (by rw [hex]; exact fun z => nomatch z)
      rw [gone] at z
      cases z
  · have q := (J.pin p hp).1
    rw [z, gone] at q
    cases q
  · exact List.mem_filterMap.mpr ⟨X.env, List.mem_cons_self, by rw [hf, z]⟩
  · obtain ⟨e, he, q⟩ := List.mem_filterMap.mp hm
    exact List.mem_filterMap.mpr ⟨e, List.mem_cons_of_mem _ he, q⟩
/-- a body that ran through a try ran -/
theorem through {pins : List (Addr × Obj)} {xe : Value → Shared → Prop} {D : Ends} {s1 : Shared} (ok : X.Ok) : ∀ {f : Flow}, SP (X.tr (X.pn ++ pins) xe) [] D f s1 → SP X pins D f s1
  | .next, ⟨σ, H, J, q⟩ => ⟨σ, H, J.ofTry ok, q⟩
  | .brk, ⟨σ, H, J, q⟩ => ⟨σ, H, J.ofTry ok, q⟩
  | .cont, ⟨σ, H, J, q⟩ => ⟨σ, H, J.ofTry ok, q⟩
  | .ret _, ⟨v, σ, H, J, r, q⟩ => ⟨v, σ, H, J.ofTry ok, r, q⟩
/-- the suite runs, its name goes, the error is tracked from then on -/
theorem kept {pins : List (Addr × Obj)} {a : Addr} {cls : Value} {d : Option Addr} {σ : L2.St} {H : Hp} {s : Shared} {D : Ends} (ok : X.Ok) (hN : X.N.Nodup) (hi : X.N[i]? = some n) (hln : X.env.kindOf n = some .local)
    (hsu : ∀ (oe : Obj) (pn : List (Addr × Obj)), Zc cls d oe → (∃ vs, oe.data = .fields vs) → PSs (X.suite a ((a, oe) :: pn)) (b₀ :: suite) (ts a cls d)) (W : Down X pins a cls d σ H s)
    (h : ts a cls d { nx := fun σ' H' => H' a = none → D.nx (σ'.set i none) (upd H' a (ExT cls d a)), rt := fun _ _ => False, bk := fun _ _ => False, ct := fun _ _ => False } (σ.set i (some (.ref a))) H)
    {R : Flow → Shared → Prop} {E1 E2 : Value → Shared → Prop} (hR : ∀ s6, wpAny (model X.prog X.w) X.A (do bindName X.env n .none; unbindBehindTheSuite X.env n pos') (fun _ s7 => SP X pins D .next s7) X.xe s6 → R .next s6) :
    wpAny (model X.prog X.w) (X.A.mark (some (.ref a))) (storeName X.env n (.ref a)) (fun _ s5 => wpAny (model X.prog X.w) (X.A.mark (some (.ref a))) (execs (b₀ :: suite) X.env) R E2 s5) E1 s := by
  obtain ⟨oe, vs, he, hz, hd⟩ := W.ob
  have S := W.st.suite he hd W.nH W.nL W.nF
  refine store_ok (X := X.suite a ((a, oe) :: (X.pn ++ pins))) (v := .ref a) S hN hi (.inl hln) rfl (fun s5 S5 => ?_) (.inr hln)
  refine wpAny_mono ((hsu oe (X.pn ++ pins) hz ⟨_, hd⟩).run [] s5 _ H _ S5 h) (fun f s6 z => ?_) fun _ _ z => z.elim
  match f, z with
  | .next, ⟨σ6, H6, S6, q6⟩ =>
    refine hR s6 (gone_ok (unsuiteP S6 ok) hN hi hln fun s7 J7 => ?_)
    obtain ⟨p1, p2, _⟩ := J7.pin (a, oe) (List.mem_append.mpr (.inr List.mem_cons_self))
    exact ⟨_, _, tracked J7 W.n0 W.nP (exT_ok p1 hz hd), q6 p2⟩
  | .brk, ⟨_, _, _, q⟩ => exact q.elim
  | .cont, ⟨_, _, _, q⟩ => exact q.elim
  | .ret _, ⟨_, _, _, _, _, q⟩ => exact q.elim
theorem ps_try_keep (hs : X.stack = X.env :: X.outer) (hf : X.env.frame = some X.env.locals) (hex : X.ex = []) (hN : X.N.Nodup) (hi : X.N[i]? = some n) (hln : X.env.kindOf n = some .local) (hc : Names X x c)
    (hb : ∀ (W : WX) (pn : List (Addr × Obj)) (xe : Value → Shared → Prop), Takes (X.tr pn xe) W → PassesOwn (model X.prog X.w) X.A X.env xe → PSs (X.tr pn xe) body (tb W))
    (hsu : ∀ (a : Addr) (oe : Obj) (cls : Value) (d : Option Addr) (pn : List (Addr × Obj)), Zc cls d oe → (∃ vs, oe.data = .fields vs) → PSs (X.suite a ((a, oe) :: pn)) (b₀ :: suite) (ts a cls d)) :
    PS X (.Try body [.ExceptHandler (some (.Name x np)) (some n) (b₀ :: suite) pos'] [] [] pos) (fun D σ H => tb (wKeep X.K c i ts D) D σ H) := by
  refine ⟨fun pins s σ H D I h => wpAny_Try_except ?_⟩
  have hfr : X.A.frames = some (X.env :: X.outer) := I.ok.frames.trans (by rw [hs])
  refine wpAny_mono ((hb (wKeep X.K c i ts D) (X.pn ++ pins) _ (fun u s' xx => ?_) PassesOwn.looking).run [] s σ H D (I.toTry _) h) (fun f s1 z => ?_) (fun _ _ z => z)
  rotate_left
  · have z' := through I.ok z
    match f, z' with
    | .next, ⟨_, _, J, q⟩ => exact wpAny_execs_nil ⟨_, _, J, q⟩
    | .brk, z' => exact z'
    | .cont, z' => exact z'
    | .ret _, z' => exact z'
  · obtain ⟨a, B, sI, _, σ', H', cls, d, rfl, J', nb, up, sky, na, os, ag, hex1, hyes⟩ := xx
    have J : Inv X pins σ' H' sI := J'.ofTry I.ok
    rw [show (X.tr (X.pn ++ pins) _).stack = X.env :: X.outer from hs] at sky
    refine Sky.land Zc.steady hfr hf sky fun h3 fl3 up3 => ?_
    have W3 := down hs hf hex J nb (up.trans up3) os ag na fl3
    obtain ⟨oe, vs, he, hz, hd⟩ := W3.ob
    have S3 := W3.st.suite he hd na W3.nL W3.nF
    refine wpAny_handleBy_cons (codeAny_handlers_test ?_) fun q => nomatch q
    have look : PySem.W.Looks (model X.prog X.w) h3 (typeOf (.ref a)) cls := fun A Q E s k q => wpAny_typeOf_ref (k _ _ he) (by rw [hz.1]; exact q)
    have name : ∀ {Q : Value → Shared → Prop} {E : Value → Shared → Prop}, Q c { s' with heap := h3 } → wpAny (model X.prog X.w) (X.A.mark (some (.ref a))) (eval (.Name x np) X.env) Q E { s' with heap := h3 } := fun q => by
      rcases hc with ⟨k1, k2, k3 | ⟨k3, k4, k5⟩⟩
      · exact ld_glob S3 k1 k3 q k2
      · exact ld_blt S3 k1 k3 k4 q k5 k2
    refine name ((PySem.W.exm_one W3.st.kIn look hex1).here (codeAny_handlers_suite_as (HandSPX.lands_againZ fl3 fun h4 fl4 up4 => ?_)))
    exact kept I.ok hN hi hln (hsu a · cls d ·) (down hs hf hex J nb ((up.trans up3).trans up4) os ag na fl4) (hyes a na) (fun _ z => z)
end
/-! ### isinstance of such -/
section
variable {X : Cx}
/-- the class of such an error is known to be read rightly -/
theorem exT_at {pins : List (Addr × Obj)} {σ : L2.St} {H : Hp} {s : Shared} {a D : Addr} (I : Inv X pins σ H s) (ha : H a = some (ExT (.ref D) none a)) : ∃ oe, PySem.W.InstAt s.heap a oe D none := by
  obtain ⟨⟨oe, vs, he, hz, hd⟩, _⟩ := I.hok a _ ha
  refine ⟨oe, ?_⟩
  obtain ⟨oc, od, oda, osl⟩ := oe
  obtain ⟨h1, h2⟩ := hz
  dsimp only at h1 h2 hd
  subst h1 h2 hd
  exact ⟨he, rfl, rfl, trivial⟩
def rIsX (K : PySem.W.Frag) : List V → Hp → VK → Prop := fun xs H Q => ∃ (a D : Addr) (c : V) (u : Value) (b : Bool), xs = [.ref a, c] ∧ ExcC K D ∧ H a = some (ExT (.ref D) none a) ∧ ClsV c u ∧ PySem.W.kitOne K (.ref D) u = some b ∧ Q (.bl b) H
theorem call_isX : CallR X (.builtin "isinstance") (rIsX X.K) := by
  intro pins s σ H xs us Q I r h
  obtain ⟨a, D, c, u, b, rfl, C, ha, k, e, q⟩ := h
  obtain ⟨u1, u2, rfl, r1, r2⟩ := vals2 r
  have e2 := k.eq r2
  subst e2
  cases (show u1 = Value.ref a from r1)
  obtain ⟨oe, J⟩ := exT_at I ha
  exact PySem.W.kia_one (PySem.W.handS_kitx_exc C.hg C.hk C.hs C.hd C.ha C.hn C.ht C.hm) I.kIn J e (fun z => nomatch z) fun tk => ⟨.bl b, H, I.tok tk, rfl, q⟩
def rIsXT (K : PySem.W.Frag) : List V → Hp → VK → Prop := fun xs H Q => ∃ (a D tp : Addr) (cs : List V) (us : List Value) (b : Bool), xs = [.ref a, .ref tp] ∧ ExcC K D ∧ H a = some (ExT (.ref D) none a) ∧ H tp = some (.tup cs) ∧ Paired ClsV cs us ∧ PySem.W.kitAny K (.ref D) us = some b ∧ Q (.bl b) H
theorem call_isXT : CallR X (.builtin "isinstance") (rIsXT X.K) := by
  intro pins s σ H xs us Q I r h
  obtain ⟨a, D, tp, cs, ws, b, rfl, C, ha, hT, k, e, q⟩ := h
  obtain ⟨u1, u2, rfl, r1, r2⟩ := vals2 r
  cases (show u2 = Value.ref tp from r2)
  cases (show u1 = Value.ref a from r1)
  obtain ⟨oe, J⟩ := exT_at I ha
  obtain ⟨_, its, rv, o, h1, h2, n, h3⟩ := (show ObjOk X.prog X.w H s.heap tp (.tup cs) from I.hok tp _ hT)
  have e3 := ClsV.all k rv
  subst e3
  obtain ⟨oc, od, dt, sl⟩ := o
  simp only at h2 h3
  subst h2 h3
  exact PySem.W.kia_tup (PySem.W.handS_kitx_exc C.hg C.hk C.hs C.hd C.ha C.hn C.ht C.hm) I.kIn J h1 e (fun z => nomatch z) fun tk => ⟨.bl b, H, I.tok tk, rfl, q⟩
end
end Lk
end
section
set_option maxRecDepth 100000
set_option maxHeartbeats 2000000
namespace Lk
open PySem PySem.Spec PyProof.Rows L2
/-- a def that may raise, by its name -/
structure CalX (P : Program) (w : World) (K : PySem.W.Frag) (mg : Str → Option Value) (base : Heap) (k : Nat) (x : Str) (sp : Sp) : Prop where
  ex : ∃ (f : Addr) (fd : FuncData) (ps : List Str), FnOk P w K mg base (L2.CX P w) k f fd ps sp ∧ mg x = some (.ref f) ∧ PySem.W.keepIn K (.ref f) = true ∧ Binds K fd ps []
section
variable {X : Cx} {k j : Nat} {x : Str} {sp : Sp} {p pos : Pos} {e : Expr} {es : List Expr} {t : TA} {W : WX}
/-- .. what it raises is taken around -/
theorem pe_cX (c : CalX X.prog X.w X.K X.mg X.base k x sp) (tk : Takes X W) (hr : Room j X.A) (hk : k ≤ j) (hg : Gl X x) (ha : PA X (e :: es) t)
    (hdb : (x == ("__debug__" : Str)) = false := by decide) (he : starEach (e :: es) X.env = (false, eval e X.env) :: starEach es X.env := by rfl) (hpl : (backTo pos (starEach es X.env)).any (·.1) = false := by rfl) :
    PE X (.Call (.Name x p) (e :: es) [] pos) (tCallS sp (WE W) t) := by
  obtain ⟨f, fd, ps, F, hm, kp, b⟩ := c.ex
  exact pe_callS F (hr.mono hk) hg hm kp b (fun σ => passAt tk σ) ha hdb he hpl
/-- .. where it raises nothing -/
theorem pe_c0 (c : CalX X.prog X.w X.K X.mg X.base k x sp) (hr : Room j X.A) (hk : k ≤ j) (hg : Gl X x) (ha : PA X (e :: es) t)
    (hdb : (x == ("__debug__" : Str)) = false := by decide) (he : starEach (e :: es) X.env = (false, eval e X.env) :: starEach es X.env := by rfl) (hpl : (backTo pos (starEach es X.env)).any (·.1) = false := by rfl) :
    PE X (.Call (.Name x p) (e :: es) [] pos) (tCall sp [] E0 t) := by
  obtain ⟨f, fd, ps, F, hm, kp, b⟩ := c.ex
  exact pe_call F (hr.mono hk) hg hm kp b .nil passL ha hdb he hpl
end
/-- a class of the program's own over ValueError, as the top has written it -/
structure ErrC (K : PySem.W.Frag) (mg : Str → Option Value) (x : Str) (C : Addr) : Prop where
  g : mg x = some (.ref C)
  k : PySem.W.keepIn K (.ref C) = true
  x : PySem.W.excIn K C [.type "ValueError", .type "Exception", .type "BaseException", .type "object"] "ValueError.__new__" = true
  b : PySem.W.subIn K (.ref C) (.type "BaseException") = some true
  t : PySem.W.typeIn K (.ref C) = some (.type "type")
def isLoop (l : List Nat) : Bool := isAz l && (decide (1 ≤ l.length) && decide (l.length ≤ 12))
/-- is_loop of v is b -/
inductive LoopV (H : Hp) : V → Bool → Prop where
  | str (l : List Nat) (h : l.length ≤ 100000) : LoopV H (.str (S l)) (isLoop l)
  | oth {v : V} (h : NoStr H v) : LoopV H v false
theorem LoopV.same {H H' : Hp} {v : V} {b : Bool} (h : LoopV H v b) (s : Same H H') : LoopV H' v b := by
  cases h with
  | str l z => exact .str l z
  | oth z => exact .oth (z.same s)
section
variable {P : Program} {w : World} {K : PySem.W.Frag} {mg : Str → Option Value} {base : Heap}
def spIsLoop : Sp := fun vs H Q _ => ∃ v b, vs = [v] ∧ LoopV H v b ∧ ∀ H', Same H H' → Q (.bl b) H'
theorem sc_is_loop : FnScope ["thing"] ["thing"] (defScope s_is_loop) := ⟨rfl, rfl, rfl, by decide +kernel, rfl, by decide +kernel, by decide +kernel⟩
theorem ok_is_loop {f : Addr} {fd : FuncData} (F : Fun K "is_loop" "is_loop" s_is_loop f fd) (cl : C8.Cal P w K mg base 1 "is_letters" spLetters []) (ml : mg "len" = none) {tp : Tok} (mp : mg "MOST_PLACES" = some (.int 12 tp)) : FnOk P w K mg base CX0 2 f fd ["thing"] spIsLoop := by
  refine F.ok sc_is_loop (fun vs H Q E h => ?_) (fun cdv A outer s H vs Q E hr h => ?_)
  · obtain ⟨v, b, rfl, _⟩ := h
    rfl
  · obtain ⟨v, b, rfl, hv, q⟩ := h
    refine ⟨_, pss_one (ps_ret (pe_and (C8.pe_c cl hr (Nat.le_refl _) rfl (pa_cons (pv 0) pa_nil))
      (pe_one (pe_chain op_le op_le pe_int (pe_callB call_len_str (by rfl) ml PySem.boot_len (pa_cons (pv 0) pa_nil)) (pe_glob (v := .int 12) rfl mp ⟨_, rfl⟩))))), ?_⟩
    cases hv with
    | oth h =>
      refine ⟨_, rfl, _, _, rfl, .oth h, fun H1 s1 => ⟨_, rfl, ?_⟩⟩
      exact q H1 s1
    | str l hl =>
      refine ⟨_, rfl, _, _, rfl, .str l hl, fun H1 s1 => ⟨_, rfl, ?_⟩⟩
      unfold isLoop at q
      cases e : isAz l with
      | false =>
        rw [e] at q
        exact q H1 s1
      | true =>
        rw [e, Bool.true_and] at q
        refine ⟨_, rfl, S l, rfl, (by rw [SX.S_len]; exact Nat.le_trans hl (by decide)), _, _, rfl, rfl, _, rfl, ?_⟩
        rw [SX.S_len]
        refine ite2 (fun g => ?_) (fun g => ?_)
        · refine ⟨_, _, rfl, rfl, ?_⟩
          have g1 : 1 ≤ l.length := by have z := of_decide_eq_true g; omega
          have e2 : decide ((l.length : Int) ≤ 12) = (decide (1 ≤ l.length) && decide (l.length ≤ 12)) := by
            rw [decide_eq_true g1, Bool.true_and]
            by_cases c : l.length ≤ 12
            · rw [decide_eq_true c, decide_eq_true (by omega)]
            · rw [decide_eq_false c, decide_eq_false (by omega)]
          show Q (.bl (decide ((l.length : Int) ≤ 12))) H1
          rw [e2]
          exact q H1 s1
        · have g1 : ¬ 1 ≤ l.length := fun c => g (decide_eq_true (by omega))
          have e2 : false = (decide (1 ≤ l.length) && decide (l.length ≤ 12)) := by rw [decide_eq_false g1, Bool.false_and]
          show Q (.bl false) H1
          rw [e2]
          exact q H1 s1
/-- nothing, or NoLoop -/
def spRefuse (C : Addr) : Sp := fun vs H Q E => ∃ v b, vs = [v] ∧ LoopV H v b ∧ (b = true → ∀ H', Same H H' → Q .non H') ∧ (b = false → ∀ H', Same H H' → E (.ref C) none H')
theorem sc_refuse : FnScope ["loop"] ["loop"] (defScope s_refuse_no_loop) := ⟨rfl, rfl, rfl, by decide +kernel, rfl, by decide +kernel, by decide +kernel⟩
theorem ok_refuse {f C : Addr} {fd : FuncData} (F : Fun K "refuse_no_loop" "refuse_no_loop" s_refuse_no_loop f fd) (cl : C8.Cal P w K mg base 2 "is_loop" spIsLoop []) (T : ErrC K mg "NoLoop" C) {tp : Tok} (mp : mg "MOST_PLACES" = some (.int 12 tp)) : FnOk P w K mg base (L2.CX P w) 3 f fd ["loop"] (spRefuse C) := by
  refine F.okX sc_refuse (fun vs H Q E h => ?_) (fun cdv A outer s H vs Q E hr h => ?_)
  · obtain ⟨v, b, rfl, _⟩ := h
    rfl
  · obtain ⟨v, b, rfl, hv, q0, q1⟩ := h
    refine ⟨_, pss_one (ps_if (pt_not (pt_val (C8.pe_c cl hr (Nat.le_refl _) rfl (pa_cons (pv 0) pa_nil))))
      (pss_one (ps_raise rfl (takes_of rfl rfl rfl rfl) (SkE.pmk_own1 PySem.F.excBase_ValueError T.x T.g T.k (raises_own T.b T.t) rfl
        (pe_joined (.cons pe_str (.cons (pe_fmt (pe_glob (v := .int 12) rfl mp ⟨_, rfl⟩)) (.cons pe_str .nil))))))) pss_nil), ?_⟩
    refine ⟨_, rfl, v, b, rfl, hv, fun H1 s1 => ⟨b, rfl, ?_⟩⟩
    cases b with
    | true => exact q0 rfl H1 s1
    | false =>
      refine ⟨_, rfl, (by decide +kernel), .inr ⟨12, rfl, (by decide +kernel), _, rfl, (by decide +kernel), _, rfl, (by decide +kernel), ?_⟩⟩
      exact q1 rfl H1 s1
end
end Lk
end
section
set_option maxRecDepth 100000
set_option maxHeartbeats 2000000
/-! Sets of texts of one sign: set(text), its length, sorted. -/
namespace Lk
open PySem PySem.Spec PySem.Calls PySem.Froz PyProof.Rows L2
/-- the payload's table rises, and can be walked -/
def TxR (w : World) (D : SD) : Prop := Ris D.2.2.place.toList ∧ (w.params.followText "set-order" = true ∨ D.2.2.led = true)
theorem tailTx_ris {w : World} {ep : Nat} {es1 : Array (Int × Value)} {t2 : SetTable} {wd : Bool} (r1 : Ris t2.place.toList) (r2 : w.params.followText "set-order" = true ∨ t2.led = true) : TxR w (tailTx ep es1 t2 wd) := by
  unfold tailTx
  by_cases c : (!wd && t2.tooFull) = true
  · rw [if_pos c]
    exact ⟨relayAll_ris _ _ _, by rw [relayAll_led]; exact r2⟩
  · rw [if_neg c]
    exact ⟨r1, r2⟩
theorem addTx_ris {w : World} {D : SD} (h : Int) (v : Value) (r : TxR w D) : TxR w (addTx h v D) := by
  obtain ⟨es, ep, t⟩ := D
  obtain ⟨r1, r2⟩ := r
  have q1 := layNew_ris t es h v r1
  have q2 : (layNew t es h v).2.1.led = t.led := layNew_led t es h v
  have q3 : w.params.followText "set-order" = true ∨ (layNew t es h v).2.1.led = true := r2.imp id fun z => by rw [q2]; exact z
  unfold addTx
  refine tailTx_ris ?_ ?_
  · split
    · exact q1
    · exact q1
  · split
    · exact q3
    · exact q3
section
variable {P : Program} {w : World} {A : Around} {E : Value → Shared → Prop} {s : Shared}
theorem add_in {a : Addr} {T : String} {D : SD} {l : List Str} {k : Str} {u : Tok} {Q : Bool → Shared → Prop} (ho : s.heap.get? a = some (sObj T D)) (F : TxOk P w D l) (hk : k ∈ l) (hb : l.length < scanBound) (h : Q false s) :
    wpAny (model P w) A (setAddHashed a (.str k u) (hashStr w k)) Q E s := by
  have hsz := F.sz
  obtain ⟨j, hj⟩ : ∃ j, List.findIdx? (fun e => (strKind P w).is k e.2) D.1.toList = some j := by
    cases e : List.findIdx? (fun e => (strKind P w).is k e.2) D.1.toList with
    | some j => exact ⟨j, rfl⟩
    | none =>
      obtain ⟨z, hz, q⟩ := (F.mem k).mp hk
      have c := List.findIdx?_eq_none_iff.mp e z hz
      rw [q] at c
      cases c
  unfold setAddHashed setAddHashedIn
  refine wpAny_holding (wpAny_bind (wpAny_setState_of ho rfl F.fit ?_))
  dsimp only
  rw [byScan_of rfl (by omega) F.el]
  simp only [↓reduceIte]
  unfold setAddByScan
  refine wpAny_bind (wpAny_bind (wpAny_rule (wpAny_bind (wpAny_setScan_of (knd := strKind P w) (k := k) (is_str k u) ho rfl F.fit F.el ?_))))
  rw [hj]
  dsimp only
  exact wpAny_pure (wpAny_pure h)
end
section
variable {P : Program} {w : World} {A : Around} {R : Result → Shared → Prop}
theorem sing_inj {c d : Nat} (h : sing c = sing d) : c = d := by
  have q : [c] = [d] := congrArg (fun y : Str => y.cps.toList) h
  exact (List.cons.inj q).1
/-- the rest of a text's signs go into the set -/
theorem upd_all {a it : Addr} (hne : a ≠ it) {x : Str} {u : Tok} (hh : A.handled = none) : ∀ (cs : List Nat) (i : Nat) (D : SD) (l : List Str) (s : Shared), x.cps.toList.drop i = cs →
    s.heap.get? a = some (sObj "set" D) → s.heap.get? it = some (itObj x u i) → TxOk P w D l → TxR w D → l.Nodup → l.length + cs.length < scanBound →
    (∀ h' tk D' l', (∀ b o, b ≠ a → b ≠ it → s.heap.get? b = some o → h'.get? b = some o) → h'.get? a = some (sObj "set" D') → TxOk P w D' l' → TxR w D' → l'.Nodup → (∀ y, y ∈ l' ↔ y ∈ l ∨ ∃ c ∈ cs, y = sing c) →
      l'.length ≤ l.length + cs.length → R (.ok (.ret .none)) { s with heap := h', toks := tk }) → codeAny (model P w) A (.builtin "set.update.loop" ⟨[.ref a, .ref it], []⟩) R s
  | [], i, D, l, s, hd, ha, hit, F, rr, nd, hb, h => by
    refine codeAny_builtin PyProof.Rows.F.entry_set_update_loop ?_
    rw [Around.under_plainId PyProof.Rows.F.plain_set_update_loop _]
    show wpAny _ A.in1 (pyNext (.ref it) >>= _) _ _ s
    refine wpAny_bind (end_x (u := u) (by exact hh) hit (at_end hd) (wpAny_pure ?_))
    have k : ∀ b o, b ≠ it → s.heap.get? b = some o → (endHeap s.heap it i).get? b = some o := fun b o hb e =>
      Heap.get?_push_of_some _ (Heap.get?_push_of_some _ (PySem.Heap.get?_update_of_ne _ (Ne.symm hb) e))
    exact h _ _ D l (fun b o _ hb e => k b o hb e) (k a _ hne ha) F rr nd (fun y => by simp) (Nat.le_refl _)
  | c :: r, i, D, l, s, hd, ha, hit, F, rr, nd, hb, h => by
    obtain ⟨hx, hd2⟩ := Froz.at_of hd
    have hb2 : l.length + (r.length + 1) < scanBound := hb
    refine codeAny_builtin PyProof.Rows.F.entry_set_update_loop ?_
    rw [Around.under_plainId PyProof.Rows.F.plain_set_update_loop _]
    show wpAny _ A.in1 (pyNext (.ref it) >>= _) _ _ s
    refine wpAny_bind (next_x (u := u) hit hx ?_)
    show wpAny _ A.in1 (holding [Value.str (sing c) s.toks] (setAdd a (.str (sing c) s.toks)) >>= _) _ _ _
    refine wpAny_bind (wpAny_holding ?_)
    unfold setAdd
    refine wpAny_holding (wpAny_bind ((strKind P w).pyHash (k := sing c) (is_str _ _) ?_))
    have ha1 : (s.heap.update it (fun _ => itObj x u (i + 1))).get? a = some (sObj "set" D) := PySem.Heap.get?_update_of_ne _ (Ne.symm hne) ha
    have hit1 : (s.heap.update it (fun _ => itObj x u (i + 1))).get? it = some (itObj x u (i + 1)) := get_upd _ hit rfl
    have oth1 : ∀ b o, b ≠ it → s.heap.get? b = some o → (s.heap.update it (fun _ => itObj x u (i + 1))).get? b = some o := fun b o hb e => PySem.Heap.get?_update_of_ne _ (Ne.symm hb) e
    by_cases hm : sing c ∈ l
    · refine add_in (s := { s with heap := s.heap.update it (fun _ => itObj x u (i + 1)), toks := s.toks + 1 + 1 }) ha1 F hm (by omega) ?_
      refine wpAny_pure ⟨plainId_quiet PyProof.Rows.F.plain_set_update_loop _, upd_all hne hh r (i + 1) D l _ hd2 ha1 hit1 F rr nd (by omega) fun h' tk D' l' k ga F' rr' nd' mm ll => ?_⟩
      refine h h' tk D' l' (fun b o na ni e => k b o na ni (oth1 b o ni e)) ga F' rr' nd' (fun y => ?_) (by show l'.length ≤ l.length + (r.length + 1); omega)
      rw [mm y]
      constructor
      · rintro (q | ⟨d, hd, q⟩)
        · exact .inl q
        · exact .inr ⟨d, List.mem_cons_of_mem _ hd, q⟩
      · rintro (q | ⟨d, hd, q⟩)
        · exact .inl q
        · rcases List.mem_cons.mp hd with e | e
          · exact .inl (by rw [q, e]; exact hm)
          · exact .inr ⟨d, e, q⟩
    · refine add_x (l := l) (D := D) (s := { s with heap := s.heap.update it (fun _ => itObj x u (i + 1)), toks := s.toks + 1 + 1 }) ha1 F hm (by omega) ?_
      have ha2 : ((s.heap.update it (fun _ => itObj x u (i + 1))).update a (fun _ => sObj "set" (addTx (hashStr w (sing c)) (.str (sing c) s.toks) D))).get? a = some (sObj "set" (addTx (hashStr w (sing c)) (.str (sing c) s.toks) D)) := get_upd _ ha1 rfl
      have hit2 : ((s.heap.update it (fun _ => itObj x u (i + 1))).update a (fun _ => sObj "set" (addTx (hashStr w (sing c)) (.str (sing c) s.toks) D))).get? it = some (itObj x u (i + 1)) := PySem.Heap.get?_update_of_ne _ hne hit1
      refine wpAny_pure ⟨plainId_quiet PyProof.Rows.F.plain_set_update_loop _, upd_all hne hh r (i + 1) _ (sing c :: l) _ hd2 ha2 hit2 (add_ok s.toks F) (addTx_ris _ _ rr) (List.nodup_cons.mpr ⟨hm, nd⟩) (by show l.length + 1 + r.length < scanBound; omega) fun h' tk D' l' k ga F' rr' nd' mm ll => ?_⟩
      refine h h' tk D' l' (fun b o na ni e => k b o na ni (PySem.Heap.get?_update_of_ne _ (Ne.symm na) (oth1 b o ni e))) ga F' rr' nd' (fun y => ?_) (by have z : l'.length ≤ l.length + 1 + r.length := ll; show l'.length ≤ l.length + (r.length + 1); omega)
      rw [mm y]
      constructor
      · rintro (q | ⟨d, hd, q⟩)
        · rcases List.mem_cons.mp q with e | e
          · exact .inr ⟨c, List.mem_cons_self, e⟩
          · exact .inl e
        · exact .inr ⟨d, List.mem_cons_of_mem _ hd, q⟩
      · rintro (q | ⟨d, hd, q⟩)
        · exact .inl (List.mem_cons_of_mem _ q)
        · rcases List.mem_cons.mp hd with e | e
          · exact .inl (by rw [q, e]; exact List.mem_cons_self)
          · exact .inr ⟨d, e, q⟩
end
end Lk
end
section
set_option maxRecDepth 100000
set_option maxHeartbeats 2000000
namespace Lk
open PySem PySem.Spec PySem.Calls PySem.Froz PyProof.Rows L2
section
variable {P : Program} {w : World} {A : Around} {E : Value → Shared → Prop} {s : Shared}
def newS (w : World) : Obj := sObj "set" (#[], 0, .fresh 0 0 (!w.params.followText "set-order"))
theorem newS_ok {P : Program} {w : World} : TxOk P w ((#[], 0, .fresh 0 0 (!w.params.followText "set-order")) : SD) [] := TxOk.nil (by rfl)
theorem newS_ris {w : World} : TxR w ((#[], 0, .fresh 0 0 (!w.params.followText "set-order")) : SD) := ⟨List.Pairwise.nil, by
  show _ ∨ (!w.params.followText "set-order") = true
  cases w.params.followText "set-order"
  · exact .inr rfl
  · exact .inl rfl⟩
theorem sub_str_set : isSubtype (.type "str") (.type "set") = pure false := by rw [isSubtype_type]; kernel_rfl
theorem sub_str_frozenset : isSubtype (.type "str") (.type "frozenset") = pure false := by rw [isSubtype_type]; kernel_rfl
theorem sub_str_dict : isSubtype (.type "str") (.type "dict") = pure false := by rw [isSubtype_type]; kernel_rfl
set_option maxRecDepth 100000 in
set_option maxHeartbeats 3200000 in
/-- set(text) -/
theorem call_set_text {x : Str} {u : Tok} {Q : Value → Shared → Prop} (hh : A.handled = none) (ha : x.cps.all (· < 128) = true) (hb : x.cps.toList.length < scanBound)
    (h : ∀ (h' : Heap) (tk : Nat) (D : SD) (l : List Str), h'.get? s.heap.objs.size = some (sObj "set" D) → TxOk P w D l → TxR w D → l.Nodup → (∀ y, y ∈ l ↔ ∃ c ∈ x.cps.toList, y = sing c) → l.length ≤ x.cps.toList.length →
      (∀ b o, s.heap.get? b = some o → h'.get? b = some o) → Q (.ref s.heap.objs.size) { s with heap := h', toks := tk }) :
    wpAny (model P w) A (call (.type "set") [.str x u]) Q E s := by
  obtain ⟨c, tl, hmro⟩ := F.called_set.mro
  have hmade := F.called_set.made
  have hsub := F.called_set.sub
  refine wpAny_call (codeAny_of_tree ?_)
  show wpAny _ _ (callAny (.type "set") _) _ _ _
  refine wpAny_pure ⟨Code.quiet_builtin _ (by decide +kernel), codeAny_builtin F.entry_type_call ?_⟩
  rw [Around.under_plain (weight_type_call_type "set" [.str x u] []) rfl]
  have h1 := F.called_set.notType
  have h2 := F.called_set.canCreate
  have hct := F.typeCall_set_1 (.str x u)
  repeat (any_goals (first | assumption | wp_step))
  refine codeAny_mono (code_set_led1 (.str x u) (E := E) (Q₁ := fun obj s₁ => obj = .ref s.heap.objs.size ∧ s₁ = { s with heap := s.heap.push (newS w) }) ⟨rfl, rfl⟩) fun r s₁ hr => ?_
  cases r with
  | error e => exact hr
  | ok fl =>
    cases fl with
    | ret obj =>
      obtain ⟨rfl, rfl⟩ := hr
      have hS : (s.heap.push (newS w)).get? s.heap.objs.size = some (newS w) := Heap.get?_push_size _ rfl
      have hT : Shared.TypeIs { s with heap := s.heap.push (newS w) } (.ref s.heap.objs.size) "set" := ⟨_, hS, rfl⟩
      have hli := F.called_set.init.lookup
      have hbi := F.called_set.init.bind (.ref s.heap.objs.size)
      repeat (any_goals (first | assumption | wp_step))
      refine codeAny_mono (codeAny_call_builtin (R := wants (fun r s₂ => r = .none ∧ ∃ h' tk D l, s₂ = { s with heap := h', toks := tk } ∧ h'.get? s.heap.objs.size = some (sObj "set" D) ∧ TxOk P w D l ∧ TxR w D ∧ l.Nodup ∧ (∀ y, y ∈ l ↔ ∃ c ∈ x.cps.toList, y = sing c) ∧
          l.length ≤ x.cps.toList.length ∧ (∀ b o, s.heap.get? b = some o → h'.get? b = some o)) E) F.called_set.init.plain F.entry_set_init (check_set_init_1 hT ?_)) fun r₂ s₂ hr₂ => ?_
      · have hsls := sub_str_set
        have hslf := sub_str_frozenset
        have hne : (Value.type "str" == Value.type "dict") = false := by decide
        unfold Builtin.«set.__init__» noKeywords Builtin.Frozenset.updateFrom
        generalize hPI : pyIter = PI
        wp_walk
        subst hPI
        refine wpAny_pyIter_ascii ha ?_
        have ho : ((s.heap.push (newS w)).push (itObj x u 0)).get? s.heap.objs.size = some (newS w) := Heap.get?_push_of_some _ hS
        have hi : ((s.heap.push (newS w)).push (itObj x u 0)).get? (s.heap.push (newS w)).objs.size = some (itObj x u 0) := Heap.get?_push_size _ rfl
        have hne : s.heap.objs.size ≠ (s.heap.push (newS w)).objs.size := by rw [Heap.size_push]; exact Nat.ne_of_lt (Nat.lt_succ_self _)
        have hh3 : A.in1.in1.handled = none := by simp [hh]
        refine wpAny_bind (wpAny_runValue ?_)
        refine upd_all (s := { s with heap := (s.heap.push (newS w)).push (itObj x u 0) }) hne hh3 x.cps.toList 0 _ [] rfl ho hi newS_ok newS_ris List.nodup_nil (by simpa using hb) fun h' tk D' l' k ga F' rr' nd' mm ll => ?_
        refine wpAny_pure (wpAny_pure ⟨rfl, h', tk, D', l', rfl, ga, F', rr', nd', fun y => ?_, by simpa using ll, fun b o e => ?_⟩)
        · rw [mm y]
          simp
        · have hlt := Heap.lt_size e
          exact k b o (Nat.ne_of_lt hlt) (by rw [Heap.size_push]; exact Nat.ne_of_lt (Nat.lt_succ_of_lt hlt)) (Heap.get?_push_of_some _ (Heap.get?_push_of_some _ e))
      · cases r₂ with
        | error e => exact hr₂
        | ok fl₂ =>
          cases fl₂ with
          | ret r =>
            obtain ⟨rfl, h', tk, D, l, rfl, q1, q2, q3, q4, q5, q6, q7⟩ := hr₂
            repeat (any_goals (first | assumption | wp_step))
            exact h _ _ _ _ q1 q2 q3 q4 q5 q6 q7
          | _ => exact hr₂.elim
    | _ => exact hr.elim
end
end Lk
end
section
set_option maxRecDepth 100000
set_option maxHeartbeats 2000000
/-! Sets of signs over the tracked heap. -/
namespace Lk
open PySem PySem.Spec PySem.Froz PyProof.Rows L2
/-- a set of texts of one sign at a -/
def SetT (P : Program) (w : World) (a : Addr) (l : List Str) : HO := .ext fun h => ∃ D, h.get? a = some (sObj "set" D) ∧ TxOk P w D l ∧ TxR w D
theorem setT_ok {P : Program} {w : World} {H : Hp} {h : Heap} {a : Addr} {D : SD} {l : List Str} (e : h.get? a = some (sObj "set" D)) (F : TxOk P w D l) (r : TxR w D) : ObjOk P w H h a (SetT P w a l) :=
  ⟨⟨D, e, F, r⟩, ⟨_, e⟩, fun _ _ ⟨D, q, z⟩ k => ⟨D, k _ q, z⟩⟩
section
variable {X : Cx}
def rSetT (P : Program) (w : World) : List V → Hp → VK → Prop := fun xs H Q => ∃ l : List Nat, xs = [.str (SX.S l)] ∧ l.all (· < 128) = true ∧ l.length < 4000 ∧
  ∀ p ks, H p = none → ks.Nodup → (∀ y, y ∈ ks ↔ ∃ c ∈ l, y = sing c) → ks.length ≤ l.length → Q (.ref p) (upd H p (SetT P w p ks))
theorem cr_setT (hc : X.calm = true) : CallR X (.type "set") (rSetT X.prog X.w) := by
  intro pins s σ H xs us Q I r h
  obtain ⟨l, rfl, ha, hb, q⟩ := h
  obtain ⟨u, rfl, t, rfl⟩ := vals1 r
  refine call_set_text (I.ok.hd hc) (by rw [← Array.all_toList]; exact ha) (Nat.lt_trans (show (SX.S l).cps.toList.length < 4000 from hb) (by decide)) fun h' tk D ks g F rr nd mm ll k => ?_
  exact ⟨.ref _, upd H s.heap.objs.size (SetT X.prog X.w s.heap.objs.size ks), I.laid (t' := tk) k (Nat.le_refl _) (setT_ok g F rr), rfl, q _ ks (I.hok.fresh (Nat.le_refl _)) nd mm ll⟩
/-- len of it -/
def rLenT (P : Program) (w : World) : List V → Hp → VK → Prop := fun xs H Q => ∃ a ks, xs = [.ref a] ∧ H a = some (SetT P w a ks) ∧ ks.length < 4096 ∧ Q (.int ks.length) H
theorem call_lenT : CallR X (.builtin "len") (rLenT X.prog X.w) := by
  intro pins s σ H xs us Q I r h
  obtain ⟨a, ks, rfl, ha, hz, q⟩ := h
  obtain ⟨u, rfl, hu⟩ := vals1 r
  cases (show u = Value.ref a from hu)
  obtain ⟨⟨D, g, F, rr⟩, _⟩ := I.hok a _ ha
  have e : D.1.size = ks.length := F.sz
  refine call_len_set (es := D.1) (ep := D.2.1) (t := D.2.2) g ⟨rfl, rfl, rfl⟩ rfl F.fit (by rw [e]; omega) ?_
  exact ⟨.int ks.length, H, I.tok _, ⟨_, by rw [e]⟩, q⟩
end
end Lk
end
section
set_option maxRecDepth 100000
set_option maxHeartbeats 2000000
namespace Lk
open PySem PySem.Spec PyProof.Rows L2
/-! ### counting -/
theorem sub_len {α : Type} [DecidableEq α] : ∀ {ks L : List α}, ks.Nodup → (∀ y ∈ ks, y ∈ L) → ks.length ≤ L.length
  | [], _, _, _ => Nat.zero_le _
  | k :: ks, L, nd, h => by
    obtain ⟨h1, h2⟩ := List.nodup_cons.mp nd
    have hk : k ∈ L := h k List.mem_cons_self
    have e : (L.erase k).length = L.length - 1 := List.length_erase_of_mem hk
    have hp : 0 < L.length := List.length_pos_of_mem hk
    have ih := sub_len (ks := ks) (L := L.erase k) h2 fun y hy => by
      have ny : y ≠ k := fun z => h1 (by rw [← z]; exact hy)
      exact (List.mem_erase_of_ne ny).mpr (h y (List.mem_cons_of_mem _ hy))
    show ks.length + 1 ≤ L.length
    omega
theorem less_of_dup {α : Type} [DecidableEq α] : ∀ {L : List α}, ¬ L.Nodup → ∃ L' : List α, L'.length < L.length ∧ ∀ y, y ∈ L → y ∈ L'
  | [], h => absurd List.nodup_nil h
  | x :: L, h => by
    by_cases hx : x ∈ L
    · exact ⟨L, Nat.lt_succ_self _, fun y hy => by
        rcases List.mem_cons.mp hy with e | e
        · rw [e]; exact hx
        · exact e⟩
    · have hL : ¬ L.Nodup := fun z => h (List.nodup_cons.mpr ⟨hx, z⟩)
      obtain ⟨L', l1, l2⟩ := less_of_dup hL
      exact ⟨x :: L', Nat.succ_lt_succ l1, fun y hy => by
        rcases List.mem_cons.mp hy with e | e
        · rw [e]; exact List.mem_cons_self
        · exact List.mem_cons_of_mem _ (l2 y e)⟩
theorem map_sing_nodup {l : List Nat} (h : l.Nodup) : (l.map PySem.Froz.sing).Nodup := by
  induction l with
  | nil => exact List.nodup_nil
  | cons c r ih =>
    obtain ⟨h1, h2⟩ := List.nodup_cons.mp h
    refine List.nodup_cons.mpr ⟨fun z => ?_, ih h2⟩
    obtain ⟨d, hd, e⟩ := List.mem_map.mp z
    rw [sing_inj e] at hd
    exact h1 hd
/-- a set of a text's signs has as many as the text just where they are unlike -/
theorem set_len {l : List Nat} {ks : List Str} (nd : ks.Nodup) (mm : ∀ y, y ∈ ks ↔ ∃ c ∈ l, y = PySem.Froz.sing c) : ks.length = l.length ↔ l.Nodup := by
  have mm' : ∀ y, y ∈ ks ↔ y ∈ l.map PySem.Froz.sing := fun y => by
    rw [mm y, List.mem_map]
    exact ⟨fun ⟨c, h, e⟩ => ⟨c, h, e.symm⟩, fun ⟨c, h, e⟩ => ⟨c, h, e.symm⟩⟩
  constructor
  · intro e
    by_cases h : l.Nodup
    · exact h
    · obtain ⟨L', l1, l2⟩ := less_of_dup h
      have z := sub_len nd (L := L'.map PySem.Froz.sing) fun y hy => by
        obtain ⟨c, hc, rfl⟩ := (mm y).mp hy
        exact List.mem_map.mpr ⟨c, l2 c hc, rfl⟩
      rw [List.length_map] at z
      omega
  · intro h
    have a := sub_len nd (L := l.map PySem.Froz.sing) fun y hy => (mm' y).mp hy
    have b := sub_len (map_sing_nodup h) (L := ks) fun y hy => (mm' y).mpr hy
    rw [List.length_map] at a b
    omega
/-! ### turning -/
def rotL (l : List Nat) (k : Nat) : List Nat := l.drop k ++ l.take k
/-- d is the least turn, one at least, that gives the loop again -/
def IsPer (l : List Nat) (d : Nat) : Prop := 1 ≤ d ∧ d ≤ l.length ∧ rotL l (d % l.length) = l ∧ ∀ j, 1 ≤ j → j < d → rotL l (j % l.length) ≠ l
theorem isLoop_len {l : List Nat} (h : isLoop l = true) : Az l ∧ 1 ≤ l.length ∧ l.length ≤ 12 := by
  unfold isLoop at h
  rw [Bool.and_eq_true, Bool.and_eq_true, decide_eq_true_eq, decide_eq_true_eq] at h
  exact ⟨isAz_iff.mp h.1, h.2⟩
theorem az_small {l : List Nat} (h : Az l) : l.all (· < 128) = true := by
  rw [List.all_eq_true]
  intro c hc
  have z := h c hc
  exact decide_eq_true (by omega)
theorem LoopV.text {H : Hp} {v : V} {b : Bool} (h : LoopV H v b) (hb : b = true) : ∃ l, v = .str (S l) ∧ isLoop l = true := by
  cases h with
  | str l z => exact ⟨l, rfl, hb⟩
  | oth z => cases hb
theorem small12 {l : List Nat} (h : l.length ≤ 12) : (S l).length ≤ sizeLine := by
  rw [SX.S_len]
  exact Nat.le_trans h (by decide)
section
variable {P : Program} {w : World} {K : PySem.W.Frag} {mg : Str → Option Value} {base : Heap}
def spPlain (C : Addr) : Sp := fun vs H Q E => ∃ v b, vs = [v] ∧ LoopV H v b ∧ (b = true → ∀ l, v = .str (S l) → ∀ H', Same H H' → Q (.bl (decide l.Nodup)) H') ∧ (b = false → ∀ H', Same H H' → E (.ref C) none H')
theorem sc_plain : FnScope ["loop"] ["loop"] (defScope s_is_plain) := ⟨rfl, rfl, rfl, by decide +kernel, rfl, by decide +kernel, by decide +kernel⟩
theorem ok_plain {f C : Addr} {fd : FuncData} (F : Fun K "is_plain" "is_plain" s_is_plain f fd) (cl : CalX P w K mg base 3 "refuse_no_loop" (spRefuse C)) (ml : mg "len" = none) (ms : mg "set" = none) : FnOk P w K mg base (L2.CX P w) 4 f fd ["loop"] (spPlain C) := by
  refine F.okX sc_plain (fun vs H Q E h => ?_) (fun cdv A outer s H vs Q E hr h => ?_)
  · obtain ⟨v, b, rfl, _⟩ := h
    rfl
  · obtain ⟨v, b, rfl, hv, q0, q1⟩ := h
    refine ⟨_, pss_cons (ps_expr (pe_cX cl (takes_of rfl rfl rfl rfl) hr (Nat.le_refl _) rfl (pa_cons (pv 0) pa_nil)))
      (pss_one (ps_ret (pe_cmpR op_eq (pe_callB call_lenT (by rfl) ml PySem.boot_len (pa_cons (pe_callTy (cr_setT rfl) (by rfl) ms (by decide +kernel) (pa_cons (pv 0) pa_nil)) pa_nil))
        (pe_callB call_len_str (by rfl) ml PySem.boot_len (pa_cons (pv 0) pa_nil)) (nomark _)))), ?_⟩
    refine ⟨_, rfl, v, b, rfl, hv, fun hb H1 s1 => ?_, fun hb H1 s1 => q1 hb H1 s1⟩
    obtain ⟨l, rfl, hl⟩ := hv.text hb
    obtain ⟨az, l1, l12⟩ := isLoop_len hl
    refine ⟨_, rfl, l, rfl, az_small az, by omega, fun p ks hp nd mm ll => ?_⟩
    refine ⟨p, ks, rfl, upd_same, by omega, _, rfl, S l, rfl, small12 l12, rfl, ?_⟩
    have e : decide (V.int (ks.length : Nat) = V.int ((S l).length : Nat)) = decide l.Nodup := by
      rw [SX.S_len]
      by_cases c : l.Nodup
      · rw [decide_eq_true c, decide_eq_true]
        rw [(set_len nd mm).mpr c]
      · rw [decide_eq_false c, decide_eq_false]
        intro z
        have z2 := V.int.inj z
        exact c ((set_len nd mm).mp (by omega))
    show Q (.bl (decide (V.int (ks.length : Nat) = V.int ((S l).length : Nat)))) _
    rw [e]
    exact q0 hb l rfl _ (s1.trans (same_new hp))
def spTurned (C : Addr) : Sp := fun vs H Q E => ∃ v n b, vs = [v, .int n] ∧ LoopV H v b ∧ (b = true → ∀ l, v = .str (S l) → ∀ H', Same H H' → Q (.str (S (rotL l (n % l.length).toNat))) H') ∧ (b = false → ∀ H', Same H H' → E (.ref C) none H')
theorem sc_turned : FnScope ["loop", "by", "at"] ["loop", "by"] (defScope s_turned) := ⟨rfl, rfl, rfl, by decide +kernel, rfl, by decide +kernel, by decide +kernel⟩
theorem ok_turned {f C : Addr} {fd : FuncData} (F : Fun K "turned" "turned" s_turned f fd) (cl : CalX P w K mg base 3 "refuse_no_loop" (spRefuse C)) (ml : mg "len" = none) : FnOk P w K mg base (L2.CX P w) 4 f fd ["loop", "by"] (spTurned C) := by
  refine F.okX sc_turned (fun vs H Q E h => ?_) (fun cdv A outer s H vs Q E hr h => ?_)
  · obtain ⟨v, n, b, rfl, _⟩ := h
    rfl
  · obtain ⟨v, n, b, rfl, hv, q0, q1⟩ := h
    have nd := sc_turned.nd
    refine ⟨_, pss_cons (ps_expr (pe_cX cl (takes_of rfl rfl rfl rfl) hr (Nat.le_refl _) rfl (pa_cons (pv 0) pa_nil)))
      (pss_cons (ps_set (i := 2) nd rfl (Or.inl rfl) (pe_op op_mod (pv 1) (pe_callB call_len_str (by rfl) ml PySem.boot_len (pa_cons (pv 0) pa_nil))))
      (pss_one (ps_ret (pe_op op_add_str (pe_slice C8.sl_txt (pv 0) (po_some (pv 2)) po_none) (pe_slice C8.sl_txt (pv 0) po_none (po_some (pv 2))))))), ?_⟩
    refine ⟨_, rfl, v, b, rfl, hv, fun hb H1 s1 => ?_, fun hb H1 s1 => q1 hb H1 s1⟩
    obtain ⟨l, rfl, hl⟩ := hv.text hb
    obtain ⟨az, l1, l12⟩ := isLoop_len hl
    refine ⟨_, rfl, _, rfl, S l, rfl, small12 l12, n, _, rfl, rfl, (by rw [SX.S_len]; show (0 : Int) < l.length; omega), ?_⟩
    have hk : 0 ≤ n % (l.length : Int) := Int.emod_nonneg _ (by omega)
    refine ⟨_, rfl, _, rfl, _, rfl, S l, rfl, small12 l12, _, rfl, _, rfl, _, rfl, S l, rfl, small12 l12, ?_⟩
    rw [SX.S_len, SX.slice_from hk, SX.slice_to hk]
    refine ⟨_, _, rfl, rfl, ?_, ?_⟩
    · rw [SX.S_len, SX.S_len, List.length_drop, List.length_take]
      exact Nat.le_trans (show _ ≤ 24 by omega) (by decide)
    · rw [SX.S_cat]
      exact q0 hb l rfl H1 s1
end
end Lk
end
section
set_option maxRecDepth 100000
set_option maxHeartbeats 2000000
/-! The mathematics of loops. -/
namespace Lk
open PySem PySem.Spec PyProof.Rows L2
/-- the k-th letter of the endless loop -/
def lat (l : List Nat) (k : Nat) : Nat := l.getD (k % l.length) 0
theorem getD_eq {l : List Nat} {i : Nat} (h : i < l.length) : l.getD i 0 = l[i] := by
  rw [List.getD_eq_getElem?_getD, List.getElem?_eq_getElem h]
  rfl
theorem rotL_len (l : List Nat) (k : Nat) : (rotL l k).length = l.length := by
  unfold rotL
  rw [List.length_append, List.length_drop, List.length_take]
  omega
theorem rotL_at {l : List Nat} {k i : Nat} (hk : k < l.length) (hi : i < l.length) : (rotL l k).getD i 0 = l.getD ((i + k) % l.length) 0 := by
  unfold rotL
  rw [List.getD_eq_getElem?_getD, List.getD_eq_getElem?_getD]
  by_cases c : i < l.length - k
  · rw [List.getElem?_append_left (by rw [List.length_drop]; exact c), List.getElem?_drop, Nat.mod_eq_of_lt (by omega), Nat.add_comm]
  · rw [List.getElem?_append_right (by rw [List.length_drop]; omega), List.length_drop, List.getElem?_take, if_pos (by omega)]
    have e : (i + k) % l.length = i - (l.length - k) := by
      rw [Nat.mod_eq_sub_mod (by omega), Nat.mod_eq_of_lt (by omega)]
      omega
    rw [e]
theorem lat_mod (l : List Nat) (k : Nat) : lat l (k % l.length) = lat l k := by
  unfold lat
  rw [Nat.mod_mod]
theorem ext_getD {a b : List Nat} (hl : a.length = b.length) (h : ∀ i, i < a.length → a.getD i 0 = b.getD i 0) : a = b := by
  refine List.ext_getElem hl fun i h1 h2 => ?_
  have z := h i h1
  rw [getD_eq h1, getD_eq h2] at z
  exact z
theorem rot_per {l : List Nat} {j : Nat} (h0 : 0 < l.length) : rotL l (j % l.length) = l ↔ ∀ k, lat l (k + j) = lat l k := by
  have hj : j % l.length < l.length := Nat.mod_lt _ h0
  constructor
  · intro e k
    have hk : k % l.length < l.length := Nat.mod_lt _ h0
    have z := rotL_at hj hk
    rw [e] at z
    unfold lat
    rw [z, Nat.add_mod k j]
  · intro h
    refine ext_getD (rotL_len _ _) fun i hi => ?_
    rw [rotL_len] at hi
    rw [rotL_at hj hi]
    have z := h i
    unfold lat at z
    rw [Nat.mod_eq_of_lt hi] at z
    rw [← z]
    congr 1
    rw [Nat.add_mod i j, Nat.add_mod i (j % l.length), Nat.mod_mod]
theorem per_mul {l : List Nat} {d : Nat} (h : ∀ k, lat l (k + d) = lat l k) : ∀ q k, lat l (k + d * q) = lat l k
  | 0, k => by rw [Nat.mul_zero, Nat.add_zero]
  | q + 1, k => by
    rw [Nat.mul_succ, ← Nat.add_assoc, h, per_mul h q k]
theorem per_mod {l : List Nat} {d : Nat} (h : ∀ k, lat l (k + d) = lat l k) (k : Nat) : lat l (k % d) = lat l k := by
  have z := per_mul h (k / d) (k % d)
  rw [Nat.mod_add_div] at z
  exact z.symm
theorem take_at {l : List Nat} {d i : Nat} (hd : d ≤ l.length) (hi : i < d) : (l.take d).getD i 0 = lat l i := by
  unfold lat
  rw [Nat.mod_eq_of_lt (by omega), List.getD_eq_getElem?_getD, List.getElem?_take, if_pos hi, ← List.getD_eq_getElem?_getD]
theorem per_of {l : List Nat} {d : Nat} (h : IsPer l d) : ∀ k, lat l (k + d) = lat l k := (rot_per (by have := h.1; have := h.2.1; omega)).mp h.2.2.1
/-- two loops have one root just where they read alike for ever -/
theorem roots {a b : List Nat} {d e : Nat} (ha : IsPer a d) (hb : IsPer b e) : a.take d = b.take e ↔ ∀ k, lat a k = lat b k := by
  have pa := per_of ha
  have pb := per_of hb
  have la : (a.take d).length = d := by rw [List.length_take]; exact Nat.min_eq_left ha.2.1
  have lb : (b.take e).length = e := by rw [List.length_take]; exact Nat.min_eq_left hb.2.1
  constructor
  · intro z k
    have ed : d = e := by rw [← la, z, lb]
    subst ed
    rw [← per_mod pa k, ← per_mod pb k]
    have hk : k % d < d := Nat.mod_lt _ ha.1
    rw [← take_at ha.2.1 hk, ← take_at hb.2.1 hk, z]
  · intro z
    have ed : d = e := by
      rcases Nat.lt_trichotomy d e with c | c | c
      · have q : ∀ k, lat b (k + d) = lat b k := fun k => by rw [← z, ← z, pa]
        exact absurd ((rot_per (by have := hb.1; have := hb.2.1; omega)).mpr q) (hb.2.2.2 d ha.1 c)
      · exact c
      · have q : ∀ k, lat a (k + e) = lat a k := fun k => by rw [z, z, pb]
        exact absurd ((rot_per (by have := ha.1; have := ha.2.1; omega)).mpr q) (ha.2.2.2 e hb.1 c)
    subst ed
    refine ext_getD (by rw [la, lb]) fun i hi => ?_
    rw [la] at hi
    rw [take_at ha.2.1 hi, take_at hb.2.1 hi, z]
theorem least {p : Nat → Prop} : ∀ n, p n → ∃ k, p k ∧ k ≤ n ∧ ∀ j, j < k → ¬ p j := by
  intro n
  induction n using Nat.strongRecOn with
  | ind n ih =>
    intro h
    by_cases c : ∃ j, j < n ∧ p j
    · obtain ⟨j, hj, hp⟩ := c
      obtain ⟨k, k1, k2, k3⟩ := ih j hj hp
      exact ⟨k, k1, by omega, k3⟩
    · exact ⟨n, h, Nat.le_refl _, fun j hj hp => c ⟨j, hj, hp⟩⟩
/-- each loop has a root -/
theorem per_ex {l : List Nat} (h0 : 0 < l.length) : ∃ d, IsPer l d := by
  have hn : 1 ≤ l.length ∧ rotL l (l.length % l.length) = l := ⟨h0, by rw [Nat.mod_self]; unfold rotL; simp⟩
  obtain ⟨k, k1, k2, k3⟩ := least (p := fun d => 1 ≤ d ∧ rotL l (d % l.length) = l) l.length hn
  exact ⟨k, k1.1, k2, k1.2, fun j j1 j2 e => k3 j j2 ⟨j1, e⟩⟩
/-- two loops that read alike for as many letters as their lengths' product read alike for ever -/
theorem alike_all {a b : List Nat} (h : ∀ k, k < a.length * b.length → lat a k = lat b k) (ha : 0 < a.length) (hb : 0 < b.length) : ∀ k, lat a k = lat b k := by
  intro k
  have hk : k % (a.length * b.length) < a.length * b.length := Nat.mod_lt _ (Nat.mul_pos ha hb)
  have z := h _ hk
  unfold lat at z ⊢
  rw [Nat.mod_mul_right_mod, Nat.mod_mul_left_mod] at z
  exact z
end Lk
end
section
set_option maxRecDepth 100000
set_option maxHeartbeats 2000000
namespace Lk
open PySem PySem.Spec PyProof.Rows L2
section
variable {P : Program} {w : World} {K : PySem.W.Frag} {mg : Str → Option Value} {base : Heap}
def spRoot (C : Addr) : Sp := fun vs H Q E => ∃ v b, vs = [v] ∧ LoopV H v b ∧ (b = true → ∀ l d, v = .str (S l) → IsPer l d → ∀ H', Same H H' → Q (.str (S (l.take d))) H') ∧ (b = false → ∀ H', Same H H' → E (.ref C) none H')
theorem sc_root : FnScope ["loop", "size"] ["loop"] (defScope s_root) := ⟨rfl, rfl, rfl, by decide +kernel, rfl, by decide +kernel, by decide +kernel⟩
theorem ok_root {f C : Addr} {fd : FuncData} (F : Fun K "root" "root" s_root f fd) (cl : CalX P w K mg base 3 "refuse_no_loop" (spRefuse C)) (ct : CalX P w K mg base 4 "turned" (spTurned C)) : FnOk P w K mg base (L2.CX P w) 5 f fd ["loop"] (spRoot C) := by
  refine F.okX sc_root (fun vs H Q E h => ?_) (fun cdv A outer s H vs Q E hr h => ?_)
  · obtain ⟨v, b, rfl, _⟩ := h
    rfl
  · obtain ⟨v, b, rfl, hv, q0, q1⟩ := h
    have nd := sc_root.nd
    refine ⟨_, pss_cons (ps_expr (pe_cX cl (takes_of rfl rfl rfl rfl) hr (by decide) rfl (pa_cons (pv 0) pa_nil)))
      (pss_cons (ps_set (i := 1) nd rfl (Or.inl rfl) pe_int)
      (pss_cons (ps_while (passes_of rfl) (pt_cmpR op_ne (pe_cX ct (takes_of rfl rfl rfl rfl) hr (by decide) rfl (pa_cons (pv 0) (pa_cons (pv 1) pa_nil))) (pv 0) (nomark _))
        (pss_one (ps_aug (i := 1) nd rfl (Or.inl rfl) pe_int ip_add)))
      (pss_one (ps_ret (pe_slice C8.sl_txt (pv 0) po_none (po_some (pv 1))))))), ?_⟩
    refine ⟨_, rfl, v, b, rfl, hv, fun hb H1 s1 => ?_, fun hb H1 s1 => q1 hb H1 s1⟩
    obtain ⟨l, rfl, hl⟩ := hv.text hb
    obtain ⟨az, l1, l12⟩ := isLoop_len hl
    refine ⟨fun m σ H2 => ∃ sz : Nat, σ = [some (.str (S l)), some (.int sz)] ∧ 1 ≤ sz ∧ sz ≤ l.length ∧ (∀ j, 1 ≤ j → j < sz → rotL l (j % l.length) ≠ l) ∧ Same H H2 ∧ m = l.length - sz,
      ⟨l.length - 1, 1, rfl, Nat.le_refl _, l1, (fun j a b => by omega), s1, rfl⟩, ?_⟩
    rintro m σ H2 ⟨sz, rfl, z1, zn, zz, s2, rfl⟩
    refine ⟨_, rfl, _, rfl, .str (S l), sz, b, rfl, hv.same s2, fun _ l' e H3 s3 => ?_, fun e => ?_⟩
    · have el : l' = l := SX.S_inj (V.str.inj e).symm
      subst el
      have hm : ((sz : Int) % (l'.length : Int)).toNat = sz % l'.length := by omega
      rw [hm]
      refine ⟨_, rfl, rfl, _, rfl, ?_⟩
      by_cases c : rotL l' (sz % l'.length) = l'
      · refine iteNS (by rw [c]) ?_
        refine ⟨_, rfl, _, rfl, _, rfl, S l', rfl, small12 l12, ?_⟩
        rw [SX.slice_to (by omega : (0 : Int) ≤ (sz : Int))]
        exact q0 hb l' sz rfl ⟨z1, zn, c, zz⟩ H3 (s2.trans s3)
      · have lt : sz < l'.length := by
          rcases Nat.lt_or_ge sz l'.length with g | g
          · exact g
          · have eq : sz = l'.length := by omega
            exact absurd (show rotL l' (sz % l'.length) = l' by rw [eq, Nat.mod_self]; unfold rotL; simp) c
        have nt : (!decide (V.str (S (rotL l' (sz % l'.length))) = V.str (S l'))) = true := by
          rw [decide_eq_false (fun z => c (SX.S_inj (V.str.inj z)))]
          rfl
        show (if (!decide (V.str (S (rotL l' (sz % l'.length))) = V.str (S l'))) = true then _ else _)
        rw [if_pos nt]
        refine ⟨fun σ' H' => σ' = [some (.str (S l')), some (.int ((sz + 1 : Nat) : Int))] ∧ Same H H', fun σ' H' hN => ?_, ?_⟩
        · obtain ⟨rfl, s4⟩ := hN
          refine ⟨l'.length - (sz + 1), by omega, sz + 1, rfl, by omega, by omega, fun j j1 j2 => ?_, s4, rfl⟩
          by_cases g : j = sz
          · rw [g]; exact c
          · exact zz j j1 (by omega)
        · refine ⟨_, rfl, _, _, rfl, rfl, rfl, s2.trans s3⟩
    · rw [hb] at e
      cases e
/-- how many letters two loops read alike, or None -/
def spAlike (C : Addr) : Sp := fun vs H Q E => ∃ v u b c, vs = [v, u] ∧ LoopV H v b ∧ LoopV H u c ∧ (b = true → c = true → ∀ l m, v = .str (S l) → u = .str (S m) →
    ((∀ k, lat l k = lat m k) → ∀ H', Same H H' → Q .non H') ∧ (∀ k : Nat, lat l k ≠ lat m k → (∀ j, j < k → lat l j = lat m j) → ∀ H', Same H H' → Q (.int k) H')) ∧ ((b && c) = false → ∀ H', Same H H' → E (.ref C) none H')
theorem lat_item {l : List Nat} (h0 : 0 < l.length) (k : Nat) : (S l).cps[((k : Int) % (l.length : Int)).toNat]? = some (lat l k) := by
  have e : ((k : Int) % (l.length : Int)).toNat = k % l.length := by omega
  have hk : k % l.length < l.length := Nat.mod_lt _ h0
  rw [e]
  show (l.toArray)[k % l.length]? = some (lat l k)
  rw [List.getElem?_toArray, List.getElem?_eq_getElem hk]
  unfold lat
  rw [getD_eq hk]
theorem sc_alike : FnScope ["one", "other", "many"] ["one", "other"] (defScope s_alike_for) := ⟨rfl, rfl, rfl, by decide +kernel, rfl, by decide +kernel, by decide +kernel⟩
theorem ok_alike {f C : Addr} {fd : FuncData} (F : Fun K "alike_for" "alike_for" s_alike_for f fd) (cl : CalX P w K mg base 5 "root" (spRoot C)) (ml : mg "len" = none) : FnOk P w K mg base (L2.CX P w) 6 f fd ["one", "other"] (spAlike C) := by
  refine F.okX sc_alike (fun vs H Q E h => ?_) (fun cdv A outer s H vs Q E hr h => ?_)
  · obtain ⟨v, u, b, c, rfl, _⟩ := h
    rfl
  · obtain ⟨v, u, b, c, rfl, hv, hu, q0, q1⟩ := h
    have nd := sc_alike.nd
    refine ⟨_, pss_cons (ps_if (pt_cmpR op_eq (pe_cX cl (takes_of rfl rfl rfl rfl) hr (by decide) rfl (pa_cons (pv 0) pa_nil)) (pe_cX cl (takes_of rfl rfl rfl rfl) hr (by decide) rfl (pa_cons (pv 1) pa_nil)) (nomark _)) (pss_one (ps_ret pe_non)) pss_nil)
      (pss_cons (ps_set (i := 2) nd rfl (Or.inl rfl) pe_int)
      (pss_cons (ps_while (passes_of rfl) (pt_cmpR op_eq (pe_item_str (pv 0) (pe_op op_mod (pv 2) (pe_callB call_len_str (by rfl) ml PySem.boot_len (pa_cons (pv 0) pa_nil))) (fun _ _ => rfl))
          (pe_item_str (pv 1) (pe_op op_mod (pv 2) (pe_callB call_len_str (by rfl) ml PySem.boot_len (pa_cons (pv 1) pa_nil))) (fun _ _ => rfl)) (nomark _))
        (pss_one (ps_aug (i := 2) nd rfl (Or.inl rfl) pe_int ip_add)))
      (pss_one (ps_ret (pv 2))))), ?_⟩
    refine ⟨_, rfl, v, b, rfl, hv, fun hb l d el pd H1 s1 => ?_, fun hb H1 s1 => q1 (by rw [hb]; rfl) H1 s1⟩
    refine ⟨_, rfl, u, c, rfl, hu.same s1, fun hc m e em pe H2 s2 => ?_, fun hc H2 s2 => q1 (by rw [hc, Bool.and_false]) H2 (s1.trans s2)⟩
    have s12 := s1.trans s2
    obtain ⟨kN, kI⟩ := q0 hb hc l m el em
    subst el
    subst em
    have il : isLoop l = true := by
      obtain ⟨l', z, hl⟩ := hv.text hb
      rw [SX.S_inj (V.str.inj z)]
      exact hl
    have im : isLoop m = true := by
      obtain ⟨l', z, hl⟩ := hu.text hc
      rw [SX.S_inj (V.str.inj z)]
      exact hl
    obtain ⟨azl, l1, l12⟩ := isLoop_len il
    obtain ⟨azm, m1, m12⟩ := isLoop_len im
    refine ⟨rfl, _, rfl, ite2 (fun g => ?_) (fun g => ?_)⟩
    · have g1 := (roots pd pe).mp (SX.S_inj (V.str.inj (of_decide_eq_true g)))
      exact kN g1 H2 s12
    · have g1 : ¬ ∀ k, lat l k = lat m k := fun z => g (decide_eq_true (by rw [(roots pd pe).mpr z]))
      obtain ⟨k, hk, hj⟩ : ∃ k, lat l k ≠ lat m k ∧ ∀ j, j < k → lat l j = lat m j := by
        obtain ⟨k0, hk0⟩ := Classical.not_forall.mp g1
        obtain ⟨k, k1, _, k3⟩ := least (p := fun k => lat l k ≠ lat m k) k0 hk0
        exact ⟨k, k1, fun j hj => Classical.byContradiction (k3 j hj)⟩
      have hbig : k < 1000 := by
        rcases Nat.lt_or_ge k 1000 with c | c
        · exact c
        · have hle : l.length * m.length ≤ 12 * 12 := Nat.mul_le_mul l12 m12
          exact absurd (alike_all (fun j h => hj j (by omega)) (by omega) (by omega)) g1
      refine ⟨fun n σ H3 => ∃ t : Nat, σ = [some (.str (S l)), some (.str (S m)), some (.int t)] ∧ t ≤ k ∧ Same H H3 ∧ n = k - t, ⟨k, 0, rfl, Nat.zero_le _, s12, rfl⟩, ?_⟩
      rintro n σ H3 ⟨t, rfl, htk, s3, rfl⟩
      have lp : (0 : Int) < l.length := by omega
      have mp : (0 : Int) < m.length := by omega
      refine ⟨_, rfl, _, rfl, _, rfl, S l, rfl, small12 l12, _, _, rfl, rfl, (by rw [SX.S_len]; exact lp), ?_⟩
      rw [SX.S_len]
      refine ⟨S l, _, lat l t, rfl, rfl, Int.emod_nonneg _ (by omega), ?_, ?_, lat_item (by omega) t, ?_⟩
      · have := Int.emod_lt_of_pos (t : Int) lp
        omega
      · rw [SX.S_len]
        exact Int.emod_lt_of_pos _ lp
      refine ⟨_, rfl, _, rfl, _, rfl, S m, rfl, small12 m12, _, _, rfl, rfl, (by rw [SX.S_len]; exact mp), ?_⟩
      rw [SX.S_len]
      refine ⟨S m, _, lat m t, rfl, rfl, Int.emod_nonneg _ (by omega), ?_, ?_, lat_item (by omega) t, ?_⟩
      · have := Int.emod_lt_of_pos (t : Int) mp
        omega
      · rw [SX.S_len]
        exact Int.emod_lt_of_pos _ mp
      refine ⟨rfl, _, rfl, ite2 (fun g => ?_) (fun g => ?_)⟩
      · have ge : lat l t = lat m t := (List.cons.inj (SX.S_inj (V.str.inj (of_decide_eq_true g)))).1
        have tk : t < k := by
          rcases Nat.lt_or_ge t k with c | c
          · exact c
          · have : t = k := by omega
            rw [this] at ge
            exact absurd ge hk
        refine ⟨fun σ' H' => σ' = [some (.str (S l)), some (.str (S m)), some (.int ((t + 1 : Nat) : Int))] ∧ Same H H', fun σ' H' hN => ?_, ?_⟩
        · obtain ⟨rfl, s4⟩ := hN
          exact ⟨k - (t + 1), by omega, t + 1, rfl, by omega, s4, rfl⟩
        · exact ⟨_, rfl, _, _, rfl, rfl, rfl, s3⟩
      · have gn : lat l t ≠ lat m t := fun z => g (decide_eq_true (by rw [z]))
        have tk : t = k := by
          rcases Nat.lt_or_ge t k with c | c
          · exact absurd (hj t c) gn
          · omega
        subst tk
        refine ⟨_, rfl, ?_⟩
        exact kI t hk hj H3 s3
end
end Lk
end
section
set_option maxRecDepth 100000
set_option maxHeartbeats 2000000
namespace Lk
open PySem PySem.Spec PyProof.Rows L2
/-! ### xs.count(b), a list of truths -/
def eqB (k : Bool) (v : Value) : Bool := match v with
  | .bool n => n == k
  | _ => false
theorem bools_of : ∀ {bs : List Bool} {us : List Value}, Vals (bs.map V.bl) us → us = bs.map Value.bool
  | [], _, r => by cases r; rfl
  | b :: bs, _, r => by
    cases r with
    | cons r1 r2 =>
      rw [bools_of r2]
      cases (show _ = Value.bool b from r1)
      rfl
theorem eqB_count (k : Bool) : ∀ bs : List Bool, (bs.map Value.bool).countP (eqB k) = bs.count k
  | [] => rfl
  | b :: bs => by
    rw [List.map_cons, List.countP_cons, List.count_cons, eqB_count k bs]
    rfl
section
variable {X : Cx}
def rCntB (K : PySem.W.Frag) : V → List V → Hp → VK → Prop := fun x xs H Q => ∃ (p : Addr) (bs : List Bool) (k : Bool), x = .ref p ∧ xs = [.bl k] ∧ SqL K H p (bs.map V.bl) ∧ Q (.int (bs.count k : Nat)) H
theorem mt_lcountB : MtR X "list.count" (rCntB X.K) := by
  intro pins s σ H x xs v us Q I rx rxs h
  obtain ⟨p, bs, k, rfl, rfl, hs, q⟩ := h
  cases rx
  obtain ⟨u, rfl, ru⟩ := rxs.one
  cases (show u = Value.bool k from ru)
  obtain ⟨its, rv, ⟨⟨cls, dd, data, sl⟩, n, ho, hc, hdn, hd⟩, hlen⟩ := I.list hs
  simp only at hc hd
  subst hc hd
  have hi := bools_of rv
  subst hi
  refine call_meets PySem.F.slot_list_count ⟨_, ho, rfl⟩ PySem.F.entry_list_count (PySem.F.args_list_count_2 _ _)
    (SeqAt.list_countAt p (bs.map Value.bool).toArray n dd sl (.bool k) (eqB k)) ⟨ho, fun y hy => ?_, ?_⟩
  · have hy' : y ∈ bs.map Value.bool := by simpa using hy
    obtain ⟨b, _, rfl⟩ := List.mem_map.mp hy'
    exact SeqAt.EqAt.bool_bool b k
  · refine ⟨.int (bs.count k : Nat), H, I.tok _, ⟨s.toks, ?_⟩, q⟩
    show Value.int (((bs.map Value.bool).toArray.toList.countP (eqB k) : Nat) : Int) s.toks = Value.int ((bs.count k : Nat) : Int) s.toks
    rw [show (bs.map Value.bool).toArray.toList = bs.map Value.bool from rfl, eqB_count]
end
/-- x names a class that the class at CL is not under -/
def IsNot (K : PySem.W.Frag) (mg : Str → Option Value) (CL : Addr) (x : Str) : Prop := ∃ C, mg x = some (.ref C) ∧ PySem.W.kitOne K (.ref CL) (.ref C) = some false
/-- the classes of errors, seen from the one at CL -/
structure Errs (K : PySem.W.Frag) (mg : Str → Option Value) (CL : Addr) : Prop where
  C : ExcC K CL
  g : mg "NoLoop" = some (.ref CL)
  ve : mg "ValueError" = none
  yes : PySem.W.kitOne K (.ref CL) (.type "ValueError") = some true
  iso : mg "isinstance" = none
  e1 : IsNot K mg CL "NoKnown"
  e2 : IsNot K mg CL "NoText"
  e3 : IsNot K mg CL "NoPairs"
  e4 : IsNot K mg CL "NoCoder"
  e5 : IsNot K mg CL "NoCount"
  e6 : IsNot K mg CL "NotRound"
  f1 : IsNot K mg CL "NoCounts"
  f2 : IsNot K mg CL "NoLog"
  f3 : IsNot K mg CL "NoPlace"
  f4 : IsNot K mg CL "NoRow"
  f5 : IsNot K mg CL "NoSign"
  f6 : IsNot K mg CL "NoTree"
  f7 : IsNot K mg CL "NoWord"
  f8 : IsNot K mg CL "NotLike"
  f9 : IsNot K mg CL "Nothing"
theorem kit_self {K : PySem.W.Frag} (C : Addr) : PySem.W.kitOne K (.ref C) (.ref C) = some true := by
  unfold PySem.W.kitOne
  rw [if_pos (beq_self_eq_true _)]
/-- isinstance(caught, x), x a class of the program's own; caught in slot 0 -/
def tIsG (K : PySem.W.Frag) (C : Addr) : TE := fun σ H Q => ∃ a D b, σ[0]? = some (some (.ref a)) ∧ ExcC K D ∧ H a = some (ExT (.ref D) none a) ∧ PySem.W.kitOne K (.ref D) (.ref C) = some b ∧ Q (.bl b) H
theorem pe_isG {X : Cx} {x : Str} {C : Addr} {p p1 p2 pos : Pos} (mi : X.mg "isinstance" = none) (g : X.mg x = some (.ref C)) (hi : Gl X "isinstance") (hg : Gl X x) (hN : X.N[0]? = some ("caught" : Str)) (hv : Vis X.env.scope ("caught" : Str)) (hd : (x == ("__debug__" : Str)) = false := by decide)
    (hs1 : starEach [Expr.Name "caught" p1, Expr.Name x p2] X.env = (false, eval (.Name "caught" p1) X.env) :: starEach [Expr.Name x p2] X.env := by rfl) (hs2 : starEach [Expr.Name x p2] X.env = (false, eval (.Name x p2) X.env) :: starEach [] X.env := by rfl) :
    PE X (.Call (.Name "isinstance" p) [.Name "caught" p1, .Name x p2] [] pos) (tIsG X.K C) := by
  have h : PE X (.Call (.Name "isinstance" p) [.Name "caught" p1, .Name x p2] [] pos) _ := pe_callB call_isX hi mi (by decide +kernel) (pa_cons (pv 0 hN hv) (pa_cons (pe_glob (v := .ref C) hg g rfl hd) pa_nil))
  refine ⟨fun pins s σ H Q I q => h.run pins s σ H Q I ?_⟩
  obtain ⟨a, D, b, e, c, ha, k, q⟩ := q
  exact ⟨.ref a, e, a, D, .ref C, _, b, rfl, c, ha, .own C, k, q⟩
section
variable {P : Program} {w : World} {K : PySem.W.Frag} {mg : Str → Option Value} {base : Heap}
def spClass (CL : Addr) : Sp := fun vs H Q _ => ∃ a, vs = [.ref a] ∧ H a = some (ExT (.ref CL) none a) ∧ ∀ H', Same H H' → Q (.str "NoLoop") H'
theorem sc_class : FnScope ["caught", "told", "some"] ["caught"] (defScope s_law_class) := ⟨rfl, rfl, rfl, by decide +kernel, rfl, by decide +kernel, by decide +kernel⟩
set_option maxErrors 2 in
theorem ok_class {f CL : Addr} {fd : FuncData} {k : Nat} (F : Fun K "_law_class" "_law_class" s_law_class f fd) (T : Errs K mg CL) : FnOk P w K mg base CX0 (k + 1) f fd ["caught"] (spClass CL) := by
  refine F.ok sc_class (fun vs H Q E h => ?_) (fun cdv A outer s H vs Q E hr h => ?_)
  · obtain ⟨a, rfl, _⟩ := h
    rfl
  · obtain ⟨a, rfl, ha, q⟩ := h
    have nd := sc_class.nd
    obtain ⟨C1, g1, z1⟩ := T.e1
    obtain ⟨C2, g2, z2⟩ := T.e2
    obtain ⟨C3, g3, z3⟩ := T.e3
    obtain ⟨C4, g4, z4⟩ := T.e4
    obtain ⟨C5, g5, z5⟩ := T.e5
    obtain ⟨C6, g6, z6⟩ := T.e6
    obtain ⟨D1, h1, y1⟩ := T.f1
    obtain ⟨D2, h2, y2⟩ := T.f2
    obtain ⟨D3, h3, y3⟩ := T.f3
    obtain ⟨D4, h4, y4⟩ := T.f4
    obtain ⟨D5, h5, y5⟩ := T.f5
    obtain ⟨D6, h6, y6⟩ := T.f6
    obtain ⟨D7, h7, y7⟩ := T.f7
    obtain ⟨D8, h8, y8⟩ := T.f8
    obtain ⟨D9, h9, y9⟩ := T.f9
    have mi := T.iso
    refine ⟨_, pss_cons (by exact (ps_if (pt_val (pe_isG mi g1 rfl rfl rfl (.inl rfl))) (pss_one (ps_set (i := 1) nd rfl (Or.inl rfl) pe_str))
        (by exact (pss_one (ps_if (pt_val (pe_isG mi g2 rfl rfl rfl (.inl rfl))) (pss_one (ps_set (i := 1) nd rfl (Or.inl rfl) pe_str))
        (by exact (pss_one (ps_if (pt_val (pe_isG mi g3 rfl rfl rfl (.inl rfl))) (pss_one (ps_set (i := 1) nd rfl (Or.inl rfl) pe_str))
        (by exact (pss_one (ps_if (pt_val (pe_isG mi T.g rfl rfl rfl (.inl rfl))) (pss_one (ps_set (i := 1) nd rfl (Or.inl rfl) pe_str))
        (by exact (pss_one (ps_if (pt_val (pe_isG mi g4 rfl rfl rfl (.inl rfl))) (pss_one (ps_set (i := 1) nd rfl (Or.inl rfl) pe_str))
        (by exact (pss_one (ps_if (pt_val (pe_isG mi g5 rfl rfl rfl (.inl rfl))) (pss_one (ps_set (i := 1) nd rfl (Or.inl rfl) pe_str))
        (by exact (pss_one (ps_set (i := 1) nd rfl (Or.inl rfl) (pe_ifExp (pt_val (pe_isG mi g6 rfl rfl rfl (.inl rfl))) pe_str pe_str)))))))))))))))))))))
      (pss_cons (by exact (ps_set (i := 2) nd rfl (Or.inl rfl) (pe_lst (pa_cons (pe_callB call_isXT (by rfl) mi (by decide +kernel) (pa_cons (pv 0) (pa_cons (pe_tup (pa_cons (pe_glob (v := .ref D1) rfl h1 rfl) (pa_cons (pe_glob (v := .ref D2) rfl h2 rfl) (pa_cons (pe_glob (v := .ref D3) rfl h3 rfl)
          (pa_cons (pe_glob (v := .ref D4) rfl h4 rfl) (pa_cons (pe_glob (v := .ref D5) rfl h5 rfl) (pa_cons (pe_glob (v := .ref D6) rfl h6 rfl) (pa_cons (pe_glob (v := .ref D7) rfl h7 rfl) (pa_cons (pe_glob (v := .ref D8) rfl h8 rfl) (pa_cons (pe_glob (v := .ref D9) rfl h9 rfl) pa_nil)))))))))) pa_nil))) pa_nil))))
      (pss_cons (by exact (ps_set (i := 2) nd rfl (Or.inl rfl) (pe_op op_cat (pv 2) (pe_lst (pa_cons (pe_isG mi g1 rfl rfl rfl (.inl rfl)) (pa_cons (pe_isG mi g2 rfl rfl rfl (.inl rfl)) (pa_cons (pe_isG mi g3 rfl rfl rfl (.inl rfl)) pa_nil)))))))
      (pss_cons (by exact (ps_set (i := 2) nd rfl (Or.inl rfl) (pe_op op_cat (pv 2) (pe_lst (pa_cons (pe_isG mi T.g rfl rfl rfl (.inl rfl)) (pa_cons (pe_isG mi g4 rfl rfl rfl (.inl rfl)) (pa_cons (pe_isG mi g5 rfl rfl rfl (.inl rfl)) pa_nil)))))))
      (pss_cons (by exact (ps_expr (pe_bm PySem.F.plainAttrs_list PySem.F.slot_list_append PySem.F.type_list_append mt_append (pv 2) (pa_cons (pe_isG mi g6 rfl rfl rfl (.inl rfl)) pa_nil))))
      (pss_one (by exact (ps_ret (pe_ifExp (PW.pt (pw_and (pt_cmpR op_eq (pe_bm PySem.F.plainAttrs_list PySem.F.slot_list_count PySem.F.type_list_count mt_lcountB (pv 2) (pa_cons pe_bl pa_nil)) pe_int (nomark _))
        (pw_and1 (pt_val (pe_callB call_isX (by rfl) mi (by decide +kernel) (pa_cons (pv 0) (pa_cons (pe_bltn (v := .ty "ValueError") (by rfl) T.ve (by decide +kernel) rfl) pa_nil))))))) (pv 1) pe_str)))))))), ?_⟩
    refine ⟨a, CL, false, rfl, T.C, ha, z1, _, rfl, iteF ?_⟩
    refine ⟨a, CL, false, rfl, T.C, ha, z2, _, rfl, iteF ?_⟩
    refine ⟨a, CL, false, rfl, T.C, ha, z3, _, rfl, iteF ?_⟩
    refine ⟨a, CL, true, rfl, T.C, ha, kit_self CL, _, rfl, iteT ?_⟩
    -- some = [..]
    refine ⟨_, rfl, (by show 9 ≤ sizeLine; decide), fun t ht => ?_⟩
    have nat : a ≠ t := ne_of_none ha ht
    have ha1 : ∀ o, (upd H t o) a = some (ExT (.ref CL) none a) := fun o => by rw [upd_ne nat]; exact ha
    refine ⟨a, CL, t, _, [.ref D1, .ref D2, .ref D3, .ref D4, .ref D5, .ref D6, .ref D7, .ref D8, .ref D9], false, rfl, T.C, ha1 _, upd_same, ?_, ?_, ?_⟩
    · exact .cons (.own _) (.cons (.own _) (.cons (.own _) (.cons (.own _) (.cons (.own _) (.cons (.own _) (.cons (.own _) (.cons (.own _) (.cons (.own _) .nil))))))))
    · have no : ∀ b : Bool, false = true → b = true := fun _ z => nomatch z
      exact kitAny_cons y1 (fun _ => kitAny_cons y2 (fun _ => kitAny_cons y3 (fun _ => kitAny_cons y4 (fun _ => kitAny_cons y5 (fun _ => kitAny_cons y6 (fun _ => kitAny_cons y7 (fun _ => kitAny_cons y8 (fun _ => kitAny_cons y9 (fun _ => kitAny_nil) (no _)) (no _)) (no _)) (no _)) (no _)) (no _)) (no _)) (no _)) (no _)
    refine ⟨(by show 1 ≤ sizeLine; decide), fun p1 n1 => ?_⟩
    have s1 := (same_new (o := .tup [.ref D1, .ref D2, .ref D3, .ref D4, .ref D5, .ref D6, .ref D7, .ref D8, .ref D9]) ht).trans (same_new (o := .lst [.bl false]) n1)
    have e1 : upd (upd H t (.tup [.ref D1, .ref D2, .ref D3, .ref D4, .ref D5, .ref D6, .ref D7, .ref D8, .ref D9])) p1 (.lst [.bl false]) p1 = some (.lst [.bl false]) := upd_same
    generalize upd (upd H t (.tup [.ref D1, .ref D2, .ref D3, .ref D4, .ref D5, .ref D6, .ref D7, .ref D8, .ref D9])) p1 (.lst [.bl false]) = H1 at s1 e1 ⊢
    -- some + [..]
    refine ⟨_, rfl, a, CL, false, rfl, T.C, s1 _ _ ha, z1, a, CL, false, rfl, T.C, s1 _ _ ha, z2, a, CL, false, rfl, T.C, s1 _ _ ha, z3, (by show 3 ≤ sizeLine; decide), fun p2 n2 => ?_⟩
    have m1 := same_new (o := .lst [.bl false, .bl false, .bl false]) n2
    refine ⟨p1, p2, [.bl false], [.bl false, .bl false, .bl false], rfl, rfl, m1 _ _ e1, upd_same, (by show 1 + 3 ≤ sizeLine; decide), fun p3 n3 => ?_⟩
    have s2 := (s1.trans m1).trans (same_new (o := .lst ([.bl false] ++ [.bl false, .bl false, .bl false])) n3)
    have e2 : upd (upd H1 p2 (.lst [.bl false, .bl false, .bl false])) p3 (.lst ([.bl false] ++ [.bl false, .bl false, .bl false])) p3 = some (.lst ([.bl false] ++ [.bl false, .bl false, .bl false])) := upd_same
    generalize upd (upd H1 p2 (.lst [.bl false, .bl false, .bl false])) p3 (.lst ([.bl false] ++ [.bl false, .bl false, .bl false])) = H2 at s2 e2 ⊢
    refine ⟨_, rfl, a, CL, true, rfl, T.C, s2 _ _ ha, kit_self CL, a, CL, false, rfl, T.C, s2 _ _ ha, z4, a, CL, false, rfl, T.C, s2 _ _ ha, z5, (by show 3 ≤ sizeLine; decide), fun p4 n4 => ?_⟩
    have m2 := same_new (o := .lst [.bl true, .bl false, .bl false]) n4
    refine ⟨p3, p4, _, [.bl true, .bl false, .bl false], rfl, rfl, m2 _ _ e2, upd_same, (by show 4 + 3 ≤ sizeLine; decide), fun p5 n5 => ?_⟩
    have s3 := (s2.trans m2).trans (same_new (o := .lst (([.bl false] ++ [.bl false, .bl false, .bl false]) ++ [.bl true, .bl false, .bl false])) n5)
    have e3 : upd (upd H2 p4 (.lst [.bl true, .bl false, .bl false])) p5 (.lst (([.bl false] ++ [.bl false, .bl false, .bl false]) ++ [.bl true, .bl false, .bl false])) p5 = some (.lst (([.bl false] ++ [.bl false, .bl false, .bl false]) ++ [.bl true, .bl false, .bl false])) := upd_same
    have n5H : H p5 = none := (s2.trans m2).free n5
    generalize upd (upd H2 p4 (.lst [.bl true, .bl false, .bl false])) p5 (.lst (([.bl false] ++ [.bl false, .bl false, .bl false]) ++ [.bl true, .bl false, .bl false])) = H3 at s3 e3 ⊢
    -- some.append(..)
    refine ⟨_, rfl, .inl ⟨rfl, _, SqL.of e3⟩, a, CL, false, rfl, T.C, s3 _ _ ha, z6, p5, _, _, rfl, rfl, e3, (by show 7 < sizeLine; decide), ?_⟩
    have nap : a ≠ p5 := ne_of_none ha n5H
    have s4 : Same H (upd H3 p5 (.lst ((([.bl false] ++ [.bl false, .bl false, .bl false]) ++ [.bl true, .bl false, .bl false]) ++ [.bl false]))) := fun b o e => by
      rw [upd_ne (ne_of_none e n5H)]
      exact s3 b o e
    refine ⟨_, rfl, .inl ⟨rfl, _, SqL.of upd_same⟩, p5, [false, false, false, false, true, false, false, false], true, rfl, rfl, SqL.of upd_same, rfl, _, rfl, iteT ?_⟩
    refine ⟨_, rfl, a, CL, .ty "ValueError", _, true, rfl, T.C, s4 _ _ ha, .ty _, T.yes, _, rfl, iteT ?_⟩
    exact ⟨_, rfl, q _ s4⟩
end
end Lk
end
section
set_option maxRecDepth 100000
set_option maxHeartbeats 2000000
namespace Lk
open PySem PySem.Spec PyProof.Rows L2
section
variable {P : Program} {w : World} {K : PySem.W.Frag} {mg : Str → Option Value} {base : Heap}
/-- each of the five ways refuses what is no loop, with NoLoop -/
def spNone : Sp := fun vs H Q _ => ∃ (n : Int) (v : V) (l : List Nat), vs = [.int n, v, .str (S l)] ∧ LoopV H v false ∧ isLoop l = true ∧ ∀ H', Same H H' → Q (.bl true) H'
theorem sc_none : FnScope ["way", "thing", "loop", "caught", "e"] ["way", "thing", "loop"] (defScope s_law_none) := ⟨rfl, rfl, rfl, by decide +kernel, rfl, by decide +kernel, by decide +kernel⟩
theorem ok_none {f CL LE : Addr} {fd : FuncData} (F : Fun K "_law_none" "_law_none" s_law_none f fd) (cp : CalX P w K mg base 4 "is_plain" (spPlain CL)) (cr : CalX P w K mg base 5 "root" (spRoot CL)) (ct : CalX P w K mg base 4 "turned" (spTurned CL)) (ca : CalX P w K mg base 6 "alike_for" (spAlike CL))
    (cc : C8.Cal P w K mg base 1 "_law_class" (spClass CL) []) (gE : mg "LearnError" = some (.ref LE)) (te : PySem.W.exmOne K (.ref CL) (.ref LE) = some true) : FnOk P w K mg base CX0 7 f fd ["way", "thing", "loop"] spNone := by
  refine F.ok sc_none (fun vs H Q E h => ?_) (fun cdv A outer s H vs Q E hr h => ?_)
  · obtain ⟨n, v, l, rfl, _⟩ := h
    rfl
  · obtain ⟨n, v, l, rfl, hv, hl, q⟩ := h
    have nd := sc_none.nd
    refine ⟨_, pss_cons (ps_set (i := 3) nd rfl (Or.inl rfl) pe_non)
      (pss_cons (ps_try_keep (i := 4) (ts := fun _ _ _ => tAsg (tVar 4) (gName 3)) rfl rfl rfl nd rfl rfl ⟨rfl, by decide, Or.inl gE⟩
        (fun W pn xe tk _ => by exact (pss_one (ps_if (pt_cmpR op_eq (pv 0) pe_int (nomark _)) (pss_one (ps_expr (pe_cX cp tk hr (by decide) rfl (pa_cons (pv 1) pa_nil))))
          (pss_one (ps_if (pt_cmpR op_eq (pv 0) pe_int (nomark _)) (pss_one (ps_expr (pe_cX cr tk hr (by decide) rfl (pa_cons (pv 1) pa_nil))))
          (pss_one (ps_if (pt_cmpR op_eq (pv 0) pe_int (nomark _)) (pss_one (ps_expr (pe_cX ct tk hr (by decide) rfl (pa_cons (pv 1) (pa_cons pe_int pa_nil)))))
          (pss_one (ps_if (pt_cmpR op_eq (pv 0) pe_int (nomark _)) (pss_one (ps_expr (pe_cX ca tk hr (by decide) rfl (pa_cons (pv 1) (pa_cons (pv 2) pa_nil)))))
          (pss_one (ps_expr (pe_cX ca tk hr (by decide) rfl (pa_cons (pv 2) (pa_cons (pv 1) pa_nil))))))))))))))
        (fun a oe cls d pn hz hf => by exact (pss_one (ps_set (i := 3) nd rfl (Or.inl rfl) (pv 4)))))
      (pss_one (ps_ret (pe_and (pe_cmp (pc_notN (pv 3)) rfl) (pe_one (pe_cmpR op_eq (C8.pe_c cc hr (by decide) rfl (pa_cons (pv 3) pa_nil)) pe_str (nomark _))))))), ?_⟩
    have hl' : LoopV H (.str (S l)) true := by
      have z := isLoop_len hl
      have q : LoopV H (.str (S l)) (isLoop l) := .str l (by omega)
      rw [hl] at q
      exact q
    have noV : ∀ {A : Prop}, false = true → A := fun z => nomatch z
    have fin : ∀ (a : Addr) (H1 : Hp), Same H H1 → H1 a = none → (tRet (tAndV (tNotN (tVar 3)) (tOp rEq (tCall (spClass CL) [] C8.E0 (tCons (tVar 3) tNil)) (tC (V.str "NoLoop"))))) { nx := fun _ H' => Q .non H', rt := Q }
        [some (.int n), some v, some (.str (S l)), some (.ref a), none] (upd H1 a (ExT (.ref CL) none a)) := by
      intro a H1 s1 na
      refine ⟨_, rfl, _, rfl, ?_⟩
      have e : (!decide (V.ref a = V.non)) = true := by
        rw [decide_eq_false (fun z => nomatch z)]
        rfl
      rw [if_pos e]
      refine ⟨_, rfl, a, rfl, upd_same, fun H2 s2 => ⟨rfl, ?_⟩⟩
      rw [decide_eq_true rfl]
      exact q H2 ((s1.trans (same_new na)).trans s2)
    refine ⟨_, rfl, rfl, _, rfl, ite2 (fun _ => ?_) (fun _ => ⟨_, rfl, rfl, _, rfl, ite2 (fun _ => ?_) (fun _ => ⟨_, rfl, rfl, _, rfl, ite2 (fun _ => ?_) (fun _ => ⟨_, rfl, rfl, _, rfl, ite2 (fun _ => ?_) (fun _ => ?_)⟩)⟩)⟩)⟩
    · exact ⟨_, rfl, v, false, rfl, hv, fun z => noV z, fun _ H1 s1 => ⟨te, fun a na => ⟨_, rfl, fun na' => fin a H1 s1 na'⟩⟩⟩
    · exact ⟨_, rfl, v, false, rfl, hv, fun z => noV z, fun _ H1 s1 => ⟨te, fun a na => ⟨_, rfl, fun na' => fin a H1 s1 na'⟩⟩⟩
    · exact ⟨_, rfl, v, 1, false, rfl, hv, fun z => noV z, fun _ H1 s1 => ⟨te, fun a na => ⟨_, rfl, fun na' => fin a H1 s1 na'⟩⟩⟩
    · exact ⟨_, rfl, _, rfl, v, _, false, true, rfl, hv, hl', fun z => noV z, fun _ H1 s1 => ⟨te, fun a na => ⟨_, rfl, fun na' => fin a H1 s1 na'⟩⟩⟩
    · exact ⟨_, rfl, _, rfl, _, v, true, false, rfl, hl', hv, fun _ z => noV z, fun _ H1 s1 => ⟨te, fun a na => ⟨_, rfl, fun na' => fin a H1 s1 na'⟩⟩⟩
end
end Lk
end
section
set_option maxRecDepth 100000
set_option maxHeartbeats 2000000
/-! sorted(text), sorted(set of signs). -/
namespace Lk
open PySem PySem.Spec PySem.Calls PySem.Froz PyProof.Rows L2
section
variable {P : Program} {w : World} {A : Around} {E : Value → Shared → Prop} {s : Shared}
/-- what sorted makes of a thing that falls into fewer than 64 texts -/
theorem sorted_texts {v : Value} {Good : List Str → Prop} {Q : Value → Shared → Prop}
    (h0 : wpAny (model P w) A.in1 (collect v) (fun vs s1 => (∀ b o, s.heap.get? b = some o → s1.heap.get? b = some o) ∧ s1.gens = s.gens ∧ s1.os = s.os ∧ ∃ ys, StrsAre vs ys ∧ vs.length < 64 ∧ Good ys) E s)
    (hQ : ∀ (h1 : Heap) s' p (out : Array Value) (c : Nat) (ys zs : List Str), (∀ b o, s.heap.get? b = some o → h1.get? b = some o) → h1.objs.size ≤ p → (∀ b o, s.heap.get? b = some o → s'.heap.get? b = some o) → s'.gens = s.gens → s'.os = s.os →
      s'.heap.get? p = some (seqObj "list" out c) → StrsAre out.toList zs → Good ys → zs.Perm ys → zs.length < 64 → sortedS zs = true → Q (.ref p) s') :
    wpAny (model P w) A (call (.builtin "sorted") [v]) Q E s := by
  refine Calls.call_function_entry kind_sorted plain_sorted entry_sorted (args_sorted1 _) ?_
  unfold Builtin.«sorted»
  refine wpAny_bind (m := checkCount "sorted" 1 1 _) (wpAny_pure ?_)
  refine wpAny_bind (wpAny_mono h0 (fun vs s1 hs => ?_) fun _ _ e => e)
  obtain ⟨k1, g1, o1, ys, hS, h64, good⟩ := hs
  refine wpAny_bind (wpAny_newList ?_ (by rw [sizeLine_eq]; omega))
  have hoL : (s1.heap.push (seqObj "list" vs.toArray 0)).get? s1.heap.objs.size = some (seqObj "list" vs.toArray 0) := Heap.get?_push_size _ rfl
  refine wpAny_bind (wpAny_holding (wpAny_call_entry slot_list_sort ⟨_, hoL, rfl⟩ entry_list_sort (list_sort_treeK strKind_oneLt hoL hS.keysOf (fun v₁ v₂ rest e => keyKind_strs (by rw [← e]; exact hS)) h64 fun st' a1 a2 => ⟨_, rfl, ?_⟩) (args_list_sort _)))
  obtain ⟨zs, b1, b2, b3⟩ := sorted_out_str hS a1 a2
  obtain ⟨c, hc⟩ := sortedHeap_at (vs := vs) (out := ((arrOf st').map (·.2))) hoL
  have hlen : zs.length < 64 := by rw [b2.length_eq, ← hS.length]; exact h64
  refine wpAny_pure ⟨_, rfl, hQ s1.heap _ s1.heap.objs.size _ c ys zs k1 (Nat.le_refl _) (fun b u e => ?_) g1 o1 hc b1 good b2 hlen b3⟩
  have q := k1 b u e
  have hlt := Heap.lt_size q
  show (sortedHeap (s1.heap.push (seqObj "list" vs.toArray 0)) s1.heap.objs.size vs _).get? b = some u
  rw [sortedHeap_old (Nat.ne_of_lt hlt) (by rw [size_push']; exact Nat.lt_succ_of_lt hlt)]
  exact Heap.get?_push_of_some _ q
end
theorem perm_of {α : Type} [DecidableEq α] : ∀ {ks L : List α}, ks.Nodup → (∀ y ∈ ks, y ∈ L) → L.length = ks.length → L.Perm ks
  | [], L, _, _, h => by
    have e : L = [] := List.eq_nil_of_length_eq_zero h
    rw [e]
  | k :: ks, L, nd, m, h => by
    obtain ⟨h1, h2⟩ := List.nodup_cons.mp nd
    have hk : k ∈ L := m k List.mem_cons_self
    have p := List.perm_cons_erase hk
    have ih := perm_of (ks := ks) (L := L.erase k) h2 (fun y hy => (List.mem_erase_of_ne (fun z => h1 (by rw [← z]; exact hy))).mpr (m y (List.mem_cons_of_mem _ hy))) (by
      rw [List.length_erase_of_mem hk]
      have z : L.length = ks.length + 1 := h
      omega)
    exact p.trans (ih.cons k)
def txtOf (v : Value) : Str := match v with | .str x _ => x | _ => Str.empty
theorem strs_of : ∀ {vs : List Value}, (∀ v ∈ vs, ∃ x t, v = Value.str x t) → StrsAre vs (vs.map txtOf)
  | [], _ => .nil
  | v :: vs, h => by
    obtain ⟨x, t, rfl⟩ := h v List.mem_cons_self
    exact .cons x t (strs_of fun u hu => h u (List.mem_cons_of_mem _ hu))
theorem signs_strs {x : Str} {acc : List Value} : ∀ (n i : Nat), acc.length = n → (∀ j v, acc[j]? = some v → SignAt x (i + j) v) → ∀ l : List Nat, l.length = n → (∀ j, j < n → x.cps[i + j]? = l[j]?) → StrsAre acc (l.map sing) := by
  intro n
  induction n generalizing acc with
  | zero =>
    intro i h0 _ l hl _
    have e1 : acc = [] := List.eq_nil_of_length_eq_zero h0
    have e2 : l = [] := List.eq_nil_of_length_eq_zero hl
    subst e1 e2
    exact .nil
  | succ n ih =>
    intro i h0 hs l hl hx
    cases acc with
    | nil => simp at h0
    | cons v acc =>
      cases l with
      | nil => simp at hl
      | cons c l =>
        obtain ⟨d, u, e1, e2⟩ := hs 0 v rfl
        have q := hx 0 (Nat.succ_pos _)
        rw [e1] at q
        have ed : d = c := Option.some.inj q
        subst ed
        subst e2
        refine .cons _ u (ih (i + 1) (Nat.succ.inj h0) (fun j w hw => ?_) l (Nat.succ.inj hl) (fun j hj => ?_))
        · have z := hs (j + 1) w (by simpa using hw)
          rw [show i + 1 + j = i + (j + 1) by omega]
          exact z
        · have z := hx (j + 1) (by omega)
          rw [show i + 1 + j = i + (j + 1) by omega, z]
          simp
section
variable {X : Cx}
theorem vals_strs : ∀ {vs : List Value} {ys : List Str}, StrsAre vs ys → Vals (ys.map V.str) vs
  | _, _, .nil => .nil
  | _, _, .cons y t h => .cons ⟨t, rfl⟩ (vals_strs h)
/-- sorted(text), sorted(set of signs): fewer than 64 -/
def rSortX (P : Program) (w : World) : List V → Hp → VK → Prop := fun xs H Q => ∃ ks : List Str, ks.length < 64 ∧ ((∃ l, xs = [.str (SX.S l)] ∧ l.length < 64 ∧ ks = l.map sing) ∨ ∃ a, xs = [.ref a] ∧ H a = some (SetT P w a ks) ∧ ks.Nodup) ∧
  ∀ zs p, zs.Perm ks → sortedS zs = true → H p = none → Q (.ref p) (upd H p (.lst (zs.map V.str)))
theorem cr_sortX (hc : X.calm = true) : CallR X (.builtin "sorted") (rSortX X.prog X.w) := by
  intro pins s σ H xs us Q I r h
  obtain ⟨ks, h64, src, q⟩ := h
  have hh := I.ok.hd hc
  have fin : ∀ v : Value, (wpAny (model X.prog X.w) X.A.in1 (collect v) (fun vs s1 => (∀ b o, s.heap.get? b = some o → s1.heap.get? b = some o) ∧ s1.gens = s.gens ∧ s1.os = s.os ∧ ∃ ys, StrsAre vs ys ∧ vs.length < 64 ∧ ys.Perm ks) X.xe s) →
      wpAny (model X.prog X.w) X.A (call (.builtin "sorted") [v]) (EP X pins σ Q) X.xe s := by
    intro v h0
    refine sorted_texts (Good := fun ys => ys.Perm ks) h0 fun h1 s' p out c ys zs k1 hp k g o hg hi good hz h64' hs => ?_
    have hlen : (zs.map V.str).length ≤ sizeLine := by rw [List.length_map, sizeLine_eq]; omega
    have hn : H p = none := (I.hok.kept k1).fresh hp
    have hp' : s.heap.get? p = none := by
      cases e : s.heap.get? p with
      | none => rfl
      | some u => exact absurd (Heap.lt_size (k1 p u e)) (Nat.not_lt.mpr hp)
    have J : Inv X pins σ (upd H p (.lst (zs.map V.str))) { s with heap := s'.heap, gens := s'.gens, drawn := s'.drawn, toks := s'.toks } :=
      I.call (ch := []) (Un.laidN k hp' hn) (I.hok.laidN k hn ⟨hlen, out.toList, c, vals_strs hi, hg⟩) (by rw [g]; exact I.bare) (fun _ z => nomatch z)
    have e : s' = { s with heap := s'.heap, gens := s'.gens, drawn := s'.drawn, toks := s'.toks } := by
      cases s'
      cases s
      cases o
      rfl
    rw [e]
    exact ⟨.ref p, _, J, rfl, q zs p (hz.trans good) hs hn⟩
  rcases src with ⟨l, rfl, hl, rfl⟩ | ⟨a, rfl, ha, nd⟩
  · obtain ⟨u, rfl, t, rfl⟩ := vals1 r
    refine fin _ (wpAny_collect_str (A := X.A.in1) (E := X.xe) (s := s) hh (SX.S l) t (fun s' acc k g d o it => ⟨k, g, o, l.map sing, ?_, ?_, List.Perm.refl _⟩) ?_)
    · have hsz : acc.toList.length = l.length := by
        rw [Array.length_toList, it.1]
        show (l.toArray).size = l.length
        rw [List.size_toArray]
      refine signs_strs (x := SX.S l) l.length 0 hsz (fun j v hv => ?_) l rfl (fun j hj => ?_)
      · rw [Nat.zero_add]
        exact it.2 j v (by rw [← Array.getElem?_toList]; exact hv)
      · rw [Nat.zero_add]
        show (l.toArray)[j]? = l[j]?
        rw [List.getElem?_toArray]
    · rw [Array.length_toList, it.1]
      show (l.toArray).size < 64
      rw [List.size_toArray]
      exact hl
    · show (l.toArray).size ≤ sizeLine
      rw [List.size_toArray, sizeLine_eq]
      omega
  · obtain ⟨u, rfl, hu⟩ := vals1 r
    cases (show u = Value.ref a from hu)
    obtain ⟨⟨D, gD, F, rr⟩, _⟩ := I.hok a _ ha
    have esz : D.1.size = ks.length := F.sz
    refine fin _ (collect_set (A := X.A.in1) (es := D.1) (ep := D.2.1) (t := D.2.2) hh ⟨_, gD, rfl, rfl⟩ F.fit (by rw [esz]; exact Nat.lt_trans h64 (by decide)) rr.1 rr.2 fun s' out k hz g o pm => ?_)
    have all : ∀ v ∈ out, ∃ x t, v = Value.str x t := fun v hv => by
      obtain ⟨e, he, q⟩ := List.mem_map.mp (pm.mem_iff.mp hv)
      obtain ⟨⟨k0, k1, _⟩, _⟩ := F.el e he
      rw [← q]
      obtain ⟨t, z⟩ := Value.isStrOf_shape (x := k0) (v := e.2) k1
      exact ⟨_, t, z⟩
    refine ⟨k, g, o, out.map txtOf, strs_of all, ?_, ?_⟩
    · rw [pm.length_eq, List.length_map, Array.length_toList, esz]
      exact h64
    · refine perm_of nd (fun y hy => ?_) ?_
      · obtain ⟨e, he, q⟩ := (F.mem y).mp hy
        obtain ⟨t, z⟩ := Value.isStrOf_shape (x := y) (v := e.2) q
        refine List.mem_map.mpr ⟨e.2, pm.mem_iff.mpr (List.mem_map.mpr ⟨e, he, rfl⟩), ?_⟩
        rw [z]
        rfl
      · rw [List.length_map, pm.length_eq, List.length_map, Array.length_toList, esz]
end
end Lk
end
section
set_option maxRecDepth 100000
set_option maxHeartbeats 2000000
namespace Lk
open PySem PySem.Spec PyProof.Rows L2
/-- said n times -/
def rep (n : Nat) (l : List Nat) : List Nat := (List.replicate n l).flatten
theorem rep_len (n : Nat) (l : List Nat) : (rep n l).length = n * l.length := by
  induction n with
  | zero => simp [rep]
  | succ n ih =>
    unfold rep at ih ⊢
    rw [List.replicate_succ, List.flatten_cons, List.length_append, ih, Nat.succ_mul]
    omega
theorem fold_cat (c : Array Nat) : ∀ (n : Nat) (acc : Array Nat), ((List.replicate n c).foldl (· ++ ·) acc).toList = acc.toList ++ rep n c.toList
  | 0, acc => by simp [rep]
  | n + 1, acc => by
    rw [List.replicate_succ, List.foldl_cons, fold_cat c n (acc ++ c)]
    simp [rep, List.replicate_succ]
theorem mul_S (l : List Nat) (n : Nat) : Txt.mul (S l) (n : Int) = S (rep n l) := by
  unfold Txt.mul
  by_cases h0 : (n : Int) < 1
  · rw [if_pos h0]
    have e : n = 0 := by omega
    subst e
    rfl
  · rw [if_neg h0]
    by_cases h1 : ((n : Int) == 1 || (S l).length == 0) = true
    · rw [if_pos h1]
      rw [Bool.or_eq_true, beq_iff_eq, beq_iff_eq, SX.S_len] at h1
      rcases h1 with h1 | h1
      · have e : n = 1 := by omega
        subst e
        simp [rep]
      · have e : l = [] := List.eq_nil_of_length_eq_zero h1
        subst e
        have z : rep n [] = [] := List.eq_nil_of_length_eq_zero (by rw [rep_len]; simp)
        rw [z]
    · rw [if_neg h1]
      have z := fold_cat l.toArray n #[]
      have e : ((List.replicate n l.toArray).foldl (· ++ ·) #[]) = (rep n l).toArray := by
        apply Array.toList_inj.mp
        rw [z]
        simp
      show Str.mk ((List.replicate n l.toArray).foldl (· ++ ·) #[]) = _
      rw [e]
theorem op_mulS {X : Cx} : OpR X (binaryOp .Mult) (fun x y H Q => ∃ (l : List Nat) (n : Nat), x = .str (S l) ∧ y = .int n ∧ n ≤ 100000 ∧ n * l.length ≤ 1000000 ∧ Q (.str (S (rep n l))) H) := by
  intro pins s σ H x y v u Q I rx ry h
  obtain ⟨l, n, rfl, rfl, hn, hl, q⟩ := h
  obtain ⟨t, rfl⟩ := rx
  obtain ⟨t', rfl⟩ := ry
  refine SB.mul ⟨?_, ?_, ?_⟩ fun t2 k => ⟨.str (S (rep n l)), H, I.tok _, ⟨t2, by rw [mul_S]⟩, q⟩
  · rw [Bool.or_eq_false_iff, decide_eq_false_iff_not, decide_eq_false_iff_not]
    omega
  · intro h1 _ h2
    rw [SX.S_len] at h2
    have h3 : (0 : Int) < n := by omega
    have h4 : (2 ^ 63 - 1 : Int) / n < l.length := h2
    have h5 := (Int.ediv_lt_iff_lt_mul h3).mp h4
    have h6 : ((l.length : Int) * n) ≤ 1000000 := by
      have z : ((n * l.length : Nat) : Int) ≤ 1000000 := by omega
      rw [Int.natCast_mul] at z
      rw [Int.mul_comm]
      exact z
    omega
  · intro _ _
    rw [SX.S_len, Int.toNat_natCast, Nat.mul_comm]
    unfold Builtin.Str.tooLong
    rw [sizeLine_eq]
    simp
    omega
section
variable {P : Program} {w : World} {K : PySem.W.Frag} {mg : Str → Option Value} {base : Heap}
def spLoop : Sp := fun vs H Q _ => ∃ a b, vs = [.ref a] ∧ H a = some (bagO b) ∧ ∀ l H', isLoop l = true → Bag H' a → SameBut a H H' → Q (.str (S l)) H'
theorem sc_loop : FnScope ["bag", "part"] ["bag"] (defScope s_law_loop) := ⟨rfl, rfl, rfl, by decide +kernel, rfl, by decide +kernel, by decide +kernel⟩
theorem az_rep {l : List Nat} (h : Az l) (n : Nat) : Az (rep n l) := by
  intro c hc
  unfold rep at hc
  obtain ⟨m, hm, hc⟩ := List.mem_flatten.mp hc
  rw [List.eq_of_mem_replicate hm] at hc
  exact h c hc
theorem isLoop_of {l : List Nat} (h : Az l) (h1 : 1 ≤ l.length) (h2 : l.length ≤ 12) : isLoop l = true := by
  unfold isLoop
  rw [isAz_iff.mpr h, decide_eq_true h1, decide_eq_true h2]
  rfl
theorem ok_loop {f : Addr} {fd : FuncData} (F : Fun K "_law_loop" "_law_loop" s_law_loop f fd) (cp : C8.Cal P w K mg base 1 "_law_pick" spPick []) (cs : C8.Cal P w K mg base 2 "_law_some" spSome []) (ml : mg "len" = none) : FnOk P w K mg base CX0 3 f fd ["bag"] spLoop := by
  refine F.ok sc_loop (fun vs H Q E h => ?_) (fun cdv A outer s H vs Q E hr h => ?_)
  · obtain ⟨a, b, rfl, _⟩ := h
    rfl
  · obtain ⟨a, b, rfl, hb, q⟩ := h
    have nd := sc_loop.nd
    refine ⟨_, pss_cons (ps_set (i := 1) nd rfl (Or.inl rfl) (C8.pe_c cs hr (by decide) rfl (pa_cons (pv 0) (pa_cons (pe_op op_add pe_int (C8.pe_c cp hr (by decide) rfl (pa_cons (pv 0) (pa_cons pe_int pa_nil)))) pa_nil))))
      (pss_one (ps_ret (pe_op op_mulS (pv 1) (pe_op op_add pe_int (C8.pe_c cp hr (by decide) rfl (pa_cons (pv 0) (pa_cons (pe_op op_fdiv pe_int (pe_callB call_len_str (by rfl) ml PySem.boot_len (pa_cons (pv 1) pa_nil))) pa_nil))))))), ?_⟩
    refine ⟨_, rfl, _, rfl, a, 12, b, rfl, hb, by decide, by decide, fun v b1 v0 v12 => ?_⟩
    refine ⟨1, v, rfl, rfl, a, _, b1, rfl, upd_same, by omega, by omega, fun l H1 az hl hb1 sb1 => ?_⟩
    obtain ⟨b2, hb2⟩ := hb1
    have hlen : 1 ≤ l.length ∧ l.length ≤ 12 := by omega
    refine ⟨_, rfl, _, rfl, _, rfl, S l, rfl, small12 hlen.2, 12, _, rfl, rfl, ?_, ?_⟩
    · rw [SX.S_len]
      constructor
      · show (0 : Int) < l.length
        omega
      · show (l.length : Int) < 1073741824
        omega
    rw [SX.S_len]
    have hd : 1 ≤ 12 / l.length := (Nat.one_le_div_iff (by omega)).mpr hlen.2
    have hd2 : 12 / l.length ≤ 12 := Nat.div_le_self _ _
    have e12 : (12 : Int) / (l.length : Int) = ((12 / l.length : Nat) : Int) := rfl
    refine ⟨a, _, b2, rfl, hb2, (by omega), (by omega), fun u b3 u0 u1 => ?_⟩
    have u1' : u < ((12 / l.length : Nat) : Int) := u1
    refine ⟨1, u, rfl, rfl, l, (1 + u.toNat), rfl, ?_, by omega, ?_, ?_⟩
    · have e : (1 + u : Int) = ((1 + u.toNat : Nat) : Int) := by omega
      show V.int (1 + u) = V.int ((1 + u.toNat : Nat) : Int)
      rw [e]
    · have : (1 + u.toNat) * l.length ≤ 13 * 12 := Nat.mul_le_mul (by omega) hlen.2
      omega
    · have hm : (1 + u.toNat) * l.length ≤ 12 := by
        have h1 : 1 + u.toNat ≤ 12 / l.length := by omega
        exact Nat.le_trans (Nat.mul_le_mul_right _ h1) (Nat.div_mul_le_self 12 l.length)
      refine q _ _ (isLoop_of (az_rep az _) ?_ ?_) ⟨b3, upd_same⟩ ?_
      · rw [rep_len]
        exact Nat.mul_pos (by omega) (by omega)
      · rw [rep_len]
        exact hm
      · exact (sameBut_upd.trans sb1).trans sameBut_upd
end
end Lk
end
section
set_option maxRecDepth 100000
set_option maxHeartbeats 2000000
namespace Lk
open PySem PySem.Spec PyProof.Rows L2
theorem rep_at {l : List Nat} (h0 : 0 < l.length) : ∀ (n j : Nat), j < n * l.length → (rep n l).getD j 0 = lat l j
  | 0, j, h => by omega
  | n + 1, j, h => by
    have e : rep (n + 1) l = l ++ rep n l := by
      unfold rep
      rw [List.replicate_succ, List.flatten_cons]
    rw [e, List.getD_eq_getElem?_getD]
    by_cases c : j < l.length
    · rw [List.getElem?_append_left c, ← List.getD_eq_getElem?_getD]
      unfold lat
      rw [Nat.mod_eq_of_lt c]
    · rw [List.getElem?_append_right (by omega), ← List.getD_eq_getElem?_getD, rep_at h0 n (j - l.length) (by rw [Nat.succ_mul] at h; omega)]
      unfold lat
      rw [← Nat.mod_eq_sub_mod (by omega)]
/-- a beginning said over is the loop said over just where it is a turn that gives the loop again -/
theorem said_over {l : List Nat} {k : Nat} (h0 : 0 < l.length) (k1 : 1 ≤ k) (kn : k ≤ l.length) : rep l.length (l.take k) = rep k l ↔ rotL l (k % l.length) = l := by
  have lk : (l.take k).length = k := by rw [List.length_take]; exact Nat.min_eq_left kn
  have at1 : ∀ j, j < l.length * k → (rep l.length (l.take k)).getD j 0 = lat l (j % k) := fun j hj => by
    rw [rep_at (by omega) l.length j (by rw [lk]; exact hj)]
    unfold lat
    rw [lk]
    have hm : j % k < k := Nat.mod_lt _ k1
    rw [take_at kn hm]
    unfold lat
    rfl
  have at2 : ∀ j, j < l.length * k → (rep k l).getD j 0 = lat l j := fun j hj => rep_at h0 k j (by rw [Nat.mul_comm]; exact hj)
  rw [rot_per h0]
  constructor
  · intro e J
    have all : ∀ J, lat l (J % k) = lat l J := fun J => by
      have hM : J % (l.length * k) < l.length * k := Nat.mod_lt _ (Nat.mul_pos h0 k1)
      have z := at1 _ hM
      rw [e, at2 _ hM] at z
      have e1 : lat l (J % (l.length * k)) = lat l J := by
        unfold lat
        rw [Nat.mod_mul_right_mod]
      rw [e1, Nat.mod_mul_left_mod] at z
      exact z.symm
    rw [← all (J + k), ← all J, Nat.add_mod_right]
  · intro h
    refine ext_getD (by rw [rep_len, rep_len, lk, Nat.mul_comm]) fun j hj => ?_
    rw [rep_len, lk] at hj
    rw [at1 j hj, at2 j hj, per_mod h]
/-- what due holds behind so many turns -/
def Due (l : List Nat) (i : Nat) (acc : List V) : Prop := acc.length ≤ i ∧ (acc = [] → ∀ k, 1 ≤ k → k ≤ i → rotL l (k % l.length) ≠ l) ∧ ∀ h r, acc = h :: r → ∃ d, IsPer l d ∧ h = .str (S (l.take d))
theorem due_nil {l : List Nat} : Due l 0 [] := ⟨Nat.le_refl _, fun _ k a b => by omega, fun _ _ e => nomatch e⟩
theorem due_no {l : List Nat} {i : Nat} {acc : List V} (h : Due l i acc) (c : rotL l ((i + 1) % l.length) ≠ l) : Due l (i + 1) acc := ⟨Nat.le_succ_of_le h.1, fun e k a b => by
  by_cases q : k = i + 1
  · rw [q]; exact c
  · exact h.2.1 e k a (by omega), h.2.2⟩
theorem due_yes {l : List Nat} {i : Nat} {acc : List V} (h : Due l i acc) (hi : i < l.length) (c : rotL l ((i + 1) % l.length) = l) : Due l (i + 1) (acc ++ [.str (S (l.take (i + 1)))]) := by
  refine ⟨by rw [List.length_append]; exact Nat.succ_le_succ h.1, fun e => absurd e (by simp), fun x r e => ?_⟩
  cases acc with
  | nil =>
    have e1 : V.str (S (l.take (i + 1))) = x := (List.cons.inj e).1
    exact ⟨i + 1, ⟨Nat.succ_le_succ (Nat.zero_le _), hi, c, fun j j1 j2 => h.2.1 rfl j j1 (by omega)⟩, e1.symm⟩
  | cons y ys =>
    have e1 : y = x := (List.cons.inj e).1
    obtain ⟨d, p, q⟩ := h.2.2 y ys rfl
    exact ⟨d, p, by rw [← e1, q]⟩
theorem due_end {l : List Nat} {acc : List V} (h0 : 0 < l.length) (h : Due l l.length acc) : ∃ d r, IsPer l d ∧ acc = .str (S (l.take d)) :: r := by
  cases acc with
  | nil =>
    obtain ⟨d, p⟩ := per_ex h0
    exact absurd p.2.2.1 (h.2.1 rfl d p.1 p.2.1)
  | cons x r =>
    obtain ⟨d, p, e⟩ := h.2.2 x r rfl
    exact ⟨d, r, p, by rw [e]⟩
theorem per_uniq {l : List Nat} {d e : Nat} (h : IsPer l d) (k : IsPer l e) : d = e := by
  rcases Nat.lt_trichotomy d e with c | c | c
  · exact absurd h.2.2.1 (k.2.2.2 d h.1 c)
  · exact c
  · exact absurd k.2.2.1 (h.2.2.2 e k.1 c)
theorem three_at (x y u : Int) {v : Int} (h0 : 0 ≤ v) (h3 : v < 3) : ∃ n : Int, atI [V.int x, V.int y, V.int u] v = some (.int n) := by
  obtain ⟨k, rfl⟩ := Int.eq_ofNat_of_zero_le h0
  match k, h3 with
  | 0, _ => exact ⟨x, atI_nat (j := 0) rfl⟩
  | 1, _ => exact ⟨y, atI_nat (j := 1) rfl⟩
  | 2, _ => exact ⟨u, atI_nat (j := 2) rfl⟩
  | k + 3, h3 => exact absurd h3 (by omega)
theorem pd_ne {H : Hp} {p A : Addr} {x : Str} {r : List V} {b : Int × Int × Int} (h : H p = some (.lst (.str x :: r))) (hb : H A = some (bagO b)) : p ≠ A := ne_of h hb (by unfold bagO; intro z; cases z)
end Lk
end
section
set_option maxRecDepth 100000
set_option maxHeartbeats 2000000
namespace Lk
open PySem PySem.Spec PyProof.Rows L2
theorem pair_of_rising : ∀ (p : Str) (l : List Str), risingS p l = true → (p :: l).Pairwise fun a b => a.cps.toList ≤ b.cps.toList
  | p, [], _ => by simp
  | p, x :: r, h => by
    have h' : (!ltCps x.cps.toList p.cps.toList && risingS x r) = true := h
    rw [Bool.and_eq_true] at h'
    have ih := pair_of_rising x r h'.2
    have hp : p.cps.toList ≤ x.cps.toList := by
      have z := h'.1
      rw [ltCps_eq] at z
      have z2 : decide (x.cps.toList < p.cps.toList) = false := by simpa using z
      exact fun q => of_decide_eq_false z2 q
    refine List.pairwise_cons.mpr ⟨fun y hy => ?_, ih⟩
    rcases List.mem_cons.mp hy with e | e
    · rw [e]; exact hp
    · exact List.le_trans hp ((List.pairwise_cons.mp ih).1 y e)
theorem pair_of_sorted : ∀ l : List Str, sortedS l = true → l.Pairwise fun a b => a.cps.toList ≤ b.cps.toList
  | [], _ => List.Pairwise.nil
  | x :: r, h => pair_of_rising x r h
theorem sorted_same {a b : List Str} (p : a.Perm b) (ha : sortedS a = true) (hb : sortedS b = true) : a = b :=
  List.Perm.eq_of_pairwise (fun x y _ _ h1 h2 => by
    have e : x.cps.toList = y.cps.toList := List.le_antisymm h1 h2
    exact TL.ext_tl e) (pair_of_sorted a ha) (pair_of_sorted b hb) p
theorem eqvAll_strs : ∀ xs ys : List Str, PyData.eqvAll (xs.map .str) (ys.map .str) = decide (xs = ys)
  | [], [] => by simp [PyData.eqvAll]
  | [], _ :: _ => by simp [PyData.eqvAll]
  | _ :: _, [] => by simp [PyData.eqvAll]
  | x :: xs, y :: ys => by
    show PyData.eqvAll (.str x :: xs.map .str) (.str y :: ys.map .str) = _
    rw [PyData.eqvAll, eqvAll_strs xs ys]
    have e : PyData.eqv (.str x) (.str y) = decide (x = y) := by
      rw [PyData.eqv]
      by_cases c : x = y
      · subst c
        simp
      · rw [decide_eq_false c]
        exact beq_eq_false_iff_ne.mpr c
    rw [e, ← Bool.decide_and]
    congr 1
    simp
theorem eqv_strs (xs ys : List Str) : PyData.eqv (.list (xs.map .str)) (.list (ys.map .str)) = decide (xs = ys) := by
  rw [PyData.eqv]
  exact eqvAll_strs xs ys
theorem dp_strs {K : PySem.W.Frag} {H : Hp} : ∀ xs : List Str, DpAll K H (xs.map V.str) (xs.map .str)
  | [] => .nil
  | x :: xs => .cons (.str x) (dp_strs xs)
theorem shaped_strs (xs : List Str) (hx : ∀ y ∈ xs, PyData.strOk y = true) : SeqAt.shaped (.list (xs.map .str)) = true := by
  have h1 : ∀ ys : List Str, (∀ y ∈ ys, PyData.strOk y = true) → PyData.canLayAll0 (ys.map .str) = true := by
    intro ys
    induction ys with
    | nil => intro _; simp [PyData.canLayAll0]
    | cons y ys ih =>
      intro h
      show PyData.canLayAll0 (.str y :: ys.map .str) = true
      rw [PyData.canLayAll0, ih fun z hz => h z (List.mem_cons_of_mem _ hz), Bool.and_true, PyData.canLay0]
      exact h y List.mem_cons_self
  have h2 : ∀ ys : List Str, PyData.depthAll (ys.map .str) = 0 := by
    intro ys
    induction ys with
    | nil => simp [PyData.depthAll]
    | cons y ys ih =>
      show PyData.depthAll (.str y :: ys.map .str) = 0
      rw [PyData.depthAll, ih]
      simp [PyData.depth]
  unfold SeqAt.shaped
  rw [PyData.canLay0, PyData.depth, h1 xs hx, h2]
  decide
theorem sing_ok {c : Nat} (h : c < 128) : PyData.strOk (PySem.Froz.sing c) = true := by
  show (#[c] : Array Nat).all (· < 0x110000) = true
  rw [← Array.all_toList]
  simp
  omega
/-- sorted letters of the set are the sorted letters just where they are unlike -/
theorem plain_iff {l : List Nat} {ks zs zs2 : List Str} (nd : ks.Nodup) (mm : ∀ y, y ∈ ks ↔ ∃ c ∈ l, y = PySem.Froz.sing c) (p1 : zs.Perm ks) (s1 : sortedS zs = true) (p2 : zs2.Perm (l.map PySem.Froz.sing)) (s2 : sortedS zs2 = true) :
    decide (zs = zs2) = decide l.Nodup := by
  by_cases h : l.Nodup
  · rw [decide_eq_true h, decide_eq_true]
    refine sorted_same (p1.trans (List.Perm.trans ?_ p2.symm)) s1 s2
    refine (perm_of nd (fun y hy => ?_) ?_).symm
    · obtain ⟨c, hc, rfl⟩ := (mm y).mp hy
      exact List.mem_map.mpr ⟨c, hc, rfl⟩
    · rw [List.length_map, (set_len nd mm).mpr h]
  · rw [decide_eq_false h, decide_eq_false]
    intro e
    have z : ks.length = l.length := by
      rw [← p1.length_eq, e, p2.length_eq, List.length_map]
    exact h ((set_len nd mm).mp z)
end Lk
end
section
set_option maxRecDepth 100000
set_option maxHeartbeats 2000000
namespace Lk
open PySem PySem.Spec PyProof.Rows L2
/-- where two loops read otherwise, of the first letters -/
def fl (l o : List Nat) (i : Nat) : List Nat := (List.range i).filter fun k => !decide (lat l k = lat o k)
theorem fl_succ (l o : List Nat) (i : Nat) : fl l o (i + 1) = fl l o i ++ (if lat l i = lat o i then [] else [i]) := by
  unfold fl
  rw [List.range_succ, List.filter_append]
  by_cases c : lat l i = lat o i
  · rw [if_pos c]
    simp [c]
  · rw [if_neg c]
    simp [c]
theorem fl_len (l o : List Nat) (i : Nat) : (fl l o i).length ≤ i := by
  unfold fl
  have z := List.length_filter_le (fun k => !decide (lat l k = lat o k)) (List.range i)
  rw [List.length_range] at z
  exact z
theorem fl_nil {l o : List Nat} (h : ∀ k, lat l k = lat o k) (i : Nat) : fl l o i = [] := by
  unfold fl
  rw [List.filter_eq_nil_iff]
  intro k _
  simp [h k]
theorem fl_head {l o : List Nat} {k i : Nat} (hk : k < i) (h : lat l k ≠ lat o k) (hj : ∀ j, j < k → lat l j = lat o j) : ∃ r, fl l o i = k :: r := by
  have hm : k ∈ fl l o i := List.mem_filter.mpr ⟨List.mem_range.mpr hk, by simp [h]⟩
  have pw : (fl l o i).Pairwise (· < ·) := (List.pairwise_lt_range (n := i)).filter _
  cases e : fl l o i with
  | nil => rw [e] at hm; cases hm
  | cons x r =>
    have hx : x ∈ fl l o i := by rw [e]; exact List.mem_cons_self
    have hd := (List.mem_filter.mp hx).2
    have h1 : ¬ x < k := fun c => by rw [hj x c] at hd; simp at hd
    rw [e] at hm pw
    rcases List.mem_cons.mp hm with c | c
    · exact ⟨r, by rw [c]⟩
    · exact absurd ((List.pairwise_cons.mp pw).1 k c) h1
theorem eqvAll_nil (xs : List PyData) : PyData.eqvAll xs [] = xs.isEmpty := by
  cases xs with
  | nil => simp [PyData.eqvAll]
  | cons x xs => simp [PyData.eqvAll]
theorem eqv_nil (xs : List PyData) : PyData.eqv (.list xs) (.list []) = xs.isEmpty := by
  rw [PyData.eqv]
  exact eqvAll_nil xs
theorem dp_nats {K : PySem.W.Frag} {H : Hp} : ∀ xs : List Nat, DpAll K H (xs.map fun (k : Nat) => V.int k) (xs.map fun (k : Nat) => PyData.int k)
  | [] => .nil
  | x :: xs => .cons (.int x) (dp_nats xs)
theorem shaped_nats (xs : List Nat) : SeqAt.shaped (.list (xs.map fun (k : Nat) => PyData.int k)) = true := by
  have h1 : ∀ ys : List Nat, PyData.canLayAll0 (ys.map fun (k : Nat) => PyData.int k) = true := by
    intro ys
    induction ys with
    | nil => simp [PyData.canLayAll0]
    | cons y ys ih =>
      show PyData.canLayAll0 (.int y :: ys.map fun (k : Nat) => PyData.int k) = true
      rw [PyData.canLayAll0, ih, PyData.canLay0]
      rfl
  have h2 : ∀ ys : List Nat, PyData.depthAll (ys.map fun (k : Nat) => PyData.int k) = 0 := by
    intro ys
    induction ys with
    | nil => simp [PyData.depthAll]
    | cons y ys ih =>
      show PyData.depthAll (.int y :: ys.map fun (k : Nat) => PyData.int k) = 0
      rw [PyData.depthAll, ih]
      simp [PyData.depth]
  unfold SeqAt.shaped
  rw [PyData.canLay0, PyData.depth, h1, h2]
  decide
theorem shaped_nil : SeqAt.shaped (.list []) = true := shaped_nats []
theorem sign_at {i : Nat} (h : i < 45) : ∃ c, (Str.ofString " !$&'()*+,-./0123456789:;<=>?@ABCXYZ[]^_`{|}~").cps[i]? = some c ∧ azC c = false := by
  have e : ∀ i : Fin 45, ((Str.ofString " !$&'()*+,-./0123456789:;<=>?@ABCXYZ[]^_`{|}~").cps[i.val]?.elim false fun c => !azC c) = true := by decide +kernel
  have z := e ⟨i, h⟩
  cases q : (Str.ofString " !$&'()*+,-./0123456789:;<=>?@ABCXYZ[]^_`{|}~").cps[i]? with
  | none =>
    rw [show (⟨i, h⟩ : Fin 45).val = i from rfl, q] at z
    cases z
  | some c =>
    rw [show (⟨i, h⟩ : Fin 45).val = i from rfl, q] at z
    refine ⟨c, rfl, ?_⟩
    have z2 : (!azC c) = true := z
    simpa using z2
theorem sign_len : (Str.ofString " !$&'()*+,-./0123456789:;<=>?@ABCXYZ[]^_`{|}~").length = 45 := by decide +kernel
theorem no_loop {H : Hp} {l : List Nat} (h : isLoop l = false) (hl : l.length ≤ 100000) : LoopV H (.str (S l)) false := by
  have z : LoopV H (.str (S l)) (isLoop l) := .str l hl
  rw [h] at z
  exact z
theorem not_az {l : List Nat} {c : Nat} (hc : c ∈ l) (h : azC c = false) : isLoop l = false := by
  have e : isAz l = false := by
    unfold isAz
    rw [List.all_eq_false]
    exact ⟨c, hc, by rw [h]; exact Bool.false_ne_true⟩
  unfold isLoop
  rw [e, Bool.false_and]
theorem k_log {k : Nat} (h : k < 1000) : (k : Int).natAbs.log2 < 1920 := by
  have e : (k : Int).natAbs = k := rfl
  rw [e]
  exact Nat.lt_trans (PySem.Flt.log2_lt_of (k := 10) (by decide) (show k < 2 ^ 10 by omega)) (by decide)
theorem az_take {l : List Nat} (h : Az l) (n : Nat) : Az (l.take n) := fun c hc => h c (List.mem_of_mem_take hc)
theorem az_app {l m : List Nat} (h : Az l) (k : Az m) : Az (l ++ m) := fun c hc => by
  rcases List.mem_append.mp hc with q | q
  · exact h c q
  · exact k c q
theorem az_rot {l : List Nat} (h : Az l) (n : Nat) : Az (rotL l n) := az_app (fun c hc => h c (List.mem_of_mem_drop hc)) (az_take h n)
theorem diff_small {l o : List Nat} {k : Nat} (hl : l.length ≤ 12) (ho : o.length ≤ 12) (l0 : 0 < l.length) (o0 : 0 < o.length) (h : lat l k ≠ lat o k) (hj : ∀ j, j < k → lat l j = lat o j) : k < 1000 := by
  rcases Nat.lt_or_ge k 1000 with c | c
  · exact c
  · have hle : l.length * o.length ≤ 12 * 12 := Nat.mul_le_mul hl ho
    exact absurd (alike_all (fun j q => hj j (by omega)) l0 o0 k) h
theorem far_at {l : List Nat} (h0 : 0 < l.length) {k : Nat} (hk : k < 1000) : ((rep 1000 l).take 1000)[k]? = some (lat l k) := by
  have hl : 1000 ≤ (rep 1000 l).length := by
    rw [rep_len]
    exact Nat.le_mul_of_pos_right 1000 h0
  rw [List.getElem?_take, if_pos hk, List.getElem?_eq_getElem (by omega)]
  have z := rep_at h0 1000 k (by rw [← rep_len]; omega)
  rw [getD_eq (by omega)] at z
  rw [z]
end Lk
end
section
set_option maxRecDepth 100000
set_option maxHeartbeats 4000000
namespace Lk
open PySem PySem.Spec PyProof.Rows L2
/-- repr of None, a truth, a number that is not too great -/
def rRepr : List V → Hp → VK → Prop := fun xs H Q => (∃ b, xs = [.bl b] ∧ Q (.str (if b then "True" else "False")) H) ∨ (xs = [.non] ∧ Q (.str "None") H) ∨ ∃ i, xs = [.int i] ∧ i.natAbs.log2 < 1920 ∧ Q (.str (toString i)) H
theorem call_repr {X : Cx} : CallR X (.builtin "repr") rRepr := by
  intro pins s σ H xs us Q I r h
  rcases h with h | h | h
  · exact call_repr_bool pins s σ H xs us Q I r h
  · exact call_repr_none pins s σ H xs us Q I r h
  · exact SkE.call_repr_int pins s σ H xs us Q I r h
/-- the names of law's frame, by slot -/
abbrev nL : List Str := ["script", "cell", "bag", "loop", "other", "many", "due", "plain", "by", "around", "longer", "shorter", "one", "far", "near", "apart", "sign", "thing", "let_by", "k", "way"]
/-- the frame in a turn, from slot 6 on as told -/
abbrev fr (a : Addr) (z : Int) (A : Addr) (l m : List Nat) (xs : List (Option V)) : List (Option V) :=
  some (.ref a) :: some (.int z) :: some (.ref A) :: some (.str (S l)) :: some (.str (S m)) :: some (.int l.length) :: xs
/-- what the law calls -/
structure Calls (P : Program) (w : World) (K : PySem.W.Frag) (mg : Str → Option Value) (base : Heap) (CL : Addr) : Prop where
  bag : C8.Cal P w K mg base 1 "_law_bag" spBag []
  pick : C8.Cal P w K mg base 1 "_law_pick" spPick []
  loop : C8.Cal P w K mg base 3 "_law_loop" spLoop []
  none : C8.Cal P w K mg base 7 "_law_none" spNone []
  isl : C8.Cal P w K mg base 2 "is_loop" spIsLoop []
  plain : CalX P w K mg base 4 "is_plain" (spPlain CL)
  root : CalX P w K mg base 5 "root" (spRoot CL)
  turned : CalX P w K mg base 4 "turned" (spTurned CL)
  alike : CalX P w K mg base 6 "alike_for" (spAlike CL)
  len : mg "len" = .none
  range : mg "range" = .none
  sorted : mg "sorted" = .none
  set : mg "set" = .none
  repr : mg "repr" = .none
  min : mg "min" = .none
section
variable {P : Program} {w : World} {K : PySem.W.Frag} {mg : Str → Option Value} {base : Heap}
def spLaw (K : PySem.W.Frag) : Sp := fun vs H Q _ => ∃ (a : Addr) (ns : List Int), vs = [.ref a] ∧ SqL K H a (ns.map V.int) ∧ ns.length ≤ 63 ∧ ∀ H', Q (.bl true) H'
theorem sc_law : FnScope nL ["script"] (defScope s_law) := ⟨rfl, rfl, rfl, by decide +kernel, rfl, by decide +kernel, by decide +kernel⟩
theorem ok_law {f CL : Addr} {fd : FuncData} (F : Fun K "law" "law" s_law f fd) (T : Calls P w K mg base CL) : FnOk P w K mg base CX0 8 f fd ["script"] (spLaw K) := by
  refine F.ok sc_law (fun vs H Q E h => ?_) (fun cdv A outer s H vs Q E hr h => ?_)
  · obtain ⟨a, ns, rfl, _⟩ := h
    rfl
  · obtain ⟨a, ns, rfl, hS, h63, q⟩ := h
    have nd := sc_law.nd
    have hu : (A.deeper (envOfC "law" (defScope s_law) s.heap.objs.size f cdv)).units + 64 < cLine := by have z := hr.un; omega
    refine ⟨_, pss_cons (by exact (ps_for PassesOwn.never rfl (pi_list (pe_op op_cat (pe_slice sl_list (pv 0) po_none (po_some pe_int)) (pe_lst (pa_cons pe_int pa_nil)))) (pg_name (i := 1) nd rfl (Or.inl rfl))
      (by exact (
      pss_cons (by exact ps_set (i := 2) nd rfl (Or.inl rfl) (C8.pe_c T.bag hr (by decide) rfl (pa_cons (pv 1) pa_nil)))
      (pss_cons (by exact ps_asg (pe_tup (pa_cons (C8.pe_c T.loop hr (by decide) rfl (pa_cons (pv 2) pa_nil)) (pa_cons (C8.pe_c T.loop hr (by decide) rfl (pa_cons (pv 2) pa_nil)) pa_nil))) (pg_tup rfl (pgs_cons (pg_name (i := 3) nd rfl (Or.inr rfl)) (pgs_cons (pg_name (i := 4) nd rfl (Or.inl rfl)) pgs_nil))))
      (pss_cons (by exact ps_set (i := 5) nd rfl (Or.inr rfl) (pe_callB call_len_str (by rfl) T.len PySem.boot_len (pa_cons (pv 3) pa_nil)))
      (C8.pss_cut (by exact (ps_setLc (i := 6) (own := [("k", 19)]) (g := gName 19) (by rfl) nd rfl rfl (sw_true rfl rfl rfl (by decide +kernel)) (pi_range2 (by rfl) T.range (pa_cons pe_int (pa_cons (pe_op op_add (pv 5) pe_int) pa_nil))) (blkOk_by (N := nL) (sc := defScope s_law) (by decide +kernel))
        (fun _ _ _ _ _ => pg_name (i := 19) nd rfl (Or.inl rfl)) (fun _ _ _ _ _ => pts_one (pt_cmpR op_eq (pe_op op_mulS (pe_slice C8.sl_txt (pv 3) po_none (po_some (pv 19))) (pv 5)) (pe_op op_mulS (pv 3) (pv 19)) (nomark _)))
        (fun _ _ _ _ _ => pe_slice C8.sl_txt (pv 3) po_none (po_some (pv 19)))))
      (C8.pss_cut (by exact (ps_set (i := 7) nd rfl (Or.inl rfl) (pe_cmpR (op_eqD hu) (pe_callB (cr_sortX rfl) (by rfl) T.sorted (by decide +kernel) (pa_cons (pe_callTy (cr_setT rfl) (by rfl) T.set (by decide +kernel) (pa_cons (pv 3) pa_nil)) pa_nil))
        (pe_callB (cr_sortX rfl) (by rfl) T.sorted (by decide +kernel) (pa_cons (pv 3) pa_nil)) (nomark _))))
      (C8.pss_cut (by exact (ps_if (PW.pt (pw_or (pt_cmpR op_notBl (C8.pe_c T.isl hr (by decide) rfl (pa_cons (pv 3) pa_nil)) pe_bl (nomark _))
          (pw_or (pt_cmpR op_ne (pe_callB call_repr (by rfl) T.repr (by decide +kernel) (pa_cons (pe_c0 T.plain hr (by decide) rfl (pa_cons (pv 3) pa_nil)) pa_nil)) (pe_callB call_repr (by rfl) T.repr (by decide +kernel) (pa_cons (pv 7) pa_nil)) (nomark _))
          (pw_or1 (pt_cmpR op_ne (pe_c0 T.root hr (by decide) rfl (pa_cons (pv 3) pa_nil)) (pe_ix ix_list (pv 6) pe_int (fun _ _ => rfl)) (nomark _)))))) (pss_one (ps_ret pe_bl)) pss_nil))
      (C8.pss_cut (by exact (ps_set (i := 8) nd rfl (Or.inr rfl) (pe_ix ix_list (pe_lst (pa_cons (pe_op op_sub (C8.pe_c T.pick hr (by decide) rfl (pa_cons (pv 2) (pa_cons pe_int pa_nil))) pe_int)
          (pa_cons (pe_op op_sub (pe_op op_pow pe_int pe_int) (C8.pe_c T.pick hr (by decide) rfl (pa_cons (pv 2) (pa_cons pe_int pa_nil))))
          (pa_cons (pe_op op_sub (C8.pe_c T.pick hr (by decide) rfl (pa_cons (pv 2) (pa_cons pe_int pa_nil))) (pe_op op_pow pe_int pe_int)) pa_nil)))) (C8.pe_c T.pick hr (by decide) rfl (pa_cons (pv 2) (pa_cons pe_int pa_nil))) (fun _ _ => rfl))))
      (C8.pss_cut (by exact (ps_set (i := 9) nd rfl (Or.inl rfl) (pe_join pe_str (pe_lc (own := [("k", 19)]) (g := gName 19) (tt := tYes) rfl nd (pi_range1 (by rfl) T.range (pa_cons (pv 5) pa_nil)) (blkOk_by (N := nL) (sc := defScope s_law) (by decide +kernel))
        (fun _ _ _ _ _ => pg_name (i := 19) nd rfl (Or.inl rfl)) (fun _ _ _ _ _ => pts_nil)
        (fun _ _ _ _ _ => pe_item_str (pv 3) (pe_op op_mod (pe_op op_add (pv 19) (pv 8)) (pv 5)) (fun _ _ => rfl))))))
      (C8.pss_cut (by exact (ps_if (pt_cmpR op_ne (pe_c0 T.turned hr (by decide) rfl (pa_cons (pv 3) (pa_cons (pv 8) pa_nil))) (pv 9) (nomark _)) (pss_one (ps_ret pe_bl)) pss_nil))
      (C8.pss_cut (by exact (ps_set (i := 10) nd rfl (Or.inl rfl) (pe_slice C8.sl_txt (pe_op op_mulS (pv 3) pe_int) po_none (po_some (pe_callB (call_min2 rfl) (by rfl) T.min (by decide +kernel) (pa_cons pe_int
          (pa_cons (pe_op op_add (pe_op op_add (pv 5) pe_int) (C8.pe_c T.pick hr (by decide) rfl (pa_cons (pv 2) (pa_cons (pv 5) pa_nil)))) pa_nil)))))))
      (C8.pss_cut (by exact (ps_set (i := 11) nd rfl (Or.inl rfl) (pe_slice C8.sl_txt (pv 10) po_none (po_some (pe_op op_add pe_int (C8.pe_c T.pick hr (by decide) rfl (pa_cons (pv 2) (pa_cons (pe_callB call_len_str (by rfl) T.len PySem.boot_len (pa_cons (pv 10) pa_nil)) pa_nil))))))))
      (C8.pss_cut (by exact (ps_for PassesOwn.never rfl (pi_list (pe_lst (pa_cons (pv 4) (pa_cons (pv 3) (pa_cons (pe_ix ix_list (pv 6) pe_int (fun _ _ => rfl)) (pa_cons (pv 9)
          (pa_cons (pe_op op_add_str (pe_slice C8.sl_txt (pv 3) po_none (po_some (pe_un un_neg pe_int))) (pe_slice C8.sl_txt (pv 4) po_none (po_some pe_int))) (pa_cons (pv 10) (pa_cons (pv 11) pa_nil))))))))) (pg_name (i := 12) nd rfl (Or.inl rfl))
        (by exact (pss_cons (by exact (ps_asg (pe_tup (pa_cons (pe_slice C8.sl_txt (pe_op op_mulS (pv 3) pe_int) po_none (po_some pe_int)) (pa_cons (pe_slice C8.sl_txt (pe_op op_mulS (pv 12) pe_int) po_none (po_some pe_int)) pa_nil))) (pg_tup rfl (pgs_cons (pg_name (i := 13) nd rfl (Or.inr rfl)) (pgs_cons (pg_name (i := 14) nd rfl (Or.inr rfl)) pgs_nil)))))
          (C8.pss_cut (by exact (ps_setLc (i := 15) (own := [("k", 19)]) (g := gName 19) (by rfl) nd rfl rfl (sw_true rfl rfl rfl (by decide +kernel)) (pi_range1 (by rfl) T.range (pa_cons pe_int pa_nil)) (blkOk_by (N := nL) (sc := defScope s_law) (by decide +kernel))
            (fun _ _ _ _ _ => pg_name (i := 19) nd rfl (Or.inl rfl)) (fun _ _ _ _ _ => pts_one (pt_cmpR op_ne (pe_item_str (pv 13) (pv 19) (fun _ _ => rfl)) (pe_item_str (pv 14) (pv 19) (fun _ _ => rfl)) (nomark _)))
            (fun _ _ _ _ _ => pv 19)))
          (pss_one (by exact (ps_if (pt_cmpR op_ne (pe_callB call_repr (by rfl) T.repr (by decide +kernel) (pa_cons (pe_c0 T.alike hr (by decide) rfl (pa_cons (pv 3) (pa_cons (pv 12) pa_nil))) pa_nil))
            (pe_callB call_repr (by rfl) T.repr (by decide +kernel) (pa_cons (pe_ifExp (pt_cmpR (op_neD hu) (pv 15) (pe_lst pa_nil) (nomark _)) (pe_ix ix_list (pv 15) pe_int (fun _ _ => rfl)) pe_non) pa_nil)) (nomark _)) (pss_one (ps_ret pe_bl)) pss_nil))))))))
      (C8.pss_cut (by exact (ps_set (i := 16) nd rfl (Or.inl rfl) (pe_item_str pe_str (C8.pe_c T.pick hr (by decide) rfl (pa_cons (pv 2) (pa_cons pe_int pa_nil))) (fun _ _ => rfl))))
      (pss_one (by exact (ps_for PassesOwn.never rfl (pi_list (pe_lst (pa_cons pe_non (pa_cons pe_str (pa_cons (pv 16) (pa_cons (pe_op op_add_str pe_str (pv 16)) (pa_cons (pe_op op_mulS pe_str pe_int) (pa_cons pe_int
          (pa_cons (pe_lst (pa_cons pe_str pa_nil)) (pa_cons (pe_tup (pa_cons pe_str pa_nil)) (pa_cons pe_str (pa_cons pe_str pa_nil)))))))))))) (pg_name (i := 17) nd rfl (Or.inr rfl))
        (by exact (C8.pss_cut (by exact (ps_setLc (i := 18) (own := [("way", 20)]) (g := gName 20) (by rfl) nd rfl rfl (sw_true rfl rfl rfl (by decide +kernel)) (pi_range1 (by rfl) T.range (pa_cons pe_int pa_nil)) (blkOk_by (N := nL) (sc := defScope s_law) (by decide +kernel))
            (fun _ _ _ _ _ => pg_name (i := 20) nd rfl (Or.inl rfl)) (fun _ _ _ _ _ => pts_one (pt_not (pt_val (C8.pe_c T.none hr (by decide) rfl (pa_cons (pv 20) (pa_cons (pv 17) (pa_cons (pv 3) pa_nil)))))))
            (fun _ _ _ _ _ => pv 20)))
          (pss_one (by exact (ps_if (PW.pt (pw_or (pt_cmpR op_notBl (C8.pe_c T.isl hr (by decide) rfl (pa_cons (pv 17) pa_nil)) pe_bl (nomark _)) (pw_or1 (pt_cmpR (op_neD hu) (pv 18) (pe_lst pa_nil) (nomark _))))) (pss_one (ps_ret pe_bl)) pss_nil))))))))
      ))))))))))))))))
      (pss_one (ps_ret pe_bl)), ?_⟩
    -- script[:24] + [0]
    refine ⟨_, rfl, _, rfl, a, _, rfl, hS, fun p1 n1 => ⟨(by show 1 ≤ sizeLine; decide), fun p2 n2 => ?_⟩⟩
    have h1 : upd (upd H p1 (.lst (cutV (ns.map V.int) Option.none (some 24)))) p2 (.lst [.int 0]) p1 = some (.lst (cutV (ns.map V.int) Option.none (some 24))) := by
      rw [upd_ne (ne_of_none upd_same n2), upd_same]
    have cint : ∀ x ∈ cutV (ns.map V.int) Option.none (some 24) ++ [V.int 0], ∃ z, x = V.int z := by
      intro x hx
      rcases List.mem_append.mp hx with h | h
      · unfold cutV at h
        obtain ⟨z, _, e⟩ := List.mem_map.mp (List.mem_of_mem_drop (List.mem_of_mem_take h))
        exact ⟨z, e.symm⟩
      · exact ⟨0, List.mem_singleton.mp h⟩
    have lcut : (cutV (ns.map V.int) Option.none (some 24)).length ≤ 63 := by
      unfold cutV
      rw [List.length_take, List.length_drop, List.length_map]
      omega
    refine ⟨p1, p2, _, _, rfl, rfl, h1, upd_same, ?_, fun L nL => ?_⟩
    · show _ + 1 ≤ sizeLine
      rw [sizeLine_eq]
      omega
    generalize cutV (ns.map V.int) Option.none (some 24) ++ [V.int 0] = cells at cint
    generalize upd (upd H p1 (.lst (cutV (ns.map V.int) Option.none (some 24)))) p2 (.lst [.int 0]) = HX
    obtain ⟨HL, eHL⟩ : ∃ HL, HL = upd HX L (.lst cells) := ⟨_, rfl⟩
    have hL : HL L = some (.lst cells) := by rw [eHL, upd_same]
    rw [← eHL]
    clear eHL
    refine ⟨L, rfl, ⟨_, SqL.of hL⟩, for_list (K := K) (a := L) (xs := cells) (fun i σ H1 => ∃ y1 y2 y3 y4 y5 y6 y7 y8 y9 y10 y11 y12 y13 y14 y15 y16 y17 y18 y19 y20, σ = [some (.ref a), y1, y2, y3, y4, y5, y6, y7, y8, y9, y10, y11, y12, y13, y14, y15, y16, y17, y18, y19, y20] ∧ Same HL H1) ⟨.none, .none, .none, .none, .none, .none, .none, .none, .none, .none, .none, .none, .none, .none, .none, .none, .none, .none, .none, .none, rfl, Same.refl _⟩ (fun i σ H1 _ h => by
      obtain ⟨_, _, _, _, _, _, _, _, _, _, _, _, _, _, _, _, _, _, _, _, _, q⟩ := h
      exact SqL.of (q _ _ hL)) ?_ ?_⟩
    · rintro i x σ H1 hx ⟨y1, y2, y3, y4, y5, y6, y7, y8, y9, y10, y11, y12, y13, y14, y15, y16, y17, y18, y19, y20, rfl, s1⟩
      obtain ⟨z, rfl⟩ := cint x (List.mem_of_getElem? hx)
      -- bag, loop, other, many
      refine ⟨_, rfl, z, rfl, fun A b nA => ?_⟩
      have nLA : HL A = .none := s1.free nA
      have kp : ∀ {H2 H3 : Hp}, Same HL H2 → SameBut A H2 H3 → Same HL H3 := fun s t b o e => t b o (ne_of_none e nLA) (s b o e)
      refine ⟨_, rfl, A, b, rfl, upd_same, fun l Ha il bA sba => ?_⟩
      obtain ⟨b2, hb2⟩ := bA
      refine ⟨_, rfl, A, b2, rfl, hb2, fun m Hb im bB sbb => ⟨(by show 2 ≤ sizeLine; decide), fun p np => ?_⟩⟩
      have s2 : Same HL Hb := kp (kp (s1.trans (same_new nA)) sba) sbb
      obtain ⟨b3, hb3⟩ := bB
      have nAp : A ≠ p := ne_of_none hb3 np
      refine ⟨p, [.str (S l), .str (S m)], rfl, .inl (.inl upd_same), rfl, _, [.str (S m)], rfl, _, [], rfl, rfl, ?_⟩
      obtain ⟨azl, l1, l12⟩ := isLoop_len il
      obtain ⟨azm, m1, m12⟩ := isLoop_len im
      refine ⟨_, rfl, S l, rfl, small12 l12, ?_⟩
      rw [SX.S_len]
      have s3 : Same HL (upd Hb p (.tup [.str (S l), .str (S m)])) := s2.trans (same_new np)
      have hb4 : upd Hb p (.tup [.str (S l), .str (S m)]) A = some (bagO b3) := by rw [upd_ne nAp]; exact hb3
      generalize upd Hb p (.tup [.str (S l), .str (S m)]) = H4 at s3 hb4
      clear hb3 hb2 nAp sba sbb s2 np
      -- due
      refine ⟨fun σ' H' => ∃ pd d r, IsPer l d ∧ σ' = fr a z A l m [some (.ref pd), y7, y8, y9, y10, y11, y12, y13, y14, y15, y16, y17, y18, y19, y20] ∧ Same HL H' ∧ Bag H' A ∧ H' pd = some (.lst (.str (S (l.take d)) :: r)), ?_, ?_⟩
      · refine ⟨_, rfl, _, _, rfl, rfl, 1, _, rfl, ⟨by decide, by decide, by omega, by omega⟩, fun D nD => ?_⟩
        have ne : ((l.length : Int) + 1 - 1).toNat = l.length := by omega
        have nLD : HL D = .none := s3.free nD
        have nAD : A ≠ D := ne_of_none hb4 nD
        rw [ne]
        refine lc_range (lo := 1) (n := l.length) (fun i H' => ∃ acc, Due l i acc ∧ H' D = some (.lst acc) ∧ Same HL H' ∧ Bag H' A) ⟨[], due_nil, upd_same, s3.trans (same_new nD), ⟨b3, by rw [upd_ne nAD]; exact hb4⟩⟩ ?_ ?_
        · rintro i H5 hi ⟨acc, du, eD, s5, ⟨b5, hb5⟩⟩
          have e1 : (1 + (i : Int)).toNat = i + 1 := by omega
          have e2 : (1 + (i : Int)) = ((i + 1 : Nat) : Int) := by omega
          refine ⟨rfl, _, rfl, _, rfl, _, rfl, S l, rfl, small12 l12, ?_⟩
          rw [SX.slice_to (by omega), e1]
          have lt : (l.take (i + 1)).length = i + 1 := by rw [List.length_take]; omega
          refine ⟨_, rfl, l.take (i + 1), l.length, rfl, rfl, by omega, ?_, ?_⟩
          · rw [lt]
            exact Nat.le_trans (Nat.mul_le_mul l12 (show i + 1 ≤ 12 by omega)) (by decide)
          refine ⟨_, rfl, _, rfl, l, i + 1, rfl, by rw [e2], by omega, ?_, rfl, _, rfl, ite2 (fun g => ?_) (fun g => ?_)⟩
          · exact Nat.le_trans (Nat.mul_le_mul (show i + 1 ≤ 12 by omega) l12) (by decide)
          · have g1 : rep l.length (l.take (i + 1)) = rep (i + 1) l := SX.S_inj (V.str.inj (of_decide_eq_true g))
            refine ⟨_, rfl, _, rfl, _, rfl, S l, rfl, small12 l12, ?_⟩
            rw [SX.slice_to (by omega), e1]
            refine ⟨acc, eD, ?_, acc ++ [.str (S (l.take (i + 1)))], due_yes du hi ((said_over (by omega) (by omega) (by omega)).mp g1), upd_same, fun c o e => ?_, ⟨b5, ?_⟩⟩
            · have := du.1
              rw [sizeLine_eq]
              omega
            · rw [upd_ne (ne_of_none e nLD)]
              exact s5 c o e
            · rw [upd_ne nAD]
              exact hb5
          · exact ⟨acc, due_no du (fun c => g (decide_eq_true (by rw [(said_over (by omega) (by omega) (by omega)).mpr c]))), eD, s5, ⟨b5, hb5⟩⟩
        · rintro H5 ⟨acc, du, eD, s5, bA⟩
          obtain ⟨d, r, pd, rfl⟩ := due_end (by omega) du
          exact ⟨D, d, r, pd, rfl, s5, bA, eD⟩
      rintro σ5 H5 ⟨pd, d, r, per, rfl, s5, bA5, hpd⟩
      clear hb4 s3
      -- plain
      refine ⟨fun σ' H' => σ' = fr a z A l m [some (.ref pd), some (.bl (decide l.Nodup)), y8, y9, y10, y11, y12, y13, y14, y15, y16, y17, y18, y19, y20] ∧ Same HL H' ∧ Bag H' A ∧ H' pd = some (.lst (.str (S (l.take d)) :: r)), ?_, ?_⟩
      · refine ⟨_, rfl, l, rfl, az_small azl, by omega, fun p ks np ndk mm ll => ?_⟩
        refine ⟨ks, by omega, .inr ⟨p, rfl, upd_same, ndk⟩, fun zs p2 pm so n2 => ?_⟩
        refine ⟨_, rfl, l.map PySem.Froz.sing, by rw [List.length_map]; omega, .inl ⟨l, rfl, by omega, rfl⟩, fun zs2 p3 pm2 so2 n3 => ?_⟩
        have ok1 : ∀ y ∈ zs2, PyData.strOk y = true := fun y hy => by
          obtain ⟨c, hc, rfl⟩ := List.mem_map.mp (pm2.mem_iff.mp hy)
          have := azl c hc
          exact sing_ok (by omega)
        have ok0 : ∀ y ∈ zs, PyData.strOk y = true := fun y hy => by
          obtain ⟨c, hc, rfl⟩ := (mm y).mp (pm.mem_iff.mp hy)
          have := azl c hc
          exact sing_ok (by omega)
        refine ⟨_, _, .lst (SqL.of (by rw [upd_ne (ne_of_none upd_same n3), upd_same])) (dp_strs zs), .lst (SqL.of upd_same) (dp_strs zs2), shaped_strs _ ok0, shaped_strs _ ok1, ?_⟩
        rw [eqv_strs, plain_iff ndk mm pm so pm2 so2]
        have sm : Same H5 (upd (upd (upd H5 p (SetT P w p ks)) p2 (.lst (zs.map V.str))) p3 (.lst (zs2.map V.str))) := ((same_new np).trans (same_new n2)).trans (same_new n3)
        obtain ⟨b5, hb5⟩ := bA5
        exact ⟨rfl, s5.trans sm, ⟨b5, sm _ _ hb5⟩, sm _ _ hpd⟩
      clear s5 bA5 hpd
      rintro σ6 H6 ⟨rfl, s6, bA6, hpd6⟩
      -- if ..: return False
      have hno : ∀ {B : Prop}, isLoop l = false → B := fun e => by rw [il] at e; cases e
      refine ⟨fun σ' H' => σ' = fr a z A l m [some (.ref pd), some (.bl (decide l.Nodup)), y8, y9, y10, y11, y12, y13, y14, y15, y16, y17, y18, y19, y20] ∧ Same HL H' ∧ Bag H' A ∧ H' pd = some (.lst (.str (S (l.take d)) :: r)), ?_, ?_⟩
      · refine ⟨_, rfl, _, _, rfl, .str l (by omega), fun H7 s7 => ?_⟩
        refine ⟨isLoop l, true, rfl, rfl, _, rfl, ?_⟩
        refine iteNS il ?_
        refine ⟨_, rfl, _, _, rfl, .str l (by omega), fun _ l' e H8 s8 => ?_, fun e => hno e⟩
        have el : l' = l := SX.S_inj (V.str.inj e).symm
        subst el
        refine .inl ⟨_, rfl, _, rfl, .inl ⟨_, rfl, rfl, _, rfl, iteNS rfl ?_⟩⟩
        refine ⟨_, rfl, _, _, rfl, .str l' (by omega), fun _ l2 d2 e2 per2 H9 s9 => ?_, fun e => hno e⟩
        have el : l2 = l' := SX.S_inj (V.str.inj e2).symm
        subst el
        have ed : d2 = d := per_uniq per2 per
        subst ed
        have sm : Same H6 H9 := (s7.trans s8).trans s9
        refine ⟨_, rfl, pd, _, 0, .str (S (l2.take d2)), rfl, rfl, SqL.of (sm _ _ hpd6), atI_nat (j := 0) rfl, rfl, _, rfl, iteNS rfl ?_⟩
        obtain ⟨b6, hb6⟩ := bA6
        exact ⟨rfl, s6.trans sm, ⟨b6, sm _ _ hb6⟩, sm _ _ hpd6⟩
      clear s6 bA6 hpd6
      rintro σ7 H7 ⟨rfl, s7, ⟨b7, hb7⟩, hpd7⟩
      have npA := pd_ne hpd7 hb7
      -- by
      refine ⟨fun σ' H' => ∃ n : Int, σ' = fr a z A l m [some (.ref pd), some (.bl (decide l.Nodup)), some (.int n), y9, y10, y11, y12, y13, y14, y15, y16, y17, y18, y19, y20] ∧ Same HL H' ∧ Bag H' A ∧ H' pd = some (.lst (.str (S (l.take d)) :: r)), ?_, ?_⟩
      · refine ⟨_, rfl, A, 30, b7, rfl, hb7, by decide, by decide, fun v b1 _ _ => ⟨_, _, rfl, rfl, ?_⟩⟩
        refine ⟨_, _, rfl, rfl, ⟨by decide, by decide, by decide⟩, _, rfl, A, 99, b1, rfl, upd_same, by decide, by decide, fun v2 b2 _ _ => ⟨_, _, rfl, rfl, ?_⟩⟩
        refine ⟨_, rfl, A, 99, b2, rfl, upd_same, by decide, by decide, fun v3 b3 _ _ => ⟨_, _, rfl, rfl, ⟨by decide, by decide, by decide⟩, _, _, rfl, rfl, (by show 3 ≤ sizeLine; decide), fun p np => ?_⟩⟩
        have nAp : A ≠ p := fun e => by rw [← e, upd_same] at np; cases np
        refine ⟨_, rfl, A, 3, b3, rfl, (by rw [upd_ne nAp, upd_same]), by decide, by decide, fun v4 b4 v40 v43 => ?_⟩
        obtain ⟨n, hn⟩ := three_at (v - 15) (10 ^ (36 : Int).toNat - v2) (v3 - 10 ^ (36 : Int).toNat) v40 v43
        refine ⟨p, _, v4, .int n, rfl, rfl, SqL.of (by rw [upd_ne nAp.symm, upd_same]), hn, n, rfl, ?_, ⟨b4, upd_same⟩, ?_⟩
        · exact kp s7 (((((sameBut_upd).trans sameBut_upd).trans sameBut_upd).trans (sameBut_new np)).trans sameBut_upd)
        · exact ((((sameBut_upd).trans sameBut_upd).trans sameBut_upd).trans (sameBut_new np)).trans sameBut_upd _ _ npA hpd7
      clear s7 hb7 hpd7
      rintro σ8 H8 ⟨n, rfl, s8, ⟨b8, hb8⟩, hpd8⟩
      -- around
      have lp : (0 : Int) < l.length := by omega
      refine ⟨fun σ' H' => σ' = fr a z A l m [some (.ref pd), some (.bl (decide l.Nodup)), some (.int n), some (.str (S (rotL l (n % l.length).toNat))), y10, y11, y12, y13, y14, y15, y16, y17, y18, y19, y20] ∧ Same HL H' ∧ Bag H' A ∧ H' pd = some (.lst (.str (S (l.take d)) :: r)), ?_, ?_⟩
      · refine ⟨⟨_, rfl⟩, _, rfl, _, rfl, by omega, by omega, fun D nD => ?_⟩
        have nLD : H8 D = .none := nD
        have nAD : A ≠ D := ne_of_none hb8 nD
        have npD : pd ≠ D := ne_of_none hpd8 nD
        refine lc_range (lo := 0) (n := (l.length : Int).toNat) (fun i H' => H' D = some (.lst (((rotL l (n % l.length).toNat).take i).map fun c => V.str (S [c]))) ∧ Same H8 H') ⟨upd_same, same_new nD⟩ ?_ ?_
        · rintro i H9 hi ⟨eD, s9⟩
          have hi' : i < l.length := by omega
          have hk0 : 0 ≤ (0 + (i : Int) + n) % (l.length : Int) := Int.emod_nonneg _ (by omega)
          have hk1 : (0 + (i : Int) + n) % (l.length : Int) < l.length := Int.emod_lt_of_pos _ lp
          have hc : (S l).cps[((0 + (i : Int) + n) % (l.length : Int)).toNat]? = some ((rotL l (n % l.length).toNat).getD i 0) := by
            have hb : (n % (l.length : Int)).toNat < l.length := by
              have h0 : 0 ≤ n % (l.length : Int) := Int.emod_nonneg _ (by omega)
              have h1 : n % (l.length : Int) < l.length := Int.emod_lt_of_pos _ lp
              omega
            rw [rotL_at hb hi']
            have e : ((0 + (i : Int) + n) % (l.length : Int)).toNat = (i + (n % (l.length : Int)).toNat) % l.length := by
              have h0 : 0 ≤ n % (l.length : Int) := Int.emod_nonneg _ (by omega)
              have e1 : ((n % (l.length : Int)).toNat : Int) = n % (l.length : Int) := Int.toNat_of_nonneg h0
              have e2 : (((i + (n % (l.length : Int)).toNat) % l.length : Nat) : Int) = (0 + (i : Int) + n) % (l.length : Int) := by
                rw [Int.natCast_emod, Int.natCast_add, e1, Int.zero_add, Int.add_emod_emod]
              omega
            rw [e]
            have hm : (i + (n % (l.length : Int)).toNat) % l.length < l.length := Nat.mod_lt _ (by omega)
            show (l.toArray)[(i + (n % (l.length : Int)).toNat) % l.length]? = _
            rw [List.getElem?_toArray, List.getElem?_eq_getElem hm, getD_eq hm]
          have hlr := rotL_len l (n % l.length).toNat
          have hg : (rotL l (n % l.length).toNat)[i]? = some ((rotL l (n % l.length).toNat).getD i 0) := by
            rw [List.getElem?_eq_getElem (by omega), getD_eq (by omega)]
          refine ⟨rfl, _, rfl, _, rfl, _, rfl, _, _, rfl, rfl, _, rfl, _, _, rfl, rfl, lp, ?_⟩
          refine ⟨S l, _, _, rfl, rfl, hk0, by omega, (by rw [SX.S_len]; exact hk1), hc, _, eD, ?_, ?_, fun c o e => ?_⟩
          · rw [List.length_map, List.length_take, sizeLine_eq]
            omega
          · rw [upd_same, List.take_add_one, hg, List.map_append]
            rfl
          · rw [upd_ne (ne_of_none e nLD)]
            exact s9 c o e
        · rintro H9 ⟨eD, s9⟩
          have hlr := rotL_len l (n % l.length).toNat
          rw [List.take_of_length_le (by omega)] at eD
          refine ⟨_, D, (rotL l (n % l.length).toNat).map fun c => S [c], rfl, rfl, .inl (SqL.of (by rw [List.map_map]; exact eD)), ?_, ?_⟩
          · have e : ∀ k : List Nat, ((k.map fun c => S [c]).map (·.length)).sum = k.length := by
              intro k
              rw [List.map_map]
              induction k with
              | nil => rfl
              | cons c k ih =>
                rw [List.map_cons, List.sum_cons, ih, List.length_cons]
                show 1 + k.length = k.length + 1
                omega
            rw [e, List.length_map, show (Str.ofString "").length = 0 from by decide +kernel]
            omega
          · rw [join_ones]
            exact ⟨rfl, s8.trans s9, ⟨b8, s9 _ _ hb8⟩, s9 _ _ hpd8⟩
      clear s8 hb8 hpd8
      rintro σ9 H9 ⟨rfl, s9, ⟨b9, hb9⟩, hpd9⟩
      obtain ⟨rt, hrt⟩ : ∃ rt, rt = rotL l (n % l.length).toNat := ⟨_, rfl⟩
      have irt : isLoop rt = true := by
        rw [hrt]
        exact isLoop_of (az_rot azl _) (by rw [rotL_len]; exact l1) (by rw [rotL_len]; exact l12)
      -- if turned(..) != around
      refine ⟨fun σ' H' => σ' = fr a z A l m [some (.ref pd), some (.bl (decide l.Nodup)), some (.int n), some (.str (S rt)), y10, y11, y12, y13, y14, y15, y16, y17, y18, y19, y20] ∧ Same HL H' ∧ Bag H' A ∧ H' pd = some (.lst (.str (S (l.take d)) :: r)), ?_, ?_⟩
      · refine ⟨_, rfl, _, rfl, _, n, _, rfl, .str l (by omega), fun _ l' e HA sA => ?_, fun e => hno e⟩
        have el : l' = l := SX.S_inj (V.str.inj e).symm
        subst el
        refine ⟨_, rfl, rfl, _, rfl, iteNS rfl ?_⟩
        rw [← hrt]
        exact ⟨rfl, s9.trans sA, ⟨b9, sA _ _ hb9⟩, sA _ _ hpd9⟩
      clear s9 hb9 hpd9
      rintro σA HA ⟨rfl, sA, ⟨bA, hbA⟩, hpdA⟩
      -- longer
      have npA2 := pd_ne hpdA hbA
      refine ⟨fun σ' H' => ∃ g, isLoop g = true ∧ σ' = fr a z A l m [some (.ref pd), some (.bl (decide l.Nodup)), some (.int n), some (.str (S rt)), some (.str (S g)), y11, y12, y13, y14, y15, y16, y17, y18, y19, y20] ∧ Same HL H' ∧ Bag H' A ∧ H' pd = some (.lst (.str (S (l.take d)) :: r)), ?_, ?_⟩
      · refine ⟨_, rfl, l, 2, rfl, rfl, by omega, by omega, ?_⟩
        refine ⟨_, rfl, _, _, rfl, rfl, _, rfl, _, rfl, A, _, bA, rfl, hbA, by omega, by omega, fun v b1 v0 v1 => ⟨_, _, rfl, rfl, 12, _, rfl, _, rfl, S (rep 2 l), rfl, ?_, ?_⟩⟩
        · rw [SX.S_len, rep_len, sizeLine_eq]
          omega
        have hv : v < (l.length : Int) := v1
        have hmin : 1 ≤ (if (l.length : Int) + 1 + v < 12 then (l.length : Int) + 1 + v else 12) ∧ (if (l.length : Int) + 1 + v < 12 then (l.length : Int) + 1 + v else 12) ≤ 12 := by
          split <;> omega
        rw [SX.slice_to (by omega)]
        refine ⟨_, isLoop_of (az_take (az_rep azl 2) _) ?_ ?_, rfl, kp sA sameBut_upd, ⟨b1, upd_same⟩, sameBut_upd _ _ npA2 hpdA⟩
        · rw [List.length_take, rep_len]
          omega
        · rw [List.length_take]
          omega
      clear sA hbA hpdA
      rintro σB HB ⟨g, ig, rfl, sB, ⟨bB, hbB⟩, hpdB⟩
      obtain ⟨azg, g1, g12⟩ := isLoop_len ig
      -- shorter
      have npB := pd_ne hpdB hbB
      refine ⟨fun σ' H' => ∃ g2, isLoop g2 = true ∧ σ' = fr a z A l m [some (.ref pd), some (.bl (decide l.Nodup)), some (.int n), some (.str (S rt)), some (.str (S g)), some (.str (S g2)), y12, y13, y14, y15, y16, y17, y18, y19, y20] ∧ Same HL H' ∧ Bag H' A ∧ H' pd = some (.lst (.str (S (l.take d)) :: r)), ?_, ?_⟩
      · refine ⟨_, rfl, _, rfl, _, rfl, S g, rfl, small12 g12, A, _, bB, rfl, hbB, (by rw [SX.S_len]; omega), (by rw [SX.S_len]; omega), fun v b1 v0 v1 => ⟨_, _, rfl, rfl, _, rfl, S g, rfl, small12 g12, ?_⟩⟩
        rw [SX.slice_to (by omega)]
        refine ⟨_, isLoop_of (az_take azg _) ?_ ?_, rfl, kp sB sameBut_upd, ⟨b1, upd_same⟩, sameBut_upd _ _ npB hpdB⟩
        · rw [List.length_take]
          omega
        · rw [List.length_take]
          omega
      clear sB hbB hpdB
      rintro σC HC ⟨g2, ig2, rfl, sC, ⟨bC, hbC⟩, hpdC⟩
      -- for one in ..
      refine ⟨fun σ' H' => ∃ x12 x13 x14 x15, σ' = fr a z A l m [some (.ref pd), some (.bl (decide l.Nodup)), some (.int n), some (.str (S rt)), some (.str (S g)), some (.str (S g2)), x12, x13, x14, x15, y16, y17, y18, y19, y20] ∧ Same HL H' ∧ Bag H' A, ?_, ?_⟩
      · refine ⟨_, rfl, _, rfl, _, rfl, pd, _, 0, .str (S (l.take d)), rfl, rfl, SqL.of hpdC, atI_nat (j := 0) rfl, _, rfl, _, rfl, _, rfl, _, rfl, S l, rfl, small12 l12, _, rfl, _, rfl, S m, rfl, small12 m12, ?_⟩
        have il1 : l ≠ [] := fun e => by rw [e] at l1; simp at l1
        have e1 : Txt.slice (S l) Option.none (some (-1)) = S (l.take (l.length - 1)) := SX.slice_butlast il1
        have e2 : Txt.slice (S m) Option.none (some 1) = S (m.take 1) := SX.slice_to (by decide)
        rw [e1, e2]
        refine ⟨_, _, rfl, rfl, ?_, ?_⟩
        · rw [SX.S_len, SX.S_len, List.length_take, List.length_take, sizeLine_eq]
          omega
        rw [SX.S_cat]
        refine ⟨_, rfl, _, rfl, (by show 7 ≤ sizeLine; decide), fun po npo => ?_⟩
        obtain ⟨os, eos, ios⟩ : ∃ os : List (List Nat), os.map (fun o => V.str (S o)) = [.str (S m), .str (S l), .str (S (l.take d)), .str (S rt), .str (SX.S (l.take (l.length - 1) ++ m.take 1)), .str (S g), .str (S g2)] ∧ ∀ o ∈ os, isLoop o = true := by
          refine ⟨[m, l, l.take d, rt, l.take (l.length - 1) ++ m.take 1, g, g2], rfl, fun o ho => ?_⟩
          have hd : isLoop (l.take d) = true := by
            have h1 := per.1
            have h2 := per.2.1
            refine isLoop_of (az_take azl d) ?_ ?_
            · rw [List.length_take]; omega
            · rw [List.length_take]; omega
          have hm : isLoop (l.take (l.length - 1) ++ m.take 1) = true := by
            refine isLoop_of (az_app (az_take azl _) (az_take azm _)) ?_ ?_
            · rw [List.length_append, List.length_take, List.length_take]; omega
            · rw [List.length_append, List.length_take, List.length_take]; omega
          simp only [List.mem_cons, List.not_mem_nil, or_false] at ho
          rcases ho with rfl | rfl | rfl | rfl | rfl | rfl | rfl
          · exact im
          · exact il
          · exact hd
          · exact irt
          · exact hm
          · exact ig
          · exact ig2
        rw [← eos]
        obtain ⟨HO1, eHO⟩ : ∃ HO1, HO1 = upd HC po (.lst (os.map fun o => V.str (S o))) := ⟨_, rfl⟩
        have hpo : HO1 po = some (.lst (os.map fun o => V.str (S o))) := by rw [eHO, upd_same]
        have sHO : Same HC HO1 := by rw [eHO]; exact same_new npo
        rw [← eHO]
        clear eHO
        have bHO := sHO _ _ hbC
        refine ⟨po, rfl, ⟨_, SqL.of hpo⟩, for_list (K := K) (a := po) (xs := os.map fun o => V.str (S o)) (fun i σ' H' => ∃ x12 x13 x14 x15, σ' = fr a z A l m [some (.ref pd), some (.bl (decide l.Nodup)), some (.int n), some (.str (S rt)), some (.str (S g)), some (.str (S g2)), x12, x13, x14, x15, y16, y17, y18, y19, y20] ∧ Same HO1 H')
          ⟨_, _, _, _, rfl, Same.refl _⟩ (fun i σ' H' _ h => ?_) ?_ ?_⟩
        · obtain ⟨_, _, _, _, _, q⟩ := h
          exact SqL.of (q _ _ hpo)
        · rintro i x σ1 HD hx ⟨x12, x13, x14, x15, rfl, sD⟩
          obtain ⟨o, ho, rfl⟩ := List.mem_map.mp (List.mem_of_getElem? hx)
          have io := ios o ho
          obtain ⟨azo, o1, o12⟩ := isLoop_len io
          -- far, near
          refine ⟨_, rfl, l, 1000, rfl, rfl, by omega, by omega, 1000, rfl, S (rep 1000 l), rfl, ?_, ?_⟩
          · rw [SX.S_len, rep_len, sizeLine_eq]; omega
          rw [SX.slice_to (by decide)]
          refine ⟨_, rfl, o, 1000, rfl, rfl, by omega, by omega, 1000, rfl, S (rep 1000 o), rfl, ?_, ?_⟩
          · rw [SX.S_len, rep_len, sizeLine_eq]; omega
          rw [SX.slice_to (by decide)]
          refine ⟨(by show 2 ≤ sizeLine; decide), fun pt npt => ⟨pt, _, rfl, .inl (.inl upd_same), rfl, _, _, rfl, _, [], rfl, rfl, ?_⟩⟩
          have sE : Same HO1 (upd HD pt (.tup [.str (S ((rep 1000 l).take (1000 : Int).toNat)), .str (S ((rep 1000 o).take (1000 : Int).toNat))])) := sD.trans (same_new npt)
          generalize upd HD pt (.tup [.str (S ((rep 1000 l).take (1000 : Int).toNat)), .str (S ((rep 1000 o).take (1000 : Int).toNat))]) = HE at sE
          clear sD npt
          have l0 : 0 < l.length := by omega
          have o0 : 0 < o.length := by omega
          have lenF : ∀ q : List Nat, 0 < q.length → ((rep 1000 q).take (1000 : Int).toNat).length = 1000 := fun q q0 => by
            have : 1000 ≤ (rep 1000 q).length := by rw [rep_len]; exact Nat.le_mul_of_pos_right 1000 q0
            rw [List.length_take]
            show min 1000 _ = 1000
            omega
          have atF : ∀ (q : List Nat) (i : Nat), 0 < q.length → i < 1000 → (S ((rep 1000 q).take (1000 : Int).toNat)).cps[(0 + (i : Int)).toNat]? = some (lat q i) := fun q i q0 hi => by
            have e : (0 + (i : Int)).toNat = i := by omega
            rw [e]
            show (((rep 1000 q).take 1000).toArray)[i]? = some (lat q i)
            rw [List.getElem?_toArray]
            exact far_at q0 hi
          -- apart
          refine ⟨fun σ' H' => ∃ pa, σ' = fr a z A l m [some (.ref pd), some (.bl (decide l.Nodup)), some (.int n), some (.str (S rt)), some (.str (S g)), some (.str (S g2)), some (.str (S o)), some (.str (S ((rep 1000 l).take (1000 : Int).toNat))), some (.str (S ((rep 1000 o).take (1000 : Int).toNat))), some (.ref pa), y16, y17, y18, y19, y20] ∧
            Same HO1 H' ∧ H' pa = some (.lst ((fl l o 1000).map fun (k : Nat) => V.int k)), ?_, ?_⟩
          · refine ⟨1000, rfl, by decide, by decide, fun D nD => ?_⟩
            have nOD : HO1 D = Option.none := sE.free nD
            refine lc_range (lo := 0) (n := (1000 : Int).toNat) (fun i H' => H' D = some (.lst ((fl l o i).map fun (k : Nat) => V.int k)) ∧ Same HO1 H') ⟨upd_same, sE.trans (same_new nD)⟩ ?_ ?_
            · rintro i HF hi ⟨eD, sF⟩
              have hi' : i < 1000 := hi
              have hc : V.int (0 + (i : Int)) = V.int (i : Int) := by rw [Int.zero_add]
              refine ⟨rfl, _, rfl, _, rfl, S ((rep 1000 l).take (1000 : Int).toNat), _, lat l i, rfl, rfl, by omega, by omega, (by rw [SX.S_len, lenF l l0]; omega), atF l i l0 hi', _, rfl, _, rfl, S ((rep 1000 o).take (1000 : Int).toNat), _, lat o i, rfl, rfl, by omega, by omega, (by rw [SX.S_len, lenF o o0]; omega), atF o i o0 hi', rfl, _, rfl, ?_⟩
              by_cases c : lat l i = lat o i
              · refine iteNS (by rw [c]) ?_
                refine ⟨?_, sF⟩
                rw [fl_succ, if_pos c, List.append_nil]
                exact eD
              · have nt : (!decide (V.str (⟨#[lat l i]⟩ : Str) = V.str (⟨#[lat o i]⟩ : Str))) = true := by
                  rw [decide_eq_false (fun q => c (List.cons.inj (SX.S_inj (a := [lat l i]) (b := [lat o i]) (V.str.inj q))).1)]
                  rfl
                refine ite2 (fun _ => ?_) (fun q => absurd nt q)
                refine ⟨_, rfl, _, eD, ?_, ?_, fun b u e => ?_⟩
                · have := fl_len l o i
                  rw [List.length_map, sizeLine_eq]
                  omega
                · rw [upd_same, fl_succ, if_neg c, List.map_append]
                  show some (HO.lst (_ ++ [V.int (0 + (i : Int))])) = _
                  rw [hc]
                  rfl
                · rw [upd_ne (ne_of_none e nOD)]
                  exact sF b u e
            · rintro HF ⟨eD, sF⟩
              exact ⟨D, rfl, sF, eD⟩
          rintro σ2 HF ⟨pa, rfl, sF, hpa⟩
          clear sE
          -- if repr(..) != repr(..)
          have Lo : ∀ {H' : Hp} {q : List Nat}, isLoop q = true → q.length ≤ 12 → LoopV H' (.str (S q)) true := fun {H' q} iq hq => by
            have z : LoopV H' (.str (S q)) (isLoop q) := .str q (by omega)
            rw [iq] at z
            exact z
          refine ⟨_, rfl, _, rfl, _, _, true, true, rfl, Lo il l12, Lo io o12, fun _ _ l' o' e1 e2 => ⟨fun hall HG sG => ?_, fun k hk hj HG sG => ?_⟩, fun e => nomatch e⟩
          · have el : l' = l := SX.S_inj (V.str.inj e1).symm
            have eo : o' = o := SX.S_inj (V.str.inj e2).symm
            subst el
            subst eo
            refine .inr (.inl ⟨rfl, _, rfl, Nat.zero_le _, fun pe npe => ?_⟩)
            have hpa2 : upd HG pe (.lst []) pa = some (.lst ((fl l' o' 1000).map fun (k : Nat) => V.int k)) := by
              rw [upd_ne (ne_of_none (sG _ _ hpa) npe)]
              exact sG _ _ hpa
            rw [fl_nil hall] at hpa2
            refine ⟨_, _, .lst (SqL.of hpa2) .nil, .lst (SqL.of upd_same) .nil, shaped_nil, shaped_nil, _, rfl, ?_⟩
            refine .inr (.inl ⟨rfl, rfl, _, rfl, iteNS rfl ?_⟩)
            exact ⟨_, _, _, _, rfl, sF.trans (sG.trans (same_new npe))⟩
          · have el : l' = l := SX.S_inj (V.str.inj e1).symm
            have eo : o' = o := SX.S_inj (V.str.inj e2).symm
            subst el
            subst eo
            have k1 := diff_small l12 o12 l0 o0 hk hj
            obtain ⟨rr, hrr⟩ := fl_head k1 hk hj
            refine .inr (.inr ⟨k, rfl, k_log k1, _, rfl, Nat.zero_le _, fun pe npe => ?_⟩)
            have hpa2 : upd HG pe (.lst []) pa = some (.lst ((fl l' o' 1000).map fun (k : Nat) => V.int k)) := by
              rw [upd_ne (ne_of_none (sG _ _ hpa) npe)]
              exact sG _ _ hpa
            refine ⟨_, _, .lst (SqL.of hpa2) (dp_nats _), .lst (SqL.of upd_same) .nil, shaped_nats _, shaped_nil, _, rfl, ?_⟩
            rw [eqv_nil, hrr]
            refine ⟨_, rfl, pa, _, 0, .int k, rfl, rfl, SqL.of hpa2, ?_, ?_⟩
            · rw [hrr]
              exact atI_nat (j := 0) rfl
            refine .inr (.inr ⟨k, rfl, k_log k1, rfl, _, rfl, iteNS rfl ?_⟩)
            exact ⟨_, _, _, _, rfl, sF.trans (sG.trans (same_new npe))⟩
        · rintro σ1 HD ⟨x12, x13, x14, x15, rfl, sD⟩
          exact ⟨x12, x13, x14, x15, rfl, sC.trans (sHO.trans sD), ⟨bC, sD _ _ bHO⟩⟩
      rintro σD HD ⟨x12, x13, x14, x15, rfl, sD, ⟨bD, hbD⟩⟩
      clear sC hbC hpdC
      -- sign
      refine ⟨fun σ' H' => ∃ c, azC c = false ∧ σ' = fr a z A l m [some (.ref pd), some (.bl (decide l.Nodup)), some (.int n), some (.str (S rt)), some (.str (S g)), some (.str (S g2)), x12, x13, x14, x15, some (.str (S [c])), y17, y18, y19, y20] ∧ Same HL H', ?_, ?_⟩
      · refine ⟨_, rfl, A, 45, bD, rfl, hbD, by decide, by decide, fun v b1 v0 v1 => ?_⟩
        obtain ⟨c, hc, nz⟩ := sign_at (i := v.toNat) (by omega)
        exact ⟨_, v, c, rfl, rfl, v0, by omega, (by rw [sign_len]; omega), hc, c, nz, rfl, kp sD sameBut_upd⟩
      clear sD hbD
      rintro σE HE ⟨c, nz, rfl, sE⟩
      -- for thing in ..
      have ea : V.str (Str.ofString "a") = .str (S [97]) := congrArg V.str (by decide +kernel)
      have e0 : (Str.ofString "") = S [] := by decide +kernel
      have eabc : (Str.ofString "abc") = S [97, 98, 99] := by decide +kernel
      have ez : (Str.ofString "z`") = S [122, 96] := by decide +kernel
      have eb : (Str.ofString "{a") = S [123, 97] := by decide +kernel
      refine ⟨_, rfl, _, rfl, _, _, rfl, rfl, ?_, [97], 13, ea, rfl, by decide, by decide, (by show 1 ≤ sizeLine; decide), fun q1 nq1 => ⟨(by show 1 ≤ sizeLine; decide), fun q2 nq2 => ⟨(by show 10 ≤ sizeLine; decide), fun pq npq => ?_⟩⟩⟩
      · rw [eabc, SX.S_len, SX.S_len]
        exact (show 3 + 1 ≤ sizeLine by decide)
      have sQ : Same HE (upd (upd HE q1 (.lst [.str (Str.ofString "a")])) q2 (.tup [.str (Str.ofString "a")])) := (same_new nq1).trans (same_new nq2)
      have hq1 : upd (upd HE q1 (.lst [.str (Str.ofString "a")])) q2 (.tup [.str (Str.ofString "a")]) q1 = some (.lst [.str (Str.ofString "a")]) := by rw [upd_ne (ne_of_none upd_same nq2), upd_same]
      have hq2 : upd (upd HE q1 (.lst [.str (Str.ofString "a")])) q2 (.tup [.str (Str.ofString "a")]) q2 = some (.tup [.str (Str.ofString "a")]) := upd_same
      generalize upd (upd HE q1 (.lst [.str (Str.ofString "a")])) q2 (.tup [.str (Str.ofString "a")]) = HQ at sQ hq1 hq2 npq
      rw [eabc, SX.S_cat, e0, ez, eb]
      obtain ⟨ths, eths⟩ : ∃ ths, ths = [V.non, .str (S []), .str (S [c]), .str (SX.S ([97, 98, 99] ++ [c])), .str (S (rep 13 [97])), .int 5, .ref q1, .ref q2, .str (S [122, 96]), .str (S [123, 97])] := ⟨_, rfl⟩
      have things : ∀ x ∈ ths, LoopV HQ x false := by
        intro x hx
        rw [eths] at hx
        simp only [List.mem_cons, List.not_mem_nil, or_false] at hx
        rcases hx with rfl | rfl | rfl | rfl | rfl | rfl | rfl | rfl | rfl | rfl
        · exact .oth .non
        · exact no_loop (by decide) (by decide)
        · exact no_loop (not_az (c := c) (by simp) nz) (by simp)
        · exact no_loop (not_az (c := c) (by simp) nz) (by simp)
        · exact no_loop (by decide) (by decide)
        · exact .oth (.int 5)
        · exact .oth (.lst hq1)
        · exact .oth (.tup hq2)
        · exact no_loop (by decide) (by decide)
        · exact no_loop (by decide) (by decide)
      rw [← eths]
      obtain ⟨HT, eHT⟩ : ∃ HT, HT = upd HQ pq (.lst ths) := ⟨_, rfl⟩
      have hpq : HT pq = some (.lst ths) := by rw [eHT, upd_same]
      have sHT : Same HQ HT := by rw [eHT]; exact same_new npq
      rw [← eHT]
      clear eHT eths
      refine ⟨pq, rfl, ⟨_, SqL.of hpq⟩, for_list (K := K) (a := pq) (xs := ths) (fun i σ' H' => ∃ x17 x18, σ' = fr a z A l m [some (.ref pd), some (.bl (decide l.Nodup)), some (.int n), some (.str (S rt)), some (.str (S g)), some (.str (S g2)), x12, x13, x14, x15, some (.str (S [c])), x17, x18, y19, y20] ∧ Same HT H') ⟨_, _, rfl, Same.refl _⟩ (fun i σ' H' _ h => ?_) ?_ ?_⟩
      · obtain ⟨_, _, _, q⟩ := h
        exact SqL.of (q _ _ hpq)
      · rintro i x σ1 HU hx ⟨x17, x18, rfl, sU⟩
        have nx := things x (List.mem_of_getElem? hx)
        refine ⟨fun σ' H' => ∃ pl, σ' = fr a z A l m [some (.ref pd), some (.bl (decide l.Nodup)), some (.int n), some (.str (S rt)), some (.str (S g)), some (.str (S g2)), x12, x13, x14, x15, some (.str (S [c])), some x, some (.ref pl), y19, y20] ∧ Same HT H' ∧ H' pl = some (.lst []), ?_, ?_⟩
        · refine ⟨5, rfl, by decide, by decide, fun D nD => ?_⟩
          refine lc_range (lo := 0) (n := (5 : Int).toNat) (fun i H' => H' D = some (.lst []) ∧ Same HT H') ⟨upd_same, sU.trans (same_new nD)⟩ ?_ ?_
          · rintro i HV hi ⟨eD, sV⟩
            refine ⟨rfl, _, rfl, _, rfl, _, rfl, _, x, l, rfl, nx.same (sHT.trans sV), il, fun HW sW => ⟨true, rfl, ?_⟩⟩
            exact ⟨sW _ _ eD, sV.trans sW⟩
          · rintro HV ⟨eD, sV⟩
            exact ⟨D, rfl, sV, eD⟩
        rintro σ2 HV ⟨pl, rfl, sV, hpl⟩
        refine ⟨_, rfl, x, false, rfl, nx.same (sHT.trans sV), fun HW sW => ⟨false, false, rfl, rfl, _, rfl, iteNS rfl ?_⟩⟩
        refine ⟨_, rfl, Nat.zero_le _, fun pe npe => ?_⟩
        have hpl2 : upd HW pe (.lst []) pl = some (.lst []) := by
          rw [upd_ne (ne_of_none (sW _ _ hpl) npe)]
          exact sW _ _ hpl
        refine ⟨_, _, .lst (SqL.of hpl2) .nil, .lst (SqL.of upd_same) .nil, shaped_nil, shaped_nil, _, rfl, ite2 (fun q => absurd q (by rw [eqv_nil]; exact Bool.false_ne_true)) (fun _ => ?_)⟩
        exact ⟨_, _, rfl, sV.trans (sW.trans (same_new npe))⟩
      · rintro σ1 HU ⟨x17, x18, rfl, sU⟩
        exact ⟨_, _, _, _, _, _, _, _, _, _, _, _, _, _, _, _, _, _, _, _, rfl, sE.trans (sQ.trans (sHT.trans sU))⟩
    · rintro σ H1 _
      exact q H1
end
end Lk
end
set_option maxRecDepth 100000
set_option maxHeartbeats 4000000
namespace Lk
open PySem PySem.Spec PyProof.Rows L2
theorem mkCal {P : Program} {w : World} {K : PySem.W.Frag} {mg : Str → Option Value} {base : Heap} {k : Nat} {x q : Str} {st : Stmt} {f : Addr} {fd : FuncData} {ps : List Str} {sp : Sp} (F : Fun K x q st f fd) (g : mg x = some (.ref f)) (b : Binds K fd ps []) (ok : FnOk P w K mg base CX0 k f fd ps sp) : C8.Cal P w K mg base k x sp [] :=
  ⟨f, fd, ps, [], ok, g, F.kp, b, .nil⟩
theorem mkCalX {P : Program} {w : World} {K : PySem.W.Frag} {mg : Str → Option Value} {base : Heap} {k : Nat} {x q : Str} {st : Stmt} {f : Addr} {fd : FuncData} {ps : List Str} {sp : Sp} (F : Fun K x q st f fd) (g : mg x = some (.ref f)) (b : Binds K fd ps []) (ok : FnOk P w K mg base (L2.CX P w) k f fd ps sp) : CalX P w K mg base k x sp :=
  ⟨f, fd, ps, ok, g, F.kp, b⟩
theorem kit_no {K : PySem.W.Frag} {C D : Addr} (self : PySem.W.subIn K (.ref C) (.ref C) = some true) (hc : PySem.W.isClsIn K D = true) (ht : PySem.W.typeIn K (.ref D) = some (.type "type")) (hs : PySem.W.subIn K (.ref C) (.ref D) = some false) : PySem.W.kitOne K (.ref C) (.ref D) = some false := by
  have ne : ¬ ((Value.ref C == Value.ref D) = true) := fun z => by
    have e : C = D := Value.ref.inj (eq_of_beq z)
    rw [← e, self] at hs
    cases hs
  have hc' : (PySem.W.clsIn K D).isSome = true := hc
  unfold PySem.W.kitOne
  rw [if_neg ne]
  show (if ((PySem.W.clsIn K D).isSome && PySem.W.typeIn K (.ref D) == some (.type "type")) = true then PySem.W.subIn K (.ref C) (.ref D) else none) = some false
  rw [hc', ht, if_pos (by rfl)]
  exact hs
theorem kit_ve {K : PySem.W.Frag} {C : Addr} (hs : PySem.W.subIn K (.ref C) (.type "ValueError") = some true) : PySem.W.kitOne K (.ref C) (.type "ValueError") = some true := by
  unfold PySem.W.kitOne
  rw [if_neg (show ¬ ((Value.ref C == Value.type "ValueError") = true) from fun z => nomatch z)]
  show (if PySem.W.kitMeta "ValueError" = true then PySem.W.subIn K (.ref C) (.type "ValueError") else none) = some true
  rw [if_pos (by decide +kernel)]
  exact hs
theorem all_mk {l : PySem.W.OpenLaw} {w : World} {K : PySem.W.Frag} {h : Heap} {mg : Str → Option Value} {fa CL LE : Addr} {tp : Tok} (X : K.In h) (G : h.Ns mainGlobals mg) (hfa : mg "law" = some (.ref fa))
    {f1 f2 f3 f4 f5 f6 f7 f8 f9 f10 f11 f12 f13 f14 : Addr} {D1 D2 D3 D4 D5 D6 D7 D8 D9 D10 D11 D12 D13 D14 D15 : Addr} {od1 an1 od2 an2 od3 an3 od4 an4 od5 an5 od6 an6 od7 an7 od8 an8 od9 an9 od10 an10 od11 an11 od12 an12 od13 an13 od14 an14 : Option Addr} {sl1 sl2 sl3 sl4 sl5 sl6 sl7 sl8 sl9 sl10 sl11 sl12 sl13 sl14 : Array (Option Value)} {oc1 kV1 dc1 pm1 cd1 ct1 oc2 kV2 dc2 pm2 cd2 ct2 oc3 kV3 dc3 pm3 cd3 ct3 oc4 kV4 dc4 pm4 cd4 ct4 oc5 kV5 dc5 pm5 cd5 ct5 oc6 kV6 dc6 pm6 cd6 ct6 oc7 kV7 dc7 pm7 cd7 ct7 oc8 kV8 dc8 pm8 cd8 ct8 oc9 kV9 dc9 pm9 cd9 ct9 oc10 kV10 dc10 pm10 cd10 ct10 oc11 kV11 dc11 pm11 cd11 ct11 oc12 kV12 dc12 pm12 cd12 ct12 oc13 kV13 dc13 pm13 cd13 ct13 oc14 kV14 dc14 pm14 cd14 ct14 : Value}
    (a1 : PySem.W.nsIn K mainGlobals "is_letters" = some (some (.ref f1))) (l1 : K.lookup f1 = some ⟨oc1, od1, .func (PySem.W.fnOf "is_letters" "is_letters" (defArgs s_is_letters) (defBody s_is_letters) (defScope s_is_letters) .none kV1 dc1 pm1 an1 cd1 ct1), sl1⟩) (c1 : PySem.W.codeIn K cd1 "is_letters" = true) (k1 : PySem.W.keepIn K (.ref f1) = true)
    (a2 : PySem.W.nsIn K mainGlobals "is_loop" = some (some (.ref f2))) (l2 : K.lookup f2 = some ⟨oc2, od2, .func (PySem.W.fnOf "is_loop" "is_loop" (defArgs s_is_loop) (defBody s_is_loop) (defScope s_is_loop) .none kV2 dc2 pm2 an2 cd2 ct2), sl2⟩) (c2 : PySem.W.codeIn K cd2 "is_loop" = true) (k2 : PySem.W.keepIn K (.ref f2) = true)
    (a3 : PySem.W.nsIn K mainGlobals "refuse_no_loop" = some (some (.ref f3))) (l3 : K.lookup f3 = some ⟨oc3, od3, .func (PySem.W.fnOf "refuse_no_loop" "refuse_no_loop" (defArgs s_refuse_no_loop) (defBody s_refuse_no_loop) (defScope s_refuse_no_loop) .none kV3 dc3 pm3 an3 cd3 ct3), sl3⟩) (c3 : PySem.W.codeIn K cd3 "refuse_no_loop" = true) (k3 : PySem.W.keepIn K (.ref f3) = true)
    (a4 : PySem.W.nsIn K mainGlobals "is_plain" = some (some (.ref f4))) (l4 : K.lookup f4 = some ⟨oc4, od4, .func (PySem.W.fnOf "is_plain" "is_plain" (defArgs s_is_plain) (defBody s_is_plain) (defScope s_is_plain) .none kV4 dc4 pm4 an4 cd4 ct4), sl4⟩) (c4 : PySem.W.codeIn K cd4 "is_plain" = true) (k4 : PySem.W.keepIn K (.ref f4) = true)
    (a5 : PySem.W.nsIn K mainGlobals "root" = some (some (.ref f5))) (l5 : K.lookup f5 = some ⟨oc5, od5, .func (PySem.W.fnOf "root" "root" (defArgs s_root) (defBody s_root) (defScope s_root) .none kV5 dc5 pm5 an5 cd5 ct5), sl5⟩) (c5 : PySem.W.codeIn K cd5 "root" = true) (k5 : PySem.W.keepIn K (.ref f5) = true)
    (a6 : PySem.W.nsIn K mainGlobals "turned" = some (some (.ref f6))) (l6 : K.lookup f6 = some ⟨oc6, od6, .func (PySem.W.fnOf "turned" "turned" (defArgs s_turned) (defBody s_turned) (defScope s_turned) .none kV6 dc6 pm6 an6 cd6 ct6), sl6⟩) (c6 : PySem.W.codeIn K cd6 "turned" = true) (k6 : PySem.W.keepIn K (.ref f6) = true)
    (a7 : PySem.W.nsIn K mainGlobals "alike_for" = some (some (.ref f7))) (l7 : K.lookup f7 = some ⟨oc7, od7, .func (PySem.W.fnOf "alike_for" "alike_for" (defArgs s_alike_for) (defBody s_alike_for) (defScope s_alike_for) .none kV7 dc7 pm7 an7 cd7 ct7), sl7⟩) (c7 : PySem.W.codeIn K cd7 "alike_for" = true) (k7 : PySem.W.keepIn K (.ref f7) = true)
    (a8 : PySem.W.nsIn K mainGlobals "_law_bag" = some (some (.ref f8))) (l8 : K.lookup f8 = some ⟨oc8, od8, .func (PySem.W.fnOf "_law_bag" "_law_bag" (defArgs s_law_bag) (defBody s_law_bag) (defScope s_law_bag) .none kV8 dc8 pm8 an8 cd8 ct8), sl8⟩) (c8 : PySem.W.codeIn K cd8 "_law_bag" = true) (k8 : PySem.W.keepIn K (.ref f8) = true)
    (a9 : PySem.W.nsIn K mainGlobals "_law_pick" = some (some (.ref f9))) (l9 : K.lookup f9 = some ⟨oc9, od9, .func (PySem.W.fnOf "_law_pick" "_law_pick" (defArgs s_law_pick) (defBody s_law_pick) (defScope s_law_pick) .none kV9 dc9 pm9 an9 cd9 ct9), sl9⟩) (c9 : PySem.W.codeIn K cd9 "_law_pick" = true) (k9 : PySem.W.keepIn K (.ref f9) = true)
    (a10 : PySem.W.nsIn K mainGlobals "_law_some" = some (some (.ref f10))) (l10 : K.lookup f10 = some ⟨oc10, od10, .func (PySem.W.fnOf "_law_some" "_law_some" (defArgs s_law_some) (defBody s_law_some) (defScope s_law_some) .none kV10 dc10 pm10 an10 cd10 ct10), sl10⟩) (c10 : PySem.W.codeIn K cd10 "_law_some" = true) (k10 : PySem.W.keepIn K (.ref f10) = true)
    (a11 : PySem.W.nsIn K mainGlobals "_law_class" = some (some (.ref f11))) (l11 : K.lookup f11 = some ⟨oc11, od11, .func (PySem.W.fnOf "_law_class" "_law_class" (defArgs s_law_class) (defBody s_law_class) (defScope s_law_class) .none kV11 dc11 pm11 an11 cd11 ct11), sl11⟩) (c11 : PySem.W.codeIn K cd11 "_law_class" = true) (k11 : PySem.W.keepIn K (.ref f11) = true)
    (a12 : PySem.W.nsIn K mainGlobals "_law_none" = some (some (.ref f12))) (l12 : K.lookup f12 = some ⟨oc12, od12, .func (PySem.W.fnOf "_law_none" "_law_none" (defArgs s_law_none) (defBody s_law_none) (defScope s_law_none) .none kV12 dc12 pm12 an12 cd12 ct12), sl12⟩) (c12 : PySem.W.codeIn K cd12 "_law_none" = true) (k12 : PySem.W.keepIn K (.ref f12) = true)
    (a13 : PySem.W.nsIn K mainGlobals "_law_loop" = some (some (.ref f13))) (l13 : K.lookup f13 = some ⟨oc13, od13, .func (PySem.W.fnOf "_law_loop" "_law_loop" (defArgs s_law_loop) (defBody s_law_loop) (defScope s_law_loop) .none kV13 dc13 pm13 an13 cd13 ct13), sl13⟩) (c13 : PySem.W.codeIn K cd13 "_law_loop" = true) (k13 : PySem.W.keepIn K (.ref f13) = true)
    (a14 : PySem.W.nsIn K mainGlobals "law" = some (some (.ref f14))) (l14 : K.lookup f14 = some ⟨oc14, od14, .func (PySem.W.fnOf "law" "law" (defArgs s_law) (defBody s_law) (defScope s_law) .none kV14 dc14 pm14 an14 cd14 ct14), sl14⟩) (c14 : PySem.W.codeIn K cd14 "law" = true) (k14 : PySem.W.keepIn K (.ref f14) = true)
    (z1 : PySem.W.nsIn K mainGlobals "isinstance" = some none)
    (z2 : PySem.W.nsIn K mainGlobals "str" = some none)
    (z3 : PySem.W.nsIn K mainGlobals "all" = some none)
    (z4 : PySem.W.nsIn K mainGlobals "len" = some none)
    (z5 : PySem.W.nsIn K mainGlobals "set" = some none)
    (z6 : PySem.W.nsIn K mainGlobals "max" = some none)
    (z7 : PySem.W.nsIn K mainGlobals "range" = some none)
    (z8 : PySem.W.nsIn K mainGlobals "sorted" = some none)
    (z9 : PySem.W.nsIn K mainGlobals "repr" = some none)
    (z10 : PySem.W.nsIn K mainGlobals "min" = some none)
    (z11 : PySem.W.nsIn K mainGlobals "ValueError" = some none)
    (mp : PySem.W.nsIn K mainGlobals "MOST_PLACES" = some (some (.int 12 tp)))
    (gC : PySem.W.nsIn K mainGlobals "NoLoop" = some (some (.ref CL))) (kC : PySem.W.keepIn K (.ref CL) = true) (xC : PySem.W.excIn K CL [.type "ValueError", .type "Exception", .type "BaseException", .type "object"] "ValueError.__new__" = true) (bC : PySem.W.subIn K (.ref CL) (.type "BaseException") = some true) (tC : PySem.W.typeIn K (.ref CL) = some (.type "type"))
    (gE : PySem.W.nsIn K mainGlobals "LearnError" = some (some (.ref LE))) (bE : PySem.W.subIn K (.ref LE) (.type "BaseException") = some true) (dE : PySem.W.hasDictIn K LE = true) (tE : PySem.W.typeIn K (.ref LE) = some (.type "type")) (sE : PySem.W.subIn K (.ref CL) (.ref LE) = some true)
    (xg : PySem.W.findIn K (.ref CL) "__getattribute__" = some (some (.builtin "BaseException.__getattribute__"))) (xk : PySem.W.findIn K (.ref CL) "__getattr__" = some none) (xd : PySem.W.hasDictIn K CL = true) (xa : PySem.W.findIn K (.ref CL) "__class__" = some (some (.builtin "object.__class__")))
    (xn : PySem.W.specialIn K (.builtin "object.__class__") "__get__" = some (some (.builtin "getset_descriptor.__get__"))) (xt : PySem.W.takesIn K (.builtin "object.__class__") = some true) (xm : PySem.W.mroIn K CL (.type "object") = some true)
    (ve : PySem.W.subIn K (.ref CL) (.type "ValueError") = some true) (sS : PySem.W.subIn K (.ref CL) (.ref CL) = some true)
    (e1 : PySem.W.nsIn K mainGlobals "NoKnown" = some (some (.ref D1))) (p1 : PySem.W.isClsIn K D1 = true) (q1 : PySem.W.typeIn K (.ref D1) = some (.type "type")) (r1 : PySem.W.subIn K (.ref CL) (.ref D1) = some false)
    (e2 : PySem.W.nsIn K mainGlobals "NoText" = some (some (.ref D2))) (p2 : PySem.W.isClsIn K D2 = true) (q2 : PySem.W.typeIn K (.ref D2) = some (.type "type")) (r2 : PySem.W.subIn K (.ref CL) (.ref D2) = some false)
    (e3 : PySem.W.nsIn K mainGlobals "NoPairs" = some (some (.ref D3))) (p3 : PySem.W.isClsIn K D3 = true) (q3 : PySem.W.typeIn K (.ref D3) = some (.type "type")) (r3 : PySem.W.subIn K (.ref CL) (.ref D3) = some false)
    (e4 : PySem.W.nsIn K mainGlobals "NoCoder" = some (some (.ref D4))) (p4 : PySem.W.isClsIn K D4 = true) (q4 : PySem.W.typeIn K (.ref D4) = some (.type "type")) (r4 : PySem.W.subIn K (.ref CL) (.ref D4) = some false)
    (e5 : PySem.W.nsIn K mainGlobals "NoCount" = some (some (.ref D5))) (p5 : PySem.W.isClsIn K D5 = true) (q5 : PySem.W.typeIn K (.ref D5) = some (.type "type")) (r5 : PySem.W.subIn K (.ref CL) (.ref D5) = some false)
    (e6 : PySem.W.nsIn K mainGlobals "NotRound" = some (some (.ref D6))) (p6 : PySem.W.isClsIn K D6 = true) (q6 : PySem.W.typeIn K (.ref D6) = some (.type "type")) (r6 : PySem.W.subIn K (.ref CL) (.ref D6) = some false)
    (e7 : PySem.W.nsIn K mainGlobals "NoCounts" = some (some (.ref D7))) (p7 : PySem.W.isClsIn K D7 = true) (q7 : PySem.W.typeIn K (.ref D7) = some (.type "type")) (r7 : PySem.W.subIn K (.ref CL) (.ref D7) = some false)
    (e8 : PySem.W.nsIn K mainGlobals "NoLog" = some (some (.ref D8))) (p8 : PySem.W.isClsIn K D8 = true) (q8 : PySem.W.typeIn K (.ref D8) = some (.type "type")) (r8 : PySem.W.subIn K (.ref CL) (.ref D8) = some false)
    (e9 : PySem.W.nsIn K mainGlobals "NoPlace" = some (some (.ref D9))) (p9 : PySem.W.isClsIn K D9 = true) (q9 : PySem.W.typeIn K (.ref D9) = some (.type "type")) (r9 : PySem.W.subIn K (.ref CL) (.ref D9) = some false)
    (e10 : PySem.W.nsIn K mainGlobals "NoRow" = some (some (.ref D10))) (p10 : PySem.W.isClsIn K D10 = true) (q10 : PySem.W.typeIn K (.ref D10) = some (.type "type")) (r10 : PySem.W.subIn K (.ref CL) (.ref D10) = some false)
    (e11 : PySem.W.nsIn K mainGlobals "NoSign" = some (some (.ref D11))) (p11 : PySem.W.isClsIn K D11 = true) (q11 : PySem.W.typeIn K (.ref D11) = some (.type "type")) (r11 : PySem.W.subIn K (.ref CL) (.ref D11) = some false)
    (e12 : PySem.W.nsIn K mainGlobals "NoTree" = some (some (.ref D12))) (p12 : PySem.W.isClsIn K D12 = true) (q12 : PySem.W.typeIn K (.ref D12) = some (.type "type")) (r12 : PySem.W.subIn K (.ref CL) (.ref D12) = some false)
    (e13 : PySem.W.nsIn K mainGlobals "NoWord" = some (some (.ref D13))) (p13 : PySem.W.isClsIn K D13 = true) (q13 : PySem.W.typeIn K (.ref D13) = some (.type "type")) (r13 : PySem.W.subIn K (.ref CL) (.ref D13) = some false)
    (e14 : PySem.W.nsIn K mainGlobals "NotLike" = some (some (.ref D14))) (p14 : PySem.W.isClsIn K D14 = true) (q14 : PySem.W.typeIn K (.ref D14) = some (.type "type")) (r14 : PySem.W.subIn K (.ref CL) (.ref D14) = some false)
    (e15 : PySem.W.nsIn K mainGlobals "Nothing" = some (some (.ref D15))) (p15 : PySem.W.isClsIn K D15 = true) (q15 : PySem.W.typeIn K (.ref D15) = some (.type "type")) (r15 : PySem.W.subIn K (.ref CL) (.ref D15) = some false)
    :
    ∃ fd : FuncData, (∀ (s : Shared) (v : Value), BindsTo s fd ⟨[v], []⟩ [("script", v)]) ∧ ∀ base : Heap, K.In base → base.Ns mainGlobals mg → FnOk l.prog w K mg base CX0 8 fa fd ["script"] (spLaw K) := by
  have e := hfa.symm.trans (PySem.W.mg_of X G a14)
  cases e
  have F1 := fun_mk (st := s_is_letters) l1 c1 k1
  have F2 := fun_mk (st := s_is_loop) l2 c2 k2
  have F3 := fun_mk (st := s_refuse_no_loop) l3 c3 k3
  have F4 := fun_mk (st := s_is_plain) l4 c4 k4
  have F5 := fun_mk (st := s_root) l5 c5 k5
  have F6 := fun_mk (st := s_turned) l6 c6 k6
  have F7 := fun_mk (st := s_alike_for) l7 c7 k7
  have F8 := fun_mk (st := s_law_bag) l8 c8 k8
  have F9 := fun_mk (st := s_law_pick) l9 c9 k9
  have F10 := fun_mk (st := s_law_some) l10 c10 k10
  have F11 := fun_mk (st := s_law_class) l11 c11 k11
  have F12 := fun_mk (st := s_law_none) l12 c12 k12
  have F13 := fun_mk (st := s_law_loop) l13 c13 k13
  have F14 := fun_mk (st := s_law) l14 c14 k14
  have b1 := F1.binds (ps := ["thing"]) fun _ _ _ _ _ _ us hl => match us, hl with | [_], _ => rfl
  have b2 := F2.binds (ps := ["thing"]) fun _ _ _ _ _ _ us hl => match us, hl with | [_], _ => rfl
  have b3 := F3.binds (ps := ["loop"]) fun _ _ _ _ _ _ us hl => match us, hl with | [_], _ => rfl
  have b4 := F4.binds (ps := ["loop"]) fun _ _ _ _ _ _ us hl => match us, hl with | [_], _ => rfl
  have b5 := F5.binds (ps := ["loop"]) fun _ _ _ _ _ _ us hl => match us, hl with | [_], _ => rfl
  have b6 := F6.binds (ps := ["loop", "by"]) fun _ _ _ _ _ _ us hl => match us, hl with | [_, _], _ => rfl
  have b7 := F7.binds (ps := ["one", "other"]) fun _ _ _ _ _ _ us hl => match us, hl with | [_, _], _ => rfl
  have b8 := F8.binds (ps := ["cell"]) fun _ _ _ _ _ _ us hl => match us, hl with | [_], _ => rfl
  have b9 := F9.binds (ps := ["bag", "many"]) fun _ _ _ _ _ _ us hl => match us, hl with | [_, _], _ => rfl
  have b10 := F10.binds (ps := ["bag", "many"]) fun _ _ _ _ _ _ us hl => match us, hl with | [_, _], _ => rfl
  have b11 := F11.binds (ps := ["caught"]) fun _ _ _ _ _ _ us hl => match us, hl with | [_], _ => rfl
  have b12 := F12.binds (ps := ["way", "thing", "loop"]) fun _ _ _ _ _ _ us hl => match us, hl with | [_, _, _], _ => rfl
  have b13 := F13.binds (ps := ["bag"]) fun _ _ _ _ _ _ us hl => match us, hl with | [_], _ => rfl
  have g1 := PySem.W.mg_of X G a1
  have g2 := PySem.W.mg_of X G a2
  have g3 := PySem.W.mg_of X G a3
  have g4 := PySem.W.mg_of X G a4
  have g5 := PySem.W.mg_of X G a5
  have g6 := PySem.W.mg_of X G a6
  have g7 := PySem.W.mg_of X G a7
  have g8 := PySem.W.mg_of X G a8
  have g9 := PySem.W.mg_of X G a9
  have g10 := PySem.W.mg_of X G a10
  have g11 := PySem.W.mg_of X G a11
  have g12 := PySem.W.mg_of X G a12
  have g13 := PySem.W.mg_of X G a13
  have g14 := PySem.W.mg_of X G a14
  have w1 := PySem.W.mg_none_of X G z1
  have w2 := PySem.W.mg_none_of X G z2
  have w3 := PySem.W.mg_none_of X G z3
  have w4 := PySem.W.mg_none_of X G z4
  have w5 := PySem.W.mg_none_of X G z5
  have w6 := PySem.W.mg_none_of X G z6
  have w7 := PySem.W.mg_none_of X G z7
  have w8 := PySem.W.mg_none_of X G z8
  have w9 := PySem.W.mg_none_of X G z9
  have w10 := PySem.W.mg_none_of X G z10
  have w11 := PySem.W.mg_none_of X G z11
  have hmp := PySem.W.mg_of X G mp
  have hgE := PySem.W.mg_of X G gE
  have te : PySem.W.exmOne K (.ref CL) (.ref LE) = some true := PySem.W.exm_ref bE dE tE sE
  have TE : ErrC K mg "NoLoop" CL := ⟨PySem.W.mg_of X G gC, kC, xC, bC, tC⟩
  have TX : Errs K mg CL := ⟨⟨xg, xk, bC, xd, xa, xn, xt, xm⟩, PySem.W.mg_of X G gC, w11, kit_ve ve, w1, ⟨_, PySem.W.mg_of X G e1, kit_no sS p1 q1 r1⟩, ⟨_, PySem.W.mg_of X G e2, kit_no sS p2 q2 r2⟩, ⟨_, PySem.W.mg_of X G e3, kit_no sS p3 q3 r3⟩, ⟨_, PySem.W.mg_of X G e4, kit_no sS p4 q4 r4⟩, ⟨_, PySem.W.mg_of X G e5, kit_no sS p5 q5 r5⟩, ⟨_, PySem.W.mg_of X G e6, kit_no sS p6 q6 r6⟩, ⟨_, PySem.W.mg_of X G e7, kit_no sS p7 q7 r7⟩, ⟨_, PySem.W.mg_of X G e8, kit_no sS p8 q8 r8⟩, ⟨_, PySem.W.mg_of X G e9, kit_no sS p9 q9 r9⟩, ⟨_, PySem.W.mg_of X G e10, kit_no sS p10 q10 r10⟩, ⟨_, PySem.W.mg_of X G e11, kit_no sS p11 q11 r11⟩, ⟨_, PySem.W.mg_of X G e12, kit_no sS p12 q12 r12⟩, ⟨_, PySem.W.mg_of X G e13, kit_no sS p13 q13 r13⟩, ⟨_, PySem.W.mg_of X G e14, kit_no sS p14 q14 r14⟩, ⟨_, PySem.W.mg_of X G e15, kit_no sS p15 q15 r15⟩⟩
  refine ⟨PySem.W.fnOf "law" "law" (defArgs s_law) (defBody s_law) (defScope s_law) .none kV14 dc14 pm14 an14 cd14 ct14, fun s v => .of_eq rfl, fun base _ _ => ?_⟩
  have E1 := mkCal (P := l.prog) (w := w) (base := base) F1 g1 b1 (ok_letters F1 w1 w2 w3)
  have E2 := mkCal F2 g2 b2 (ok_is_loop F2 E1 w4 hmp)
  have E3 := mkCalX F3 g3 b3 (ok_refuse F3 E2 TE hmp)
  have E4 := mkCalX F4 g4 b4 (ok_plain F4 E3 w4 w5)
  have E6 := mkCalX F6 g6 b6 (ok_turned F6 E3 w4)
  have E5 := mkCalX F5 g5 b5 (ok_root F5 E3 E6)
  have E7 := mkCalX F7 g7 b7 (ok_alike F7 E5 w4)
  have E8 : C8.Cal l.prog w K mg base 1 "_law_bag" spBag [] := mkCal F8 g8 b8 (ok_bag F8 w6)
  have E9 : C8.Cal l.prog w K mg base 1 "_law_pick" spPick [] := mkCal F9 g9 b9 (ok_pick F9)
  have E10 := mkCal F10 g10 b10 (ok_some F10 E9 w7)
  have E11 : C8.Cal l.prog w K mg base 1 "_law_class" (spClass CL) [] := mkCal F11 g11 b11 (ok_class F11 TX)
  have E12 := mkCal F12 g12 b12 (ok_none F12 E4 E5 E6 E7 E11 hgE te)
  have E13 := mkCal F13 g13 b13 (ok_loop F13 E9 E10 w4)
  exact ok_law F14 ⟨E8, E9, E13, E12, E2, E4, E5, E6, E7, w4, w7, w8, w5, w9, w10⟩
end Lk
open PySem PySem.W PyProof.Rows
set_option maxRecDepth 100000 in
set_option maxHeartbeats 0 in
theorem PySem.Challenge.cw_looplearn_k04_loops_holds : PySem.Challenge.rw_looplearn_k04_loops.Holds := by
  w_on; o_law; k_head; (case hw => w_witness2)
  k_fill
  refine L2.walk_of (l := PySem.Challenge.rw_looplearn_k04_loops) (n := 63) (k := 8) (x := "script") (CX := fun _ => L2.CX0) (sp := fun w => Lk.spLaw _) rfl (by decide) rfl ⟨rfl, by decide, by decide⟩ (fun w h Y => PySem.W.kIn_of Y) ?F (fun _ _ a ns hl _ hS => ⟨a, ns, rfl, hS, hl, fun _ => rfl⟩) (fun _ _ _ _ _ h => h)
  case F =>
    intro w mg fa h KX G hmg
    refine' Lk.all_mk KX G hmg ?a1 ?l1 ?c1 ?k1 ?a2 ?l2 ?c2 ?k2 ?a3 ?l3 ?c3 ?k3 ?a4 ?l4 ?c4 ?k4 ?a5 ?l5 ?c5 ?k5 ?a6 ?l6 ?c6 ?k6 ?a7 ?l7 ?c7 ?k7 ?a8 ?l8 ?c8 ?k8 ?a9 ?l9 ?c9 ?k9 ?a10 ?l10 ?c10 ?k10 ?a11 ?l11 ?c11 ?k11 ?a12 ?l12 ?c12 ?k12 ?a13 ?l13 ?c13 ?k13 ?a14 ?l14 ?c14 ?k14 ?z1 ?z2 ?z3 ?z4 ?z5 ?z6 ?z7 ?z8 ?z9 ?z10 ?z11 ?mp ?gC ?kC ?xC ?bC ?tC ?gE ?bE ?dE ?tE ?sE ?xg ?xk ?xd ?xa ?xn ?xt ?xm ?ve ?sS ?e1 ?p1 ?q1 ?r1 ?e2 ?p2 ?q2 ?r2 ?e3 ?p3 ?q3 ?r3 ?e4 ?p4 ?q4 ?r4 ?e5 ?p5 ?q5 ?r5 ?e6 ?p6 ?q6 ?r6 ?e7 ?p7 ?q7 ?r7 ?e8 ?p8 ?q8 ?r8 ?e9 ?p9 ?q9 ?r9 ?e10 ?p10 ?q10 ?r10 ?e11 ?p11 ?q11 ?r11 ?e12 ?p12 ?q12 ?r12 ?e13 ?p13 ?q13 ?r13 ?e14 ?p14 ?q14 ?r14 ?e15 ?p15 ?q15 ?r15
    (case a1 => k_is)
    (case l1 => k_is)
    (case c1 => k_is)
    (case k1 => k_is)
    (case a2 => k_is)
    (case l2 => k_is)
    (case c2 => k_is)
    (case k2 => k_is)
    (case a3 => k_is)
    (case l3 => k_is)
    (case c3 => k_is)
    (case k3 => k_is)
    (case a4 => k_is)
    (case l4 => k_is)
    (case c4 => k_is)
    (case k4 => k_is)
    (case a5 => k_is)
    (case l5 => k_is)
    (case c5 => k_is)
    (case k5 => k_is)
    (case a6 => k_is)
    (case l6 => k_is)
    (case c6 => k_is)
    (case k6 => k_is)
    (case a7 => k_is)
    (case l7 => k_is)
    (case c7 => k_is)
    (case k7 => k_is)
    (case a8 => k_is)
    (case l8 => k_is)
    (case c8 => k_is)
    (case k8 => k_is)
    (case a9 => k_is)
    (case l9 => k_is)
    (case c9 => k_is)
    (case k9 => k_is)
    (case a10 => k_is)
    (case l10 => k_is)
    (case c10 => k_is)
    (case k10 => k_is)
    (case a11 => k_is)
    (case l11 => k_is)
    (case c11 => k_is)
    (case k11 => k_is)
    (case a12 => k_is)
    (case l12 => k_is)
    (case c12 => k_is)
    (case k12 => k_is)
    (case a13 => k_is)
    (case l13 => k_is)
    (case c13 => k_is)
    (case k13 => k_is)
    (case a14 => k_is)
    (case l14 => k_is)
    (case c14 => k_is)
    (case k14 => k_is)
    (case z1 => k_is)
    (case z2 => k_is)
    (case z3 => k_is)
    (case z4 => k_is)
    (case z5 => k_is)
    (case z6 => k_is)
    (case z7 => k_is)
    (case z8 => k_is)
    (case z9 => k_is)
    (case z10 => k_is)
    (case z11 => k_is)
    (case mp => k_is)
    (case gC => k_is)
    (case kC => k_is)
    (case xC => k_exc)
    (case bC => k_is)
    (case tC => k_is)
    (case gE => k_is)
    (case bE => k_is)
    (case dE => k_is)
    (case tE => k_is)
    (case sE => k_is)
    (case xg => k_is)
    (case xk => k_is)
    (case xd => k_is)
    (case xa => k_is)
    (case xn => k_is)
    (case xt => k_is)
    (case xm => k_is)
    (case ve => k_is)
    (case sS => first | rfl | k_is)
    (case e1 => k_is)
    (case p1 => k_is)
    (case q1 => k_is)
    (case r1 => k_is)
    (case e2 => k_is)
    (case p2 => k_is)
    (case q2 => k_is)
    (case r2 => k_is)
    (case e3 => k_is)
    (case p3 => k_is)
    (case q3 => k_is)
    (case r3 => k_is)
    (case e4 => k_is)
    (case p4 => k_is)
    (case q4 => k_is)
    (case r4 => k_is)
    (case e5 => k_is)
    (case p5 => k_is)
    (case q5 => k_is)
    (case r5 => k_is)
    (case e6 => k_is)
    (case p6 => k_is)
    (case q6 => k_is)
    (case r6 => k_is)
    (case e7 => k_is)
    (case p7 => k_is)
    (case q7 => k_is)
    (case r7 => k_is)
    (case e8 => k_is)
    (case p8 => k_is)
    (case q8 => k_is)
    (case r8 => k_is)
    (case e9 => k_is)
    (case p9 => k_is)
    (case q9 => k_is)
    (case r9 => k_is)
    (case e10 => k_is)
    (case p10 => k_is)
    (case q10 => k_is)
    (case r10 => k_is)
    (case e11 => k_is)
    (case p11 => k_is)
    (case q11 => k_is)
    (case r11 => k_is)
    (case e12 => k_is)
    (case p12 => k_is)
    (case q12 => k_is)
    (case r12 => k_is)
    (case e13 => k_is)
    (case p13 => k_is)
    (case q13 => k_is)
    (case r13 => k_is)
    (case e14 => k_is)
    (case p14 => k_is)
    (case q14 => k_is)
    (case r14 => k_is)
    (case e15 => k_is)
    (case p15 => k_is)
    (case q15 => k_is)
    (case r15 => k_is)
