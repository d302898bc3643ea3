import PyProof.Rows.All
import Wide.All
import OpenK.AllK
import Wide.FinOn
import HandS.ForMost
import HandS.RaiseMore
import HandS.Codes
import HandS.IsInst
import HandS.Walk
import HandS.Exc
import HandS.ExcIs
import HandS.ExcValue
import HandS.TryOnly
import HandS.WordsExc
import HandS.FStr
import HandS.Zip
import HandS.TupAny
import HandS.Conv
import PyProof.Rows.SortShellAny
import HandS.Star
import HandS.More
import HandS.Style
import PySem.Challenge.RW_looplearn_k83_whole_texts_one_behind_the
set_option Elab.async false
set_option linter.all false
section
set_option maxRecDepth 100000
set_option maxHeartbeats 2000000
/-! Rules of our own over the hand layer, and the law's bag. -/
namespace Lk
open PySem PySem.Spec PyProof.Rows L2
section
variable {X : Cx}
/-- repr of None, a truth -/
theorem call_repr_bool : CallR X (.builtin "repr") (fun xs H Q => ∃ b, xs = [.bl b] ∧ Q (.str (if b then "True" else "False")) H) := by
  intro pins s σ H xs us Q I r h
  obtain ⟨b, rfl, q⟩ := h
  obtain ⟨u, rfl, rfl⟩ := vals1 r
  exact PySem.P.repr_of_bool ⟨.str _, H, I.tok _, ⟨_, rfl⟩, q⟩
theorem call_repr_none : CallR X (.builtin "repr") (fun xs H Q => xs = [.non] ∧ Q (.str "None") H) := by
  intro pins s σ H xs us Q I r h
  obtain ⟨rfl, q⟩ := h
  obtain ⟨u, rfl, rfl⟩ := vals1 r
  exact PySem.P.repr_of_none ⟨.str _, H, I.tok _, ⟨_, rfl⟩, q⟩
end
/-! ### the bag -/
def bagO (b : Int × Int × Int) : HO := .lst [.int b.1, .int b.2.1, .int b.2.2]
section
variable {P : Program} {w : World} {K : PySem.W.Frag} {mg : Str → Option Value} {base : Heap}
def spBag : Sp := fun vs H Q _ => ∃ c : Int, vs = [.int c] ∧ ∀ p b, H p = none → Q (.ref p) (upd H p (bagO b))
def spPick : Sp := fun vs H Q _ => ∃ (a : Addr) (m : Int) (b : Int × Int × Int), vs = [.ref a, .int m] ∧ H a = some (bagO b) ∧ 0 < m ∧ m < 1073741824 ∧ ∀ v b', 0 ≤ v → v < m → Q (.int v) (upd H a (bagO b'))
end
end Lk
end
section
set_option maxRecDepth 100000
set_option maxHeartbeats 2000000
namespace Lk
open PySem PySem.Spec PyProof.Rows L2
def top (i : Nat) : Stmt := PySem.Challenge.pw_looplearn_k83_whole_texts_one_behind_the.main.body.getD i (.Pass ⟨0, 0, 0, 0⟩)
abbrev s_is_letters : Stmt := top 6
abbrev s_is_whole : Stmt := top 7
abbrev s_is_within : Stmt := top 8
abbrev s_is_word : Stmt := top 11
abbrev s_is_known : Stmt := top 12
abbrev s_refuse_unknown : Stmt := top 13
abbrev s_refuse_no_text : Stmt := top 14
abbrev s_numbered : Stmt := top 15
abbrev s_longest_end : Stmt := top 16
abbrev s_read_text : Stmt := top 17
abbrev s_new_words : Stmt := top 18
abbrev s_cut : Stmt := top 19
abbrev s_known_behind : Stmt := top 20
abbrev s_pairs : Stmt := top 21
abbrev s_is_pair : Stmt := top 22
abbrev s_read_pairs : Stmt := top 23
abbrev s_law_bag : Stmt := top 25
abbrev s_law_pick : Stmt := top 26
abbrev s_law_some : Stmt := top 27
abbrev s_law_known : Stmt := top 28
abbrev s_law_text : Stmt := top 29
abbrev s_law_parts_right : Stmt := top 30
abbrev s_law_together_right : Stmt := top 31
abbrev s_law : Stmt := top 32
section
variable {P : Program} {w : World} {K : PySem.W.Frag} {mg : Str → Option Value} {base : Heap}
theorem sc_bag : FnScope ["cell"] ["cell"] (defScope s_law_bag) := ⟨rfl, rfl, rfl, by decide +kernel, rfl, by decide +kernel, by decide +kernel⟩
theorem ok_bag {f : Addr} {fd : FuncData} {k : Nat} (F : Fun K "_law_bag" "_law_bag" s_law_bag f fd) (mmax : mg "max" = none) : FnOk P w K mg base CX0 (k + 1) f fd ["cell"] spBag := by
  refine F.ok sc_bag (fun vs H Q E h => ?_) (fun cdv A outer s H vs Q E hr h => ?_)
  · obtain ⟨c, rfl, _⟩ := h
    rfl
  · obtain ⟨c, rfl, q⟩ := h
    refine ⟨_, pss_one (ps_ret (pe_lst (pa_cons (pe_callB (call_max2 rfl) (by rfl) mmax (by decide +kernel) (pa_cons pe_int (pa_cons (pe_op op_sub (pv 0) (pe_op op_pow pe_int pe_int)) pa_nil)))
      (pa_cons (pv 0) (pa_cons pe_int pa_nil))))), ?_⟩
    refine ⟨_, rfl, _, _, rfl, rfl, ⟨by decide, by decide, by decide⟩, _, _, rfl, rfl, _, _, rfl, ?_⟩
    refine ⟨_, rfl, (by show 3 ≤ sizeLine; decide), fun p hp => ?_⟩
    exact q p (_, _, _) hp
theorem sc_pick : FnScope ["bag", "many", "told", "first", "second"] ["bag", "many"] (defScope s_law_pick) := ⟨rfl, rfl, rfl, by decide +kernel, rfl, by decide +kernel, by decide +kernel⟩
theorem ok_pick {f : Addr} {fd : FuncData} {k : Nat} (F : Fun K "_law_pick" "_law_pick" s_law_pick f fd) : FnOk P w K mg base CX0 (k + 1) f fd ["bag", "many"] spPick := by
  refine F.ok sc_pick (fun vs H Q E h => ?_) (fun cdv A outer s H vs Q E hr h => ?_)
  · obtain ⟨a, m, b, rfl, _⟩ := h
    rfl
  · obtain ⟨a, m, b, rfl, hb, h0, h1, q⟩ := h
    obtain ⟨b0, b1, b2⟩ := b
    have nd := sc_pick.nd
    refine ⟨_, pss_cons (ps_asg (pe_op op_add (pe_ix ix_list (pv 0) pe_int (fun _ _ => rfl)) pe_int) (pg_sub (pv 0) pe_int set_list))
      (pss_cons (ps_if (pt_cmpR op_gt (pe_ix ix_list (pv 0) pe_int (fun _ _ => rfl)) pe_int (nomark _))
        (pss_cons (ps_set (i := 2) nd rfl (Or.inl rfl) (pe_op op_modN (pe_ix ix_list (pv 0) pe_int (fun _ _ => rfl)) (pv 1)))
        (pss_cons (ps_asg (pe_op op_fdivN (pe_ix ix_list (pv 0) pe_int (fun _ _ => rfl)) (pv 1)) (pg_sub (pv 0) pe_int set_list))
        (pss_one (ps_ret (pv 2))))) pss_nil)
      (pss_cons (ps_set (i := 3) nd rfl (Or.inl rfl) (pe_op op_mod (pe_op op_add (pe_op op_add (pe_op op_mul (pe_op op_mod (pe_ix ix_list (pv 0) pe_int (fun _ _ => rfl)) pe_int) pe_int)
          (pe_op op_mul (pe_ix ix_list (pv 0) pe_int (fun _ _ => rfl)) pe_int)) pe_int) pe_int))
      (pss_cons (ps_set (i := 4) nd rfl (Or.inl rfl) (pe_op op_mod (pe_op op_add (pe_op op_mul (pv 3) (pv 3)) (pe_op op_mul (pe_ix ix_list (pv 0) pe_int (fun _ _ => rfl)) pe_int)) pe_int))
      (pss_one (ps_ret (pe_op op_modN (pe_op op_fdiv (pe_op op_add (pe_op op_mul (pv 3) pe_int) (pv 4)) pe_int) (pv 1))))))), ?_⟩
    have g : ∀ o : HO, (upd H a o) a = some o := fun _ => upd_same
    -- bag[2] = bag[2] + 1
    refine ⟨_, rfl, a, _, 2, .int b2, rfl, rfl, SqL.of hb, rfl, _, _, rfl, rfl, _, rfl, a, _, 2, 2, rfl, rfl, hb, rfl, ?_⟩
    -- if bag[0] > 0
    refine ⟨_, rfl, a, _, 0, .int b0, rfl, rfl, SqL.of upd_same, rfl, _, _, rfl, rfl, _, rfl, ite2 (fun c => ?_) (fun c => ?_)⟩
    · refine ⟨_, rfl, a, _, 0, .int b0, rfl, rfl, SqL.of upd_same, rfl, _, rfl, _, _, rfl, rfl, (by omega), ?_⟩
      refine ⟨_, rfl, a, _, 0, .int b0, rfl, rfl, SqL.of upd_same, rfl, _, rfl, _, _, rfl, rfl, ⟨by omega, by omega⟩, _, rfl, a, _, 0, 0, rfl, rfl, upd_same, rfl, ?_⟩
      refine ⟨_, rfl, ?_⟩
      rw [upd_upd]
      exact q _ (b0.fdiv m, b1, b2 + 1) (Int.fmod_nonneg_of_pos _ h0) (Int.fmod_lt_of_pos _ h0)
    · refine ⟨_, rfl, a, _, 1, .int b1, rfl, rfl, SqL.of upd_same, rfl, _, _, rfl, rfl, (by show (0 : Int) < 2147483629; decide), _, _, rfl, rfl, .inr ⟨by decide, by decide⟩, ?_⟩
      refine ⟨_, rfl, a, _, 2, .int (b2 + 1), rfl, rfl, SqL.of upd_same, rfl, _, _, rfl, rfl, .inr ⟨by decide, by decide⟩, _, _, rfl, rfl, _, _, rfl, rfl, _, _, rfl, rfl, (by show (0 : Int) < 2147483647; decide), ?_⟩
      generalize hF : ((b1 % 2147483629 * 48271 + (b2 + 1) * 69621 + 12345) % 2147483647 : Int) = F1
      have hF0 : 0 ≤ F1 := by rw [← hF]; exact Int.emod_nonneg _ (by decide)
      have hF1 : F1 < 2147483647 := by rw [← hF]; exact Int.emod_lt_of_pos _ (by decide)
      refine ⟨_, rfl, _, rfl, _, _, rfl, rfl, .inl ⟨by omega, by omega⟩, _, rfl, a, _, 2, .int (b2 + 1), rfl, rfl, SqL.of upd_same, rfl, _, _, rfl, rfl, .inr ⟨by decide, by decide⟩, _, _, rfl, rfl, _, _, rfl, rfl, (by show (0 : Int) < 2147483587; decide), ?_⟩
      refine ⟨_, rfl, _, _, rfl, rfl, .inl ⟨by omega, by omega⟩, _, rfl, _, _, rfl, rfl, _, _, rfl, rfl, ⟨by decide, by decide⟩, _, rfl, _, _, rfl, rfl, (by omega), ?_⟩
      exact q _ (b0, b1, b2 + 1) (Int.fmod_nonneg_of_pos _ h0) (Int.fmod_lt_of_pos _ h0)
end
end Lk
end
section
set_option maxRecDepth 100000
set_option maxHeartbeats 2000000
namespace Lk
open PySem PySem.Spec PyProof.Rows L2
abbrev S (l : List Nat) : Str := SX.S l
/-- letters from a to z -/
def Az (l : List Nat) : Prop := ∀ c ∈ l, 97 ≤ c ∧ c ≤ 122
/-- all but what stands at a is as it was -/
def SameBut (a : Addr) (H H' : Hp) : Prop := ∀ b o, b ≠ a → H b = some o → H' b = some o
theorem SameBut.trans {a : Addr} {H H1 H2 : Hp} (x : SameBut a H H1) (y : SameBut a H1 H2) : SameBut a H H2 := fun b o n e => y b o n (x b o n e)
theorem sameBut_upd {a : Addr} {H : Hp} {o : HO} : SameBut a H (upd H a o) := fun b u n e => by rw [upd_ne n]; exact e
theorem sameBut_new {a p : Addr} {H : Hp} {o : HO} (h : H p = none) : SameBut a H (upd H p o) := fun b u n e => by rw [upd_ne (ne_of_none e h)]; exact e
theorem same_new {p : Addr} {H : Hp} {o : HO} (h : H p = none) : Same H (upd H p o) := fun b u e => by rw [upd_ne (ne_of_none e h)]; exact e
theorem Same.but {a : Addr} {H H' : Hp} (h : Same H H') : SameBut a H H' := fun b o _ e => h b o e
/-- a bag at a, whatever it holds -/
def Bag (H : Hp) (a : Addr) : Prop := ∃ b, H a = some (bagO b)
theorem alpha_at {i : Nat} (h : i < 26) : (Str.ofString "abcdefghijklmnopqrstuvwxyz").cps[i]? = some (97 + i) := by
  have e : ∀ i : Fin 26, (Str.ofString "abcdefghijklmnopqrstuvwxyz").cps[i.val]? = some (97 + i.val) := by decide +kernel
  exact e ⟨i, h⟩
theorem alpha_len : (Str.ofString "abcdefghijklmnopqrstuvwxyz").length = 26 := by decide +kernel
theorem join_ones (l : List Nat) : Txt.join (Str.ofString "") (l.map fun c => S [c]) = S l := by
  have e : ∀ l : List Nat, TL.joinL [] (l.map fun c => [c]) = l := by
    intro l
    induction l with
    | nil => rfl
    | cons c r ih =>
      cases r with
      | nil => rfl
      | cons d r => 
        show [c] ++ ([] ++ TL.joinL [] ((d :: r).map fun c => [c])) = c :: d :: r
        rw [ih]
        rfl
  have h := SX.join_S [] (l.map fun c => [c])
  rw [e, List.map_map] at h
  exact h
section
variable {P : Program} {w : World} {K : PySem.W.Frag} {mg : Str → Option Value} {base : Heap}
def spSome : Sp := fun vs H Q _ => ∃ (a : Addr) (m : Int) (b : Int × Int × Int), vs = [.ref a, .int m] ∧ H a = some (bagO b) ∧ 0 ≤ m ∧ m ≤ 1000000 ∧
  ∀ l H', Az l → (l.length : Int) = m → Bag H' a → SameBut a H H' → Q (.str (S l)) H'
theorem sc_some : FnScope ["bag", "many", "kinds", "k"] ["bag", "many"] (defScope s_law_some) := ⟨rfl, rfl, rfl, by decide +kernel, rfl, by decide +kernel, by decide +kernel⟩
theorem ok_some {f : Addr} {fd : FuncData} (F : Fun K "_law_some" "_law_some" s_law_some f fd) (pick : C8.Cal P w K mg base 1 "_law_pick" spPick []) (mr : mg "range" = none) : FnOk P w K mg base CX0 2 f fd ["bag", "many"] spSome := by
  refine F.ok sc_some (fun vs H Q E h => ?_) (fun cdv A outer s H vs Q E hr h => ?_)
  · obtain ⟨a, m, b, rfl, _⟩ := h
    rfl
  · obtain ⟨a, m, b, rfl, hb, h0, h1, q⟩ := h
    have nd := sc_some.nd
    refine ⟨_, pss_cons (ps_set (i := 2) nd rfl (Or.inr rfl) (pe_ix ix_list (pe_lst (pa_cons pe_int (pa_cons pe_int (pa_cons pe_int (pa_cons pe_int pa_nil))))) (C8.pe_c pick hr (Nat.le_refl _) rfl (pa_cons (pv 0) (pa_cons pe_int pa_nil))) (fun _ _ => rfl)))
      (pss_one (ps_ret (pe_join pe_str (pe_lc (own := [("k", 3)]) (g := gName 3) (tt := tYes) rfl nd (pi_range1 (by rfl) mr (pa_cons (pv 1) pa_nil)) (blkOk_by (N := ["bag", "many", "kinds", "k"]) (sc := defScope s_law_some) (by decide +kernel))
        (fun _ _ _ _ _ => pg_name (i := 3) nd rfl (Or.inl rfl)) (fun _ _ _ _ _ => pts_nil)
        (fun _ _ _ _ _ => pe_item_str pe_str (C8.pe_c pick hr (Nat.le_refl _) rfl (pa_cons (pv 0) (pa_cons (pv 2) pa_nil))) (fun _ _ => rfl)))))), ?_⟩
    -- kinds
    refine ⟨(by show 4 ≤ sizeLine; decide), fun p hp => ?_⟩
    have nap : a ≠ p := ne_of_none hb hp
    have kinds : ∀ v : Int, 0 ≤ v → v < 4 → ∃ n : Int, 0 < n ∧ n ≤ 26 ∧ ([1, 2, 3, 26] : List Int)[v.toNat]? = some n := by
      intro v h0 h1
      obtain ⟨k, rfl⟩ := Int.eq_ofNat_of_zero_le h0
      match k, h1 with
      | 0, _ => exact ⟨1, by decide, by decide, rfl⟩
      | 1, _ => exact ⟨2, by decide, by decide, rfl⟩
      | 2, _ => exact ⟨3, by decide, by decide, rfl⟩
      | 3, _ => exact ⟨26, by decide, by decide, rfl⟩
      | k + 4, h1 => exact absurd h1 (by omega)
    refine ⟨_, rfl, a, 4, b, rfl, (by rw [upd_ne nap]; exact hb), by decide, by decide, fun v b' v0 v4 => ?_⟩
    obtain ⟨n, n0, n26, hn⟩ := kinds v v0 v4
    refine ⟨p, [.int 1, .int 2, .int 3, .int 26], v, .int n, rfl, rfl, SqL.of (by rw [upd_ne nap.symm, upd_same]), ?_, ?_⟩
    · have e : v = ((v.toNat : Nat) : Int) := by omega
      rw [e]
      refine atI_nat ?_
      have z := congrArg (Option.map V.int) hn
      rw [← List.getElem?_map] at z
      exact z
    -- the join
    refine ⟨⟨_, rfl⟩, _, rfl, m, rfl, by omega, by omega, fun D nD => ?_⟩
    have nDa : D ≠ a := fun z => by rw [z, upd_same] at nD; cases nD
    have nDp : D ≠ p := fun z => by rw [z, upd_ne nap.symm, upd_same] at nD; cases nD
    have hD : H D = none := by rw [upd_ne nDa, upd_ne nDp] at nD; exact nD
    refine lc_range (lo := 0) (n := m.toNat) (fun i H3 => ∃ l, Az l ∧ l.length = i ∧ H3 D = some (.lst (l.map fun c => V.str (S [c]))) ∧ Bag H3 a ∧ SameBut a H H3) ?_ ?_ ?_
    · refine ⟨[], (fun c h => by cases h), rfl, upd_same, ⟨b', by rw [upd_ne nDa.symm, upd_same]⟩, ?_⟩
      refine fun c o hc e => ?_
      rw [upd_ne (ne_of_none e hD), upd_ne hc, upd_ne (ne_of_none e hp)]
      exact e
    · rintro i H3 hi ⟨l, az, hl, eD, ⟨b3, hb3⟩, sb⟩
      refine ⟨rfl, _, rfl, .int n, rfl, a, n, b3, rfl, hb3, n0, by omega, fun v b4 u0 u1 => ?_⟩
      have e26 : v.toNat < 26 := by omega
      refine ⟨_, v, 97 + v.toNat, rfl, rfl, u0, by omega, (by rw [alpha_len]; omega), alpha_at e26, l.map (fun c => V.str (S [c])), by rw [upd_ne nDa]; exact eD, ?_, l ++ [97 + v.toNat], ?_, ?_, ?_, ⟨b4, by rw [upd_ne nDa.symm, upd_same]⟩, ?_⟩
      · rw [List.length_map, hl]
        exact Nat.lt_of_lt_of_le (show i < 1000001 by omega) (by decide)
      · intro c hc
        rcases List.mem_append.mp hc with h | h
        · exact az c h
        · rw [List.mem_singleton] at h
          omega
      · rw [List.length_append, hl]
        rfl
      · rw [upd_same, List.map_append]
        rfl
      · refine fun c o hc e => ?_
        rw [upd_ne (ne_of_none e hD), upd_ne hc]
        exact sb c o hc e
    · rintro H3 ⟨l, az, hl, eD, hb3, sb⟩
      refine ⟨_, D, l.map fun c => S [c], rfl, rfl, .inl (SqL.of (by rw [List.map_map]; exact eD)), ?_, ?_⟩
      · have e : ((l.map fun c => S [c]).map (·.length)).sum = l.length := by
          rw [List.map_map]
          clear eD hl az
          induction l with
          | nil => rfl
          | cons c r ih =>
            rw [List.map_cons, List.sum_cons, ih, List.length_cons]
            show 1 + r.length = r.length + 1
            omega
        rw [e, List.length_map, show (Str.ofString "").length = 0 from by decide +kernel]
        omega
      · rw [join_ones]
        exact q l H3 az (by omega) hb3 sb
end
end Lk
end
section
set_option maxRecDepth 100000
set_option maxHeartbeats 2000000
namespace Lk
open PySem PySem.Spec PyProof.Rows L2
def azC (c : Nat) : Bool := decide (97 ≤ c) && decide (c ≤ 122)
def isAz (l : List Nat) : Bool := l.all azC
theorem isAz_iff {l : List Nat} : isAz l = true ↔ Az l := by
  unfold isAz Az azC
  rw [List.all_eq_true]
  constructor
  · intro h c hc
    have z := h c hc
    rw [Bool.and_eq_true, decide_eq_true_eq, decide_eq_true_eq] at z
    exact z
  · intro h c hc
    rw [Bool.and_eq_true, decide_eq_true_eq, decide_eq_true_eq]
    exact h c hc
/-- what is no text -/
inductive NoStr (H : Hp) : V → Prop where
  | non : NoStr H .non
  | bl (b : Bool) : NoStr H (.bl b)
  | int (i : Int) : NoStr H (.int i)
  | lst {a : Addr} {xs : List V} (e : H a = some (.lst xs)) : NoStr H (.ref a)
  | tup {a : Addr} {xs : List V} (e : H a = some (.tup xs)) : NoStr H (.ref a)
  | dK {a : Addr} {kvs : List (Key × V)} (e : H a = some (.dK kvs)) : NoStr H (.ref a)
theorem NoStr.same {H H' : Hp} {v : V} (h : NoStr H v) (s : Same H H') : NoStr H' v := by
  cases h with
  | non => exact .non
  | bl b => exact .bl b
  | int i => exact .int i
  | lst e => exact .lst (s _ _ e)
  | tup e => exact .tup (s _ _ e)
  | dK e => exact .dK (s _ _ e)
theorem NoStr.ty {K : PySem.W.Frag} {H : Hp} {v : V} (h : NoStr H v) : ∃ n, TyX K H v (.type n) ∧ kitB n "str" = some false := by
  cases h with
  | non => exact ⟨"NoneType", .base .non, by decide +kernel⟩
  | bl b => exact ⟨"bool", .base (.bl b), by decide +kernel⟩
  | int i => exact ⟨"int", .base (.int i), by decide +kernel⟩
  | lst e => exact ⟨"list", .base (.lst e), by decide +kernel⟩
  | tup e => exact ⟨"tuple", .base (.tup e), by decide +kernel⟩
  | dK e => exact ⟨"dict", .base (.dK e), by decide +kernel⟩
/-- is_letters of v is b -/
inductive LetV (H : Hp) : V → Bool → Prop where
  | str (l : List Nat) (h : l.length ≤ 100000) : LetV H (.str (S l)) (isAz l)
  | oth {v : V} (h : NoStr H v) : LetV H v false
theorem LetV.same {H H' : Hp} {v : V} {b : Bool} (h : LetV H v b) (s : Same H H') : LetV H' v b := by
  cases h with
  | str l z => exact .str l z
  | oth z => exact .oth (z.same s)
theorem lt_one (c d : Nat) : decide (([c] : List Nat) < [d]) = decide (c < d) := by
  by_cases h : c < d
  · rw [decide_eq_true h, decide_eq_true]
    exact List.Lex.rel h
  · rw [decide_eq_false h, decide_eq_false]
    intro z
    cases z with
    | rel z => exact h z
    | cons z => cases z
theorem az_ge (c : Nat) : (!decide (((S [c]).cps.toList : List Nat) < (Str.ofString "a").cps.toList)) = decide (97 ≤ c) := by
  rw [show (Str.ofString "a").cps.toList = [97] from by decide +kernel]
  show (!decide (([c] : List Nat) < [97])) = _
  rw [lt_one]
  by_cases h : c < 97
  · rw [decide_eq_true h, decide_eq_false (by omega)]; rfl
  · rw [decide_eq_false h, decide_eq_true (by omega)]; rfl
theorem az_le (c : Nat) : (!decide ((Str.ofString "z").cps.toList < ((S [c]).cps.toList : List Nat))) = decide (c ≤ 122) := by
  rw [show (Str.ofString "z").cps.toList = [122] from by decide +kernel]
  show (!decide (([122] : List Nat) < [c])) = _
  rw [lt_one]
  by_cases h : 122 < c
  · rw [decide_eq_true h, decide_eq_false (by omega)]; rfl
  · rw [decide_eq_false h, decide_eq_true (by omega)]; rfl
section
variable {P : Program} {w : World} {K : PySem.W.Frag} {mg : Str → Option Value} {base : Heap}
def spLetters : Sp := fun vs H Q _ => ∃ v b, vs = [v] ∧ LetV H v b ∧ ∀ H', Same H H' → Q (.bl b) H'
theorem sc_letters : FnScope ["thing", "sign"] ["thing"] (defScope s_is_letters) := ⟨rfl, rfl, rfl, by decide +kernel, rfl, by decide +kernel, by decide +kernel⟩
theorem ok_letters {f : Addr} {fd : FuncData} (F : Fun K "is_letters" "is_letters" s_is_letters f fd) (mi : mg "isinstance" = none) (ms : mg "str" = none) (ma : mg "all" = none) : FnOk P w K mg base CX0 1 f fd ["thing"] spLetters := by
  refine F.ok sc_letters (fun vs H Q E h => ?_) (fun cdv A outer s H vs Q E hr h => ?_)
  · obtain ⟨v, b, rfl, _⟩ := h
    rfl
  · obtain ⟨v, b, rfl, hv, q⟩ := h
    have nd := sc_letters.nd
    refine ⟨_, pss_one (ps_ret (pe_and (pe_callB call_isi (by rfl) mi (by decide +kernel) (pa_cons (pv 0) (pa_cons (pe_bltn (v := .ty "str") (by rfl) ms (by decide +kernel) rfl) pa_nil)))
      (pe_one (pe_callB (cr_all rfl) (by rfl) ma (by decide +kernel) (pa_cons (pe_lc (own := [("sign", 1)]) (g := gName 1) (tt := tYes) rfl nd (pi_str (pv 0)) (blkOk_by (N := ["thing", "sign"]) (sc := defScope s_is_letters) (by decide +kernel))
        (fun _ _ _ _ _ => pg_name (i := 1) nd rfl (Or.inl rfl)) (fun _ _ _ _ _ => pts_nil)
        (fun _ _ _ _ _ => pe_chain op_le_str op_le_str pe_str (pv 1) pe_str)) pa_nil))))), ?_⟩
    cases hv with
    | oth h =>
      obtain ⟨n, ty, kb⟩ := h.ty (K := K)
      refine ⟨_, rfl, v, .ty "str", _, _, false, rfl, .ty _, ty, kit_ty kb, false, rfl, ?_⟩
      exact q H (Same.refl H)
    | str l hl =>
      refine ⟨_, rfl, _, .ty "str", _, _, true, rfl, .ty _, .base (.str _), kit_ty (by decide +kernel), true, rfl, ?_⟩
      refine ⟨_, rfl, _, rfl, fun D nD => ?_⟩
      refine lc_it walk_str (fun i H3 => Same H H3 ∧ H3 D = some (.lst (((l.take i).map azC).map V.bl))) ⟨same_new nD, upd_same⟩ (fun _ _ _ _ => True.intro) ?_ ?_
      · rintro i x H3 H4 hi ⟨s3, e3⟩ ⟨rfl, c, hc, rfl⟩
        have hc' : l[i]? = some c := by
          rw [← hc]
          show l[i]? = (l.toArray)[i]?
          rw [List.getElem?_toArray]
        refine ⟨rfl, _, rfl, _, _, rfl, rfl, _, rfl, ?_⟩
        rw [az_ge]
        have hi' : i < l.length := (List.getElem?_eq_some_iff.mp hc').1
        have step : ∀ b : Bool, b = azC c → ∃ acc, H4 D = some (HO.lst acc) ∧ acc.length < sizeLine ∧ Same H (upd H4 D (HO.lst (acc ++ [V.bl b]))) ∧ upd H4 D (HO.lst (acc ++ [V.bl b])) D = some (HO.lst (((l.take (i + 1)).map azC).map V.bl)) := by
          intro b e
          refine ⟨_, e3, ?_, fun b o e => ?_, ?_⟩
          · rw [List.length_map, List.length_map, List.length_take]
            exact Nat.lt_of_le_of_lt (show min i l.length ≤ 100000 by omega) (by decide)
          · rw [upd_ne (ne_of_none e nD)]
            exact s3 b o e
          · rw [upd_same, List.take_add_one, hc', List.map_append, List.map_append, e]
            rfl
        refine ite2 (fun g => ?_) (fun g => ?_)
        · refine ⟨_, _, rfl, rfl, step _ ?_⟩
          have z := az_le c
          unfold azC
          rw [g, Bool.true_and]
          exact z
        · refine step false ?_
          unfold azC
          rw [Bool.eq_false_iff.mpr g, Bool.false_and]
      · rintro H3 ⟨s3, e3⟩
        have el : l.take ((S l).cps.size) = l := List.take_of_length_le (by show l.length ≤ (l.toArray).size; rw [List.size_toArray]; exact Nat.le_refl _)
        rw [el] at e3
        refine ⟨D, _, rfl, SqL.of e3, ?_⟩
        show Q (.bl ((l.map azC).all id)) H3
        have e : (l.map azC).all id = isAz l := by
          rw [List.all_map]
          rfl
        rw [e]
        exact q H3 s3
end
end Lk
end
section
set_option maxRecDepth 100000
set_option maxHeartbeats 2000000
/-! A caught error that a name keeps behind its suite; isinstance of it. -/
namespace Lk
open PySem PySem.Spec PyProof.Rows L2
/-- an error's object of the class cls, its own dict at d, caught before -/
def ExT (cls : Value) (d : Option Addr) (a : Addr) : HO := .ext fun h => ∃ (oe : Obj) (vs : Array Value), h.get? a = some oe ∧ Zc cls d oe ∧ oe.data = .fields vs
theorem exT_ok {P : Program} {w : World} {H : Hp} {h : Heap} {a : Addr} {cls : Value} {d : Option Addr} {oe : Obj} {vs : Array Value} (e : h.get? a = some oe) (z : Zc cls d oe) (hd : oe.data = .fields vs) : ObjOk P w H h a (ExT cls d a) :=
  ⟨⟨oe, vs, e, z, hd⟩, ⟨oe, e⟩, fun _ _ ⟨o, v, q, r⟩ k => ⟨o, v, k o q, r⟩⟩
section
variable {X : Cx} {pins : List (Addr × Obj)} {σ : L2.St} {H : Hp} {s : Shared}
/-- what is pinned and was made since the entry may be tracked -/
theorem tracked {a : Addr} {oe : Obj} {o : HO} (I : Inv X ((a, oe) :: pins) σ H s) (h0 : X.s_0.heap.get? a = none) (hp : ∀ p ∈ X.pn ++ pins, p.1 ≠ a) (new : ObjOk X.prog X.w (upd H a o) s.heap a o) : Inv X pins σ (upd H a o) s := by
  obtain ⟨ha, hn, nL, nF, nc⟩ := I.pin (a, oe) (List.mem_append.mpr (.inr List.mem_cons_self))
  refine ⟨I.ok, I.os, I.bare, ⟨I.base.keep, I.base.slot, fun b u e n hx => ?_, I.base.there, fun b xs e => ?_, fun b u xs e => ?_, fun b ps e => ?_⟩, I.loc, I.cell, ?_, fun x c e => ?_, fun p h => ?_, I.hok.laidN (fun _ _ e => e) hn new, I.len⟩
  · rw [upd_ne (fun z => by rw [z, h0] at e; cases e)]
    exact I.base.free b u e n hx
  · rw [upd_ne (ne_of_none (I.base.tups b xs e) hn)]
    exact I.base.tups b xs e
  · rw [upd_ne (ne_of_none (I.base.frzs b u xs e) hn)]
    exact I.base.frzs b u xs e
  · obtain ⟨m, q⟩ := I.base.tbls b ps e
    exact ⟨m, by rw [upd_ne (ne_of_none q hn)]; exact q⟩
  · rw [upd_ne nL.symm]
    exact I.free
  · rw [upd_ne (fun z => ?_)]
    · exact I.freeC x c e
    · obtain ⟨v, o', q1, q2⟩ := I.cell x c e
      have q3 : s.heap.get? a = some o' := by rw [← z]; exact q1
      rw [show s.heap.get? a = some oe from ha] at q3
      cases q3
      exact nc v q2
  · have hm : p ∈ X.pn ++ ((a, oe) :: pins) := by
      rcases List.mem_append.mp h with h | h
      · exact List.mem_append.mpr (.inl h)
      · exact List.mem_append.mpr (.inr (List.mem_cons_of_mem _ h))
    obtain ⟨q1, q2, q3⟩ := I.pin p hm
    exact ⟨q1, by rw [upd_ne (hp p h)]; exact q2, q3⟩
theorem unsuiteP {a : Addr} {q : Addr × Obj} (I : Inv (X.suite a (q :: (X.pn ++ pins))) [] σ H s) (ok : X.Ok) : Inv X (q :: pins) σ H s :=
  ⟨ok, I.os, I.bare, I.base, I.loc, I.cell, I.free, I.freeC, fun p hp => I.pin p (by
    rw [List.append_nil]
    show p ∈ q :: (X.pn ++ pins)
    rcases List.mem_append.mp hp with h | h
    · exact List.mem_cons_of_mem _ (List.mem_append.mpr (.inl h))
    · rcases List.mem_cons.mp h with e | h
      · rw [e]; exact List.mem_cons_self
      · exact List.mem_cons_of_mem _ (List.mem_append.mpr (.inr h))), I.hok, I.len⟩
end
/-- the wish of a clause that takes whatever comes, and behind which the error is kept -/
def wKeep (K : PySem.W.Frag) (c : Value) (i : Nat) (ts : Addr → Value → Option Addr → TS) (D : Ends) : WX := fun cls d σ H =>
  PySem.W.exmOne K cls c = some true ∧ ∀ a, H a = none → ts a cls d { nx := fun σ' H' => H' a = none → D.nx (σ'.set i none) (upd H' a (ExT cls d a)), rt := fun _ _ => False, bk := fun _ _ => False, ct := fun _ _ => False } (σ.set i (some (.ref a))) H
section
variable {X : Cx} {x n : Str} {c : Value} {i : Nat} {body suite : List Stmt} {b₀ : Stmt} {np pos pos' : Pos} {tb : WX → TS} {ts : Addr → Value → Option Addr → TS}
/-- what is known of an error that came down: its object where it landed, that it is new, that the frame's state stands -/
structure Down (X : Cx) (pins : List (Addr × Obj)) (a : Addr) (cls : Value) (d : Option Addr) (σ : L2.St) (H : Hp) (s : Shared) : Prop where
  st : Inv X pins σ H s
  ob : ∃ oe vs, s.heap.get? a = some oe ∧ Zc cls d oe ∧ oe.data = .fields vs
  nH : H a = none
  n0 : X.s_0.heap.get? a = none
  nP : ∀ p ∈ X.pn ++ pins, p.1 ≠ a
  nL : a ≠ X.env.locals
  nF : a ∉ X.fs
theorem down {pins : List (Addr × Obj)} {a : Addr} {B : Heap} {cls : Value} {d : Option Addr} {σ : L2.St} {H : Hp} {sI s' : Shared} {h : Heap} (hs : X.stack = X.env :: X.outer) (hf : X.env.frame = some X.env.locals) (hex : X.ex = [])
    (J : Inv X pins σ H sI) (nb : ∀ b o, sI.heap.get? b = some o → b ∉ frs X.stack → B.get? b = some o) (up : sI.heap.UpToSlots h) (os : s'.os = sI.os) (ag : AllBare s'.gens) (na : H a = none)
    (fl : HandSPX.FlyingZ B (X.env :: X.outer) a (Zc cls d) h) : Down X pins a cls d σ H { s' with heap := h } := by
  obtain ⟨oe, vs, he, hz, hd⟩ := fl.there
  have off : a ∉ frs (X.env :: X.outer) := fun hm => by
    obtain ⟨_, o, e, q⟩ := fl.2.2.1.mem hm
    have z : oe = o := Option.some.inj (he.symm.trans e)
    exact q vs (by rw [← z]; exact hd)
  have gone : sI.heap.get? a = none := by
    rcases e : sI.heap.get? a with _ | o
    · rfl
    · have z := nb a o e (by rw [hs]; exact off)
      rw [fl.2.1] at z
      cases z
  refine ⟨J.landed nb fl.1 up os ag, ⟨oe, vs, he, hz, hd⟩, na, ?_, fun p hp z => ?_, fun z => off ?_, fun hm => off ?_⟩
  · rcases e : X.s_0.heap.get? a with _ | o
    · rfl
    · obtain ⟨u, z⟩ := J.base.there a o e (by rw [hex]; exact fun z => nomatch z)
      rw [gone] at z
      cases z
  · have q := (J.pin p hp).1
    rw [z, gone] at q
    cases q
  · exact List.mem_filterMap.mpr ⟨X.env, List.mem_cons_self, by rw [hf, z]⟩
  · obtain ⟨e, he, q⟩ := List.mem_filterMap.mp hm
    exact List.mem_filterMap.mpr ⟨e, List.mem_cons_of_mem _ he, q⟩
/-- a body that ran through a try ran -/
theorem through {pins : List (Addr × Obj)} {xe : Value → Shared → Prop} {D : Ends} {s1 : Shared} (ok : X.Ok) : ∀ {f : Flow}, SP (X.tr (X.pn ++ pins) xe) [] D f s1 → SP X pins D f s1
  | .next, ⟨σ, H, J, q⟩ => ⟨σ, H, J.ofTry ok, q⟩
  | .brk, ⟨σ, H, J, q⟩ => ⟨σ, H, J.ofTry ok, q⟩
  | .cont, ⟨σ, H, J, q⟩ => ⟨σ, H, J.ofTry ok, q⟩
  | .ret _, ⟨v, σ, H, J, r, q⟩ => ⟨v, σ, H, J.ofTry ok, r, q⟩
/-- the suite runs, its name goes, the error is tracked from then on -/
theorem kept {pins : List (Addr × Obj)} {a : Addr} {cls : Value} {d : Option Addr} {σ : L2.St} {H : Hp} {s : Shared} {D : Ends} (ok : X.Ok) (hN : X.N.Nodup) (hi : X.N[i]? = some n) (hln : X.env.kindOf n = some .local)
    (hsu : ∀ (oe : Obj) (pn : List (Addr × Obj)), Zc cls d oe → (∃ vs, oe.data = .fields vs) → PSs (X.suite a ((a, oe) :: pn)) (b₀ :: suite) (ts a cls d)) (W : Down X pins a cls d σ H s)
    (h : ts a cls d { nx := fun σ' H' => H' a = none → D.nx (σ'.set i none) (upd H' a (ExT cls d a)), rt := fun _ _ => False, bk := fun _ _ => False, ct := fun _ _ => False } (σ.set i (some (.ref a))) H)
    {R : Flow → Shared → Prop} {E1 E2 : Value → Shared → Prop} (hR : ∀ s6, wpAny (model X.prog X.w) X.A (do bindName X.env n .none; unbindBehindTheSuite X.env n pos') (fun _ s7 => SP X pins D .next s7) X.xe s6 → R .next s6) :
    wpAny (model X.prog X.w) (X.A.mark (some (.ref a))) (storeName X.env n (.ref a)) (fun _ s5 => wpAny (model X.prog X.w) (X.A.mark (some (.ref a))) (execs (b₀ :: suite) X.env) R E2 s5) E1 s := by
  obtain ⟨oe, vs, he, hz, hd⟩ := W.ob
  have S := W.st.suite he hd W.nH W.nL W.nF
  refine store_ok (X := X.suite a ((a, oe) :: (X.pn ++ pins))) (v := .ref a) S hN hi (.inl hln) rfl (fun s5 S5 => ?_) (.inr hln)
  refine wpAny_mono ((hsu oe (X.pn ++ pins) hz ⟨_, hd⟩).run [] s5 _ H _ S5 h) (fun f s6 z => ?_) fun _ _ z => z.elim
  match f, z with
  | .next, ⟨σ6, H6, S6, q6⟩ =>
    refine hR s6 (gone_ok (unsuiteP S6 ok) hN hi hln fun s7 J7 => ?_)
    obtain ⟨p1, p2, _⟩ := J7.pin (a, oe) (List.mem_append.mpr (.inr List.mem_cons_self))
    exact ⟨_, _, tracked J7 W.n0 W.nP (exT_ok p1 hz hd), q6 p2⟩
  | .brk, ⟨_, _, _, q⟩ => exact q.elim
  | .cont, ⟨_, _, _, q⟩ => exact q.elim
  | .ret _, ⟨_, _, _, _, _, q⟩ => exact q.elim
theorem ps_try_keep (hs : X.stack = X.env :: X.outer) (hf : X.env.frame = some X.env.locals) (hex : X.ex = []) (hN : X.N.Nodup) (hi : X.N[i]? = some n) (hln : X.env.kindOf n = some .local) (hc : Names X x c)
    (hb : ∀ (W : WX) (pn : List (Addr × Obj)) (xe : Value → Shared → Prop), Takes (X.tr pn xe) W → PassesOwn (model X.prog X.w) X.A X.env xe → PSs (X.tr pn xe) body (tb W))
    (hsu : ∀ (a : Addr) (oe : Obj) (cls : Value) (d : Option Addr) (pn : List (Addr × Obj)), Zc cls d oe → (∃ vs, oe.data = .fields vs) → PSs (X.suite a ((a, oe) :: pn)) (b₀ :: suite) (ts a cls d)) :
    PS X (.Try body [.ExceptHandler (some (.Name x np)) (some n) (b₀ :: suite) pos'] [] [] pos) (fun D σ H => tb (wKeep X.K c i ts D) D σ H) := by
  refine ⟨fun pins s σ H D I h => wpAny_Try_except ?_⟩
  have hfr : X.A.frames = some (X.env :: X.outer) := I.ok.frames.trans (by rw [hs])
  refine wpAny_mono ((hb (wKeep X.K c i ts D) (X.pn ++ pins) _ (fun u s' xx => ?_) PassesOwn.looking).run [] s σ H D (I.toTry _) h) (fun f s1 z => ?_) (fun _ _ z => z)
  rotate_left
  · have z' := through I.ok z
    match f, z' with
    | .next, ⟨_, _, J, q⟩ => exact wpAny_execs_nil ⟨_, _, J, q⟩
    | .brk, z' => exact z'
    | .cont, z' => exact z'
    | .ret _, z' => exact z'
  · obtain ⟨a, B, sI, _, σ', H', cls, d, rfl, J', nb, up, sky, na, os, ag, hex1, hyes⟩ := xx
    have J : Inv X pins σ' H' sI := J'.ofTry I.ok
    rw [show (X.tr (X.pn ++ pins) _).stack = X.env :: X.outer from hs] at sky
    refine Sky.land Zc.steady hfr hf sky fun h3 fl3 up3 => ?_
    have W3 := down hs hf hex J nb (up.trans up3) os ag na fl3
    obtain ⟨oe, vs, he, hz, hd⟩ := W3.ob
    have S3 := W3.st.suite he hd na W3.nL W3.nF
    refine wpAny_handleBy_cons (codeAny_handlers_test ?_) fun q => nomatch q
    have look : PySem.W.Looks (model X.prog X.w) h3 (typeOf (.ref a)) cls := fun A Q E s k q => wpAny_typeOf_ref (k _ _ he) (by rw [hz.1]; exact q)
    have name : ∀ {Q : Value → Shared → Prop} {E : Value → Shared → Prop}, Q c { s' with heap := h3 } → wpAny (model X.prog X.w) (X.A.mark (some (.ref a))) (eval (.Name x np) X.env) Q E { s' with heap := h3 } := fun q => by
      rcases hc with ⟨k1, k2, k3 | ⟨k3, k4, k5⟩⟩
      · exact ld_glob S3 k1 k3 q k2
      · exact ld_blt S3 k1 k3 k4 q k5 k2
    refine name ((PySem.W.exm_one W3.st.kIn look hex1).here (codeAny_handlers_suite_as (HandSPX.lands_againZ fl3 fun h4 fl4 up4 => ?_)))
    exact kept I.ok hN hi hln (hsu a · cls d ·) (down hs hf hex J nb ((up.trans up3).trans up4) os ag na fl4) (hyes a na) (fun _ z => z)
end
/-! ### isinstance of such -/
section
variable {X : Cx}
/-- the class of such an error is known to be read rightly -/
theorem exT_at {pins : List (Addr × Obj)} {σ : L2.St} {H : Hp} {s : Shared} {a D : Addr} (I : Inv X pins σ H s) (ha : H a = some (ExT (.ref D) none a)) : ∃ oe, PySem.W.InstAt s.heap a oe D none := by
  obtain ⟨⟨oe, vs, he, hz, hd⟩, _⟩ := I.hok a _ ha
  refine ⟨oe, ?_⟩
  obtain ⟨oc, od, oda, osl⟩ := oe
  obtain ⟨h1, h2⟩ := hz
  dsimp only at h1 h2 hd
  subst h1 h2 hd
  exact ⟨he, rfl, rfl, trivial⟩
def rIsX (K : PySem.W.Frag) : List V → Hp → VK → Prop := fun xs H Q => ∃ (a D : Addr) (c : V) (u : Value) (b : Bool), xs = [.ref a, c] ∧ ExcC K D ∧ H a = some (ExT (.ref D) none a) ∧ ClsV c u ∧ PySem.W.kitOne K (.ref D) u = some b ∧ Q (.bl b) H
theorem call_isX : CallR X (.builtin "isinstance") (rIsX X.K) := by
  intro pins s σ H xs us Q I r h
  obtain ⟨a, D, c, u, b, rfl, C, ha, k, e, q⟩ := h
  obtain ⟨u1, u2, rfl, r1, r2⟩ := vals2 r
  have e2 := k.eq r2
  subst e2
  cases (show u1 = Value.ref a from r1)
  obtain ⟨oe, J⟩ := exT_at I ha
  exact PySem.W.kia_one (PySem.W.handS_kitx_exc C.hg C.hk C.hs C.hd C.ha C.hn C.ht C.hm) I.kIn J e (fun z => nomatch z) fun tk => ⟨.bl b, H, I.tok tk, rfl, q⟩
def rIsXT (K : PySem.W.Frag) : List V → Hp → VK → Prop := fun xs H Q => ∃ (a D tp : Addr) (cs : List V) (us : List Value) (b : Bool), xs = [.ref a, .ref tp] ∧ ExcC K D ∧ H a = some (ExT (.ref D) none a) ∧ H tp = some (.tup cs) ∧ Paired ClsV cs us ∧ PySem.W.kitAny K (.ref D) us = some b ∧ Q (.bl b) H
theorem call_isXT : CallR X (.builtin "isinstance") (rIsXT X.K) := by
  intro pins s σ H xs us Q I r h
  obtain ⟨a, D, tp, cs, ws, b, rfl, C, ha, hT, k, e, q⟩ := h
  obtain ⟨u1, u2, rfl, r1, r2⟩ := vals2 r
  cases (show u2 = Value.ref tp from r2)
  cases (show u1 = Value.ref a from r1)
  obtain ⟨oe, J⟩ := exT_at I ha
  obtain ⟨_, its, rv, o, h1, h2, n, h3⟩ := (show ObjOk X.prog X.w H s.heap tp (.tup cs) from I.hok tp _ hT)
  have e3 := ClsV.all k rv
  subst e3
  obtain ⟨oc, od, dt, sl⟩ := o
  simp only at h2 h3
  subst h2 h3
  exact PySem.W.kia_tup (PySem.W.handS_kitx_exc C.hg C.hk C.hs C.hd C.ha C.hn C.ht C.hm) I.kIn J h1 e (fun z => nomatch z) fun tk => ⟨.bl b, H, I.tok tk, rfl, q⟩
end
end Lk
end
section
set_option maxRecDepth 100000
set_option maxHeartbeats 2000000
namespace Lk
open PySem PySem.Spec PyProof.Rows L2
/-- a def that may raise, by its name -/
structure CalX (P : Program) (w : World) (K : PySem.W.Frag) (mg : Str → Option Value) (base : Heap) (k : Nat) (x : Str) (sp : Sp) : Prop where
  ex : ∃ (f : Addr) (fd : FuncData) (ps : List Str), FnOk P w K mg base (L2.CX P w) k f fd ps sp ∧ mg x = some (.ref f) ∧ PySem.W.keepIn K (.ref f) = true ∧ Binds K fd ps []
section
variable {X : Cx} {k j : Nat} {x : Str} {sp : Sp} {p pos : Pos} {e : Expr} {es : List Expr} {t : TA} {W : WX}
/-- .. what it raises is taken around -/
theorem pe_cX (c : CalX X.prog X.w X.K X.mg X.base k x sp) (tk : Takes X W) (hr : Room j X.A) (hk : k ≤ j) (hg : Gl X x) (ha : PA X (e :: es) t)
    (hdb : (x == ("__debug__" : Str)) = false := by decide) (he : starEach (e :: es) X.env = (false, eval e X.env) :: starEach es X.env := by rfl) (hpl : (backTo pos (starEach es X.env)).any (·.1) = false := by rfl) :
    PE X (.Call (.Name x p) (e :: es) [] pos) (tCallS sp (WE W) t) := by
  obtain ⟨f, fd, ps, F, hm, kp, b⟩ := c.ex
  exact pe_callS F (hr.mono hk) hg hm kp b (fun σ => passAt tk σ) ha hdb he hpl
/-- .. where it raises nothing -/
theorem pe_c0 (c : CalX X.prog X.w X.K X.mg X.base k x sp) (hr : Room j X.A) (hk : k ≤ j) (hg : Gl X x) (ha : PA X (e :: es) t)
    (hdb : (x == ("__debug__" : Str)) = false := by decide) (he : starEach (e :: es) X.env = (false, eval e X.env) :: starEach es X.env := by rfl) (hpl : (backTo pos (starEach es X.env)).any (·.1) = false := by rfl) :
    PE X (.Call (.Name x p) (e :: es) [] pos) (tCall sp [] E0 t) := by
  obtain ⟨f, fd, ps, F, hm, kp, b⟩ := c.ex
  exact pe_call F (hr.mono hk) hg hm kp b .nil passL ha hdb he hpl
end
/-- a class of the program's own over ValueError, as the top has written it -/
structure ErrC (K : PySem.W.Frag) (mg : Str → Option Value) (x : Str) (C : Addr) : Prop where
  g : mg x = some (.ref C)
  k : PySem.W.keepIn K (.ref C) = true
  x : PySem.W.excIn K C [.type "ValueError", .type "Exception", .type "BaseException", .type "object"] "ValueError.__new__" = true
  b : PySem.W.subIn K (.ref C) (.type "BaseException") = some true
  t : PySem.W.typeIn K (.ref C) = some (.type "type")
end Lk
end
section
set_option maxRecDepth 100000
set_option maxHeartbeats 2000000
namespace Lk
open PySem PySem.Spec PyProof.Rows L2
/-! ### numbered words -/
def numFrom : Nat → List (List Nat) → List (Key × V)
  | _, [] => []
  | n, w :: r => (.inr (S w), .int (n : Nat)) :: numFrom (n + 1) r
theorem num_len : ∀ (n : Nat) (ws : List (List Nat)), (numFrom n ws).length = ws.length
  | _, [] => rfl
  | n, w :: r => congrArg (· + 1) (num_len (n + 1) r)
theorem num_snoc : ∀ (n : Nat) (ws : List (List Nat)) (w : List Nat), numFrom n (ws ++ [w]) = numFrom n ws ++ [(.inr (S w), .int ((n + ws.length : Nat) : Int))]
  | n, [], w => by simp [numFrom]
  | n, x :: r, w => by
    show _ :: numFrom (n + 1) (r ++ [w]) = _ :: (numFrom (n + 1) r ++ [_])
    rw [num_snoc (n + 1) r w, List.length_cons, show n + 1 + r.length = n + (r.length + 1) by omega]
theorem num_val : ∀ (n : Nat) (ws : List (List Nat)) (w : List Nat), valV (numFrom n ws) (Sum.inr (S w)) = if w ∈ ws then some (V.int ((n + ws.idxOf w : Nat) : Int)) else none
  | n, [], w => by rw [if_neg (by simp)]; rfl
  | n, x :: r, w => by
    by_cases h : x = w
    · subst h
      rw [if_pos List.mem_cons_self]
      have e : valV (numFrom n (x :: r)) (Sum.inr (S x)) = some (V.int (n : Nat)) := valV_pos rfl
      rw [e, List.idxOf_cons_self]
      rfl
    · have e : valV (numFrom n (x :: r)) (Sum.inr (S w)) = valV (numFrom (n + 1) r) (Sum.inr (S w)) := valV_neg fun z => h (SX.S_inj (Sum.inr.inj z))
      rw [e, num_val (n + 1) r w]
      have hm : w ∈ x :: r ↔ w ∈ r := ⟨fun z => (List.mem_cons.mp z).resolve_left fun q => h q.symm, List.mem_cons_of_mem _⟩
      by_cases hr : w ∈ r
      · have ei : (x :: r).idxOf w = r.idxOf w + 1 := by
          rw [List.idxOf_cons, show (x == w) = false from beq_false_of_ne h]
          rfl
        rw [if_pos hr, if_pos (hm.mpr hr), ei, show n + 1 + r.idxOf w = n + (r.idxOf w + 1) by omega]
      · rw [if_neg hr, if_neg fun z => hr (hm.mp z)]
theorem num_is (ws : List (List Nat)) (w : List Nat) : (valV (numFrom 0 ws) (Sum.inr (S w))).isSome = decide (w ∈ ws) := by
  rw [num_val]
  by_cases h : w ∈ ws
  · rw [if_pos h, decide_eq_true h]; rfl
  · rw [if_neg h, decide_eq_false h]; rfl
theorem num_put {ws : List (List Nat)} {w : List Nat} (h : w ∉ ws) : putK (numFrom 0 ws) (Sum.inr (S w)) (.int (ws.length : Nat)) = numFrom 0 (ws ++ [w]) := by
  have z : valV (numFrom 0 ws) (Sum.inr (S w)) = none := by rw [num_val, if_neg h]
  rw [putK_new _ z, num_snoc, Nat.zero_add]
/-- the texts of words, as they stand in a list or tuple -/
abbrev tx (ws : List (List Nat)) : List V := ws.map fun w => V.str (S w)
theorem SqT_same {K : PySem.W.Frag} {H H' : Hp} {a : Addr} {xs : List V} (h : SqT K H a xs) (s : Same H H') : SqT K H' a xs := by
  rcases h with (h | ⟨o, h⟩) | h
  · exact .inl (.inl (s _ _ h))
  · exact .inl (.inr ⟨o, s _ _ h⟩)
  · exact .inr h
theorem SqL_same {K : PySem.W.Frag} {H H' : Hp} {a : Addr} {xs : List V} (h : SqL K H a xs) (s : Same H H') : SqL K H' a xs := by
  rcases h with (h | ⟨o, h⟩) | h
  · exact .inl (.inl (s _ _ h))
  · exact .inl (.inr ⟨o, s _ _ h⟩)
  · exact .inr h
/-! ### slices -/
def sub (t : List Nat) (a b : Nat) : List Nat := (t.drop a).take (b - a)
theorem slice_sub {t : List Nat} {i j : Int} (h0 : 0 ≤ i) (h1 : i ≤ j) (h2 : j ≤ t.length) : Txt.slice (S t) (some i) (some j) = S (sub t i.toNat j.toNat) := by
  have e := beq_iff_eq.mp (PyProof.Rows.slice_closesL (x := S t) h0 h1 (by rw [SX.S_len]; exact h2))
  refine e.trans (TL.ext_tl ?_)
  show (t.drop i.toNat).take (j - i).toNat = (t.drop i.toNat).take (j.toNat - i.toNat)
  rw [show (j - i).toNat = j.toNat - i.toNat by omega]
/-- from at on the longest of ws with which t goes on ends at e -/
structure LE (ws : List (List Nat)) (t : List Nat) (at' e : Nat) : Prop where
  ge : at' ≤ e
  le : e ≤ t.length
  all : ∀ j, at' < j → j ≤ e → sub t at' j ∈ ws
  no : e < t.length → sub t at' (e + 1) ∉ ws
section
variable {P : Program} {w : World} {K : PySem.W.Frag} {mg : Str → Option Value} {base : Heap}
def spNumbered (K : PySem.W.Frag) : Sp := fun vs H Q _ => ∃ a ws, vs = [.ref a] ∧ SqT K H a (tx ws) ∧ (([] : List Nat) :: ws).Nodup ∧ ws.length ≤ 100000 ∧
  ∀ p H', H p = none → H' p = some (.dK (numFrom 0 ([] :: ws))) → Same H H' → Q (.ref p) H'
theorem sc_numbered : FnScope ["words", "numbers", "word"] ["words"] (defScope s_numbered) := ⟨rfl, rfl, rfl, by decide +kernel, rfl, by decide +kernel, by decide +kernel⟩
theorem ok_numbered {f : Addr} {fd : FuncData} (F : Fun K "numbered" "numbered" s_numbered f fd) (ml : mg "len" = none) : FnOk P w K mg base CX0 1 f fd ["words"] (spNumbered K) := by
  refine F.ok sc_numbered (fun vs H Q E h => ?_) (fun cdv A outer s H vs Q E hr h => ?_)
  · obtain ⟨a, ws, rfl, _⟩ := h
    rfl
  · obtain ⟨a, ws, rfl, hT, nodup, hl, q⟩ := h
    have nd := sc_numbered.nd
    have hu := hu_of hr
    refine ⟨_, pss_cons (ps_set (i := 1) nd rfl (Or.inl rfl) (pe_disp (pps_cons pe_str pe_int pps_nil) (by rfl) (by rfl) (fun z => by cases z) (by decide)))
      (pss_cons (ps_for PassesOwn.never rfl (pi_tup (pv 0)) (pg_name (i := 2) nd rfl (Or.inl rfl)) (pss_one (ps_dput hu (pv 1) (pv 2) (pe_callB call_lenD (by rfl) ml PySem.boot_len (pa_cons (pv 1) pa_nil)) rfl)))
      (pss_one (ps_ret (pv 1)))), ?_⟩
    refine fun p np => ⟨upd_same, [(Sum.inr (Str.ofString ""), .int 0)], rfl, by decide, ?_⟩
    rw [upd_upd]
    have e0 : mergeK [] [((Sum.inr (Str.ofString "") : Key), V.int 0)] = numFrom 0 [[]] := by rfl
    rw [e0]
    have hp : ∀ H1 : Hp, Same H H1 → SqT K H1 a (tx ws) := fun H1 s => SqT_same hT s
    refine ⟨_, rfl, a, rfl, ⟨_, hp _ (same_new np)⟩, for_tup (K := K) (a := a) (xs := tx ws) (fun i σ H1 => ∃ y, σ = [some (.ref a), some (.ref p), y] ∧ H1 p = some (.dK (numFrom 0 ([] :: ws.take i))) ∧ Same H H1) ⟨_, rfl, upd_same, same_new np⟩ ?_ ?_ ?_⟩
    · rintro i σ H1 hi ⟨y, rfl, e1, s1⟩
      exact hp _ s1
    · rintro i x σ H1 hx ⟨y, rfl, e1, s1⟩
      have hi : i < ws.length := by
        have z := (List.getElem?_eq_some_iff.mp hx).1
        rwa [List.length_map] at z
      have ew : ws[i]? = some ws[i] := List.getElem?_eq_getElem hi
      have hx2 : x = .str (S ws[i]) := by
        rw [List.getElem?_map, ew] at hx
        exact (Option.some.inj hx).symm
      subst hx2
      have nin : ws[i] ∉ ([] : List Nat) :: ws.take i := by
        intro z
        rcases List.mem_cons.mp z with z | z
        · exact (List.nodup_cons.mp nodup).1 (z ▸ List.getElem_mem hi)
        · obtain ⟨j, hj, ej⟩ := List.mem_iff_getElem.mp z
          rw [List.getElem_take] at ej
          have hj2 : j < i := by
            rw [List.length_take] at hj
            omega
          have h3 := (List.nodup_cons.mp nodup).2
          exact List.pairwise_iff_getElem.mp h3 j i (by omega) hi hj2 ej
      refine ⟨_, rfl, p, _, rfl, e1, _, rfl, _, rfl, p, _, rfl, DPut.k (k := Sum.inr (S ws[i])) e1 ?_, ?_⟩
      · rw [num_len, List.length_cons, List.length_take]
        exact Nat.lt_of_le_of_lt (show min i ws.length + 1 ≤ 100001 by omega) (by decide)
      · have el : ((numFrom 0 ([] :: ws.take i)).length : Int) = ((([] : List Nat) :: ws.take i).length : Nat) := by rw [num_len]
        rw [el, num_put nin]
        refine ⟨_, rfl, ?_, fun b o e => ?_⟩
        · rw [upd_same, List.take_add_one, ew]
          rfl
        · rw [upd_ne (ne_of_none e np)]
          exact s1 b o e
    · rintro σ H1 ⟨y, rfl, e1, s1⟩
      refine ⟨_, rfl, ?_⟩
      rw [List.length_map, List.take_length] at e1
      exact q p H1 np e1 s1
end
end Lk
end
section
set_option maxRecDepth 100000
set_option maxHeartbeats 2000000
namespace Lk
open PySem PySem.Spec PyProof.Rows L2
theorem sub_len {t : List Nat} {a b : Nat} (h1 : a ≤ b) (h2 : b ≤ t.length) : (sub t a b).length = b - a := by
  unfold sub
  rw [List.length_take, List.length_drop]
  omega
theorem sub_all (t : List Nat) : sub t 0 t.length = t := by
  unfold sub
  rw [List.drop_zero, Nat.sub_zero]
  exact List.take_of_length_le (Nat.le_refl _)
theorem LE.uniq {ws : List (List Nat)} {t : List Nat} {a e e' : Nat} (h : LE ws t a e) (h' : LE ws t a e') : e = e' := by
  rcases Nat.lt_trichotomy e e' with c | c | c
  · have := h'.le
    have := h.ge
    exact absurd (h'.all (e + 1) (by omega) (by omega)) (h.no (by omega))
  · exact c
  · have := h.le
    have := h'.ge
    exact absurd (h.all (e' + 1) (by omega) (by omega)) (h'.no (by omega))
theorem LE.get (ws : List (List Nat)) (t : List Nat) : ∀ (n a b : Nat), a ≤ b → b ≤ t.length → t.length - b = n → (∀ j, a < j → j ≤ b → sub t a j ∈ ws) → ∃ e, LE ws t a e
  | 0, a, b, h1, h2, h3, h => ⟨b, h1, h2, h, fun z => absurd z (by omega)⟩
  | n + 1, a, b, h1, h2, h3, h => by
    by_cases c : sub t a (b + 1) ∈ ws
    · exact LE.get ws t n a (b + 1) (by omega) (by omega) (by omega) fun j j1 j2 => by
        rcases Nat.lt_or_ge b j with z | z
        · rw [show j = b + 1 by omega]; exact c
        · exact h j j1 z
    · exact ⟨b, h1, h2, h, fun _ => c⟩
theorem LE.ex (ws : List (List Nat)) (t : List Nat) (a : Nat) (h : a ≤ t.length) : ∃ e, LE ws t a e := LE.get ws t _ a a (Nat.le_refl _) h rfl fun j j1 j2 => absurd j1 (by omega)
section
variable {P : Program} {w : World} {K : PySem.W.Frag} {mg : Str → Option Value} {base : Heap}
def spLongest : Sp := fun vs H Q _ => ∃ d ws t a, vs = [.ref d, .str (S t), .int ((a : Nat) : Int)] ∧ H d = some (.dK (numFrom 0 ws)) ∧ a ≤ t.length ∧ t.length ≤ 100000 ∧
  ∀ e : Nat, LE ws t a e → Q (.int ((e : Nat) : Int)) H
theorem sc_longest : FnScope ["numbers", "text", "at", "end"] ["numbers", "text", "at"] (defScope s_longest_end) := ⟨rfl, rfl, rfl, by decide +kernel, rfl, by decide +kernel, by decide +kernel⟩
theorem ok_longest {f : Addr} {fd : FuncData} (F : Fun K "longest_end" "longest_end" s_longest_end f fd) (ml : mg "len" = none) : FnOk P w K mg base CX0 1 f fd ["numbers", "text", "at"] spLongest := by
  refine F.ok sc_longest (fun vs H Q E h => ?_) (fun cdv A outer s H vs Q E hr h => ?_)
  · obtain ⟨d, ws, t, a, rfl, _⟩ := h
    rfl
  · obtain ⟨d, ws, t, a, rfl, hd, ha, ht, q⟩ := h
    have nd := sc_longest.nd
    have hu := hu_of hr
    have hts : (S t).length ≤ sizeLine := by rw [SX.S_len]; exact Nat.le_trans ht (by decide)
    refine ⟨_, pss_cons (ps_set (i := 3) nd rfl (Or.inl rfl) (pv 2))
      (pss_cons (ps_while PassesOwn.never (PW.pt (pw_and (pt_cmpR op_lt (pv 3) (pe_callB call_len_str (by rfl) ml PySem.boot_len (pa_cons (pv 1) pa_nil)) (nomark _))
          (pw_and1 (pt_cmp (pc_din hu (pe_slice C8.sl_txt (pv 1) (po_some (pv 2)) (po_some (pe_op op_add (pv 3) pe_int))) (pv 0))))))
        (pss_one (ps_aug (i := 3) nd rfl (Or.inl rfl) pe_int ip_add)))
      (pss_one (ps_ret (pv 3)))), ?_⟩
    refine ⟨_, rfl, fun m σ H1 => ∃ b : Nat, H1 = H ∧ σ = [some (.ref d), some (.str (S t)), some (.int (a : Nat)), some (.int (b : Nat))] ∧ m = t.length - b ∧ a ≤ b ∧ b ≤ t.length ∧ ∀ j, a < j → j ≤ b → sub t a j ∈ ws,
      ⟨_, a, rfl, rfl, rfl, Nat.le_refl _, ha, fun j j1 j2 => absurd j1 (by omega)⟩, ?_⟩
    rintro m σ H1 ⟨b, rfl, rfl, rfl, hab, hb, hall⟩
    refine ⟨_, rfl, _, rfl, S t, rfl, hts, _, _, rfl, rfl, _, rfl, ?_⟩
    rw [SX.S_len]
    refine ite2 (fun g => ?_) (fun g => ?_)
    · have g1 : b < t.length := by have z := of_decide_eq_true g; omega
      refine ⟨_, rfl, _, rfl, _, rfl, _, rfl, _, _, rfl, rfl, _, rfl, S t, rfl, hts, ?_⟩
      rw [slice_sub (by omega) (by omega) (by omega), show ((a : Nat) : Int).toNat = a by omega, show ((b : Nat) + 1 : Int).toNat = b + 1 by omega]
      refine ⟨_, rfl, d, _, rfl, DGet.k (k := Sum.inr (S (sub t a (b + 1)))) hd, _, rfl, ?_⟩
      rw [num_is]
      refine ite2 (fun c => ?_) (fun c => ?_)
      · have c1 := of_decide_eq_true c
        refine ⟨fun σ' H' => H' = H1 ∧ σ' = [some (.ref d), some (.str (S t)), some (.int (a : Nat)), some (.int ((b + 1 : Nat) : Int))], fun σ' H' p => ?_, ?_⟩
        · obtain ⟨rfl, rfl⟩ := p
          refine ⟨t.length - (b + 1), by omega, b + 1, rfl, rfl, rfl, by omega, by omega, fun j j1 j2 => ?_⟩
          rcases Nat.lt_or_ge b j with z | z
          · rw [show j = b + 1 by omega]; exact c1
          · exact hall j j1 z
        · exact ⟨_, rfl, _, _, rfl, rfl, rfl, rfl⟩
      · have c1 := of_decide_eq_false (Bool.eq_false_iff.mpr c)
        exact ⟨_, rfl, q b ⟨hab, hb, hall, fun _ => c1⟩⟩
    · have g1 : b = t.length := by
        have z : ¬ ((b : Int) < t.length) := fun c => g (decide_eq_true c)
        omega
      exact ⟨_, rfl, q b ⟨hab, hb, hall, fun z => absurd z (by omega)⟩⟩
end
end Lk
end
section
set_option maxRecDepth 100000
set_option maxHeartbeats 2000000
namespace Lk
open PySem PySem.Spec PyProof.Rows L2
def isWord (l : List Nat) : Bool := isAz l && decide (0 < l.length)
/-- is_word of v is b -/
inductive WordV (H : Hp) : V → Bool → Prop where
  | str (l : List Nat) (h : l.length ≤ 100000) : WordV H (.str (S l)) (isWord l)
  | oth {v : V} (h : NoStr H v) : WordV H v false
theorem WordV.same {H H' : Hp} {v : V} {b : Bool} (h : WordV H v b) (s : Same H H') : WordV H' v b := by
  cases h with
  | str l z => exact .str l z
  | oth z => exact .oth (z.same s)
/-- what is no tuple -/
inductive NoTup (H : Hp) : V → Prop where
  | non : NoTup H .non
  | bl (b : Bool) : NoTup H (.bl b)
  | int (i : Int) : NoTup H (.int i)
  | str (z : Str) : NoTup H (.str z)
  | lst {a : Addr} {xs : List V} (e : H a = some (.lst xs)) : NoTup H (.ref a)
  | dK {a : Addr} {kvs : List (Key × V)} (e : H a = some (.dK kvs)) : NoTup H (.ref a)
theorem NoTup.same {H H' : Hp} {v : V} (h : NoTup H v) (s : Same H H') : NoTup H' v := by
  cases h with
  | non => exact .non
  | bl b => exact .bl b
  | int i => exact .int i
  | str z => exact .str z
  | lst e => exact .lst (s _ _ e)
  | dK e => exact .dK (s _ _ e)
theorem NoTup.ty {K : PySem.W.Frag} {H : Hp} {v : V} (h : NoTup H v) : ∃ n, TyX K H v (.type n) ∧ kitB n "tuple" = some false := by
  cases h with
  | non => exact ⟨"NoneType", .base .non, by decide +kernel⟩
  | bl b => exact ⟨"bool", .base (.bl b), by decide +kernel⟩
  | int i => exact ⟨"int", .base (.int i), by decide +kernel⟩
  | str z => exact ⟨"str", .base (.str z), by decide +kernel⟩
  | lst e => exact ⟨"list", .base (.lst e), by decide +kernel⟩
  | dK e => exact ⟨"dict", .base (.dK e), by decide +kernel⟩
/-- rising, as texts -/
def Rise : List (List Nat) → Bool
  | [] => true
  | [_] => true
  | a :: b :: r => decide (a < b) && Rise (b :: r)
/-- with each word also the word without its last letter -/
def Clos (ws : List (List Nat)) : Bool := ws.all fun l => decide (l.take (l.length - 1) ∈ ([] : List Nat) :: ws)
def isKnown (ws : List (List Nat)) : Bool := ws.all isWord && (Rise ws && Clos ws)
/-- is_known of v is b -/
inductive KnownV (H : Hp) : V → Bool → Prop where
  | no {v : V} (h : NoTup H v) : KnownV H v false
  | bad {a : Addr} {xs : List V} {bs : List Bool} (e : H a = some (.tup xs)) (hl : xs.length ≤ 100000) (h : bs.length = xs.length) (hw : ∀ (i : Nat) (x : V) (b : Bool), xs[i]? = some x → bs[i]? = some b → WordV H x b) (hb : bs.all id = false) : KnownV H (.ref a) false
  | tup {a : Addr} {ws : List (List Nat)} (e : H a = some (.tup (tx ws))) (hl : ws.length ≤ 100000) (h : ∀ x ∈ ws, x.length ≤ 100000) : KnownV H (.ref a) (isKnown ws)
theorem KnownV.same {H H' : Hp} {v : V} {b : Bool} (h : KnownV H v b) (s : Same H H') : KnownV H' v b := by
  cases h with
  | no h => exact .no (h.same s)
  | bad e hl h hw hb => exact .bad (s _ _ e) hl h (fun i x b hx hb => (hw i x b hx hb).same s) hb
  | tup e hl h => exact .tup (s _ _ e) hl h
section
variable {P : Program} {w : World} {K : PySem.W.Frag} {mg : Str → Option Value} {base : Heap}
def spWord : Sp := fun vs H Q _ => ∃ v b, vs = [v] ∧ WordV H v b ∧ ∀ H', Same H H' → Q (.bl b) H'
theorem sc_word : FnScope ["thing"] ["thing"] (defScope s_is_word) := ⟨rfl, rfl, rfl, by decide +kernel, rfl, by decide +kernel, by decide +kernel⟩
theorem ok_word {f : Addr} {fd : FuncData} (F : Fun K "is_word" "is_word" s_is_word f fd) (cl : C8.Cal P w K mg base 1 "is_letters" spLetters []) (ml : mg "len" = none) : FnOk P w K mg base CX0 2 f fd ["thing"] spWord := by
  refine F.ok sc_word (fun vs H Q E h => ?_) (fun cdv A outer s H vs Q E hr h => ?_)
  · obtain ⟨v, b, rfl, _⟩ := h
    rfl
  · obtain ⟨v, b, rfl, hv, q⟩ := h
    refine ⟨_, pss_one (ps_ret (pe_and (C8.pe_c cl hr (Nat.le_refl _) rfl (pa_cons (pv 0) pa_nil))
      (pe_one (pe_cmpR op_gt (pe_callB call_len_str (by rfl) ml PySem.boot_len (pa_cons (pv 0) pa_nil)) pe_int (nomark _))))), ?_⟩
    cases hv with
    | oth h =>
      refine ⟨_, rfl, _, _, rfl, .oth h, fun H1 s1 => ⟨_, rfl, ?_⟩⟩
      exact q H1 s1
    | str l hl =>
      refine ⟨_, rfl, _, _, rfl, .str l hl, fun H1 s1 => ⟨_, rfl, ?_⟩⟩
      unfold isWord at q
      cases e : isAz l with
      | false =>
        rw [e] at q
        exact q H1 s1
      | true =>
        rw [e, Bool.true_and] at q
        refine ⟨_, rfl, S l, rfl, (by rw [SX.S_len]; exact Nat.le_trans hl (by decide)), _, _, rfl, rfl, ?_⟩
        rw [SX.S_len]
        have e2 : decide ((l.length : Int) > 0) = decide (0 < l.length) := by
          by_cases c : 0 < l.length
          · rw [decide_eq_true c, decide_eq_true (by omega)]
          · rw [decide_eq_false c, decide_eq_false (by omega)]
        show Q (.bl (decide ((l.length : Int) > 0))) H1
        rw [e2]
        exact q H1 s1
theorem walk_zipT {a b : Addr} {xs ys : List V} {n : Nat} (hn : n = min xs.length ys.length) : Walk (RZ.ItzT K a b) n (fun H => SqT K H a xs ∧ SqT K H b ys) (YPair (fun i => xs[i]?) (fun i => ys[i]?)) := by
  subst hn
  refine ⟨fun i _ hi q => ?_, fun _ q => ⟨xs, ys, q.1, q.2, by omega⟩, fun i H v H' _ q y => ?_⟩
  · have h1 : i < xs.length := by omega
    have h2 : i < ys.length := by omega
    exact ⟨xs, ys, xs[i], ys[i], q.1, q.2, by simp [h1], by simp [h2]⟩
  · obtain ⟨T, x, z, h1, h2, h3, h4, h5⟩ := y
    exact ⟨T, x, z, h1, h2, h3, h4 xs q.1, h5 ys q.2⟩
end
end Lk
end
section
set_option maxRecDepth 100000
set_option maxHeartbeats 2000000
namespace Lk
open PySem PySem.Spec PyProof.Rows L2
/-- t[1:] of a tuple: all but its first, new or not -/
def rTail (K : PySem.W.Frag) : V → Option Int → Option Int → Hp → VK → Prop := fun x lo hi H Q => ∃ a xs, x = .ref a ∧ lo = some 1 ∧ hi = none ∧ SqT K H a xs ∧ ∀ b H', Same H H' → SqT K H' b (xs.drop 1) → Q (.ref b) H'
theorem sl_tail {X : Cx} : SlR X (rTail X.K) := by
  intro pins s σ H x v vl vu lo hi sl Q I rx hs pl pu h
  obtain ⟨a, xs, rfl, rfl, rfl, hx, q⟩ := h
  refine sl_tupA pins s σ H _ v vl vu _ _ sl Q I rx hs pl pu ⟨a, xs, rfl, hx, fun z => ?_, fun z p hp => ?_⟩
  · have e : min 1 xs.length = 0 := z.1
    have e2 : xs = [] := List.eq_nil_of_length_eq_zero (by omega)
    subst e2
    exact q a H (Same.refl H) hx
  · refine q p _ (same_new hp) (.inl (.inl ?_))
    rw [upd_same]
    have e : cutV xs (some 1) none = xs.drop 1 := by
      show (xs.drop (min 1 xs.length)).take (xs.length - min 1 xs.length) = xs.drop 1
      cases xs with
      | nil => rfl
      | cons x r =>
        rw [List.length_cons, show min 1 (r.length + 1) = 1 by omega]
        exact List.take_of_length_le (by rw [List.length_drop, List.length_cons] <;> omega)
    rw [e]
def risebs (ws : List (List Nat)) : List Bool := (ws.zip (ws.drop 1)).map fun p => decide (p.1 < p.2)
theorem rise_all : ∀ ws : List (List Nat), (risebs ws).all id = Rise ws
  | [] => rfl
  | [_] => rfl
  | a :: b :: r => by
    show (decide (a < b) && (risebs (b :: r)).all id) = (decide (a < b) && Rise (b :: r))
    rw [rise_all (b :: r)]
theorem rise_pair : ∀ {ws : List (List Nat)}, Rise ws = true → ws.Pairwise (· < ·)
  | [], _ => List.Pairwise.nil
  | [a], _ => List.pairwise_singleton _ a
  | a :: b :: r, h => by
    have h' : (decide (a < b) && Rise (b :: r)) = true := h
    rw [Bool.and_eq_true, decide_eq_true_eq] at h'
    have ih := rise_pair h'.2
    refine List.Pairwise.cons (fun y hy => ?_) ih
    rcases List.mem_cons.mp hy with e | e
    · rw [e]; exact h'.1
    · exact List.lt_trans h'.1 ((List.pairwise_cons.mp ih).1 y e)
theorem rise_nodup {ws : List (List Nat)} (h : Rise ws = true) : ws.Nodup :=
  (rise_pair h).imp (S := fun a b => a ≠ b) fun {a b} hl (e : a = b) => List.lt_irrefl b (by rw [e] at hl; exact hl)
theorem isWord_iff {l : List Nat} : isWord l = true ↔ Az l ∧ 0 < l.length := by
  unfold isWord
  rw [Bool.and_eq_true, decide_eq_true_eq, isAz_iff]
theorem word_ne {l : List Nat} (h : isWord l = true) : l ≠ [] := List.ne_nil_of_length_pos (isWord_iff.mp h).2
theorem nodup0 {ws : List (List Nat)} (hw : ws.all isWord = true) (hr : Rise ws = true) : (([] : List Nat) :: ws).Nodup :=
  List.nodup_cons.mpr ⟨fun z => word_ne (List.all_eq_true.mp hw [] z) rfl, rise_nodup hr⟩
theorem tx_at {ws : List (List Nat)} {i : Nat} {x : V} (h : (tx ws)[i]? = some x) : ∃ l, ws[i]? = some l ∧ x = .str (S l) := by
  rw [List.getElem?_map] at h
  cases e : ws[i]? with
  | none => rw [e] at h; cases h
  | some l => rw [e] at h; exact ⟨l, rfl, (Option.some.inj h).symm⟩
/-- a comprehension that gathers truths, its list at D -/
theorem snoc_bl {H4 : Hp} {D : Addr} {bs : List Bool} {i : Nat} {b : Bool} (e : H4 D = some (.lst ((bs.take i).map V.bl))) (hb : bs[i]? = some b) (hl : bs.length ≤ 100000) :
    ∃ acc, H4 D = some (.lst acc) ∧ acc.length < sizeLine ∧ upd H4 D (.lst (acc ++ [V.bl b])) D = some (.lst ((bs.take (i + 1)).map V.bl)) ∧ acc = (bs.take i).map V.bl := by
  refine ⟨_, e, ?_, ?_, rfl⟩
  · rw [List.length_map, List.length_take]
    exact Nat.lt_of_le_of_lt (show min i bs.length ≤ 100000 by omega) (by decide)
  · rw [upd_same, List.take_add_one, hb, List.map_append]
    rfl
section
variable {P : Program} {w : World} {K : PySem.W.Frag} {mg : Str → Option Value} {base : Heap}
def spKnown : Sp := fun vs H Q _ => ∃ v b, vs = [v] ∧ KnownV H v b ∧ ∀ H', Same H H' → Q (.bl b) H'
theorem sc_known : FnScope ["thing", "numbers", "word", "later"] ["thing"] (defScope s_is_known) := ⟨rfl, rfl, rfl, by decide +kernel, rfl, by decide +kernel, by decide +kernel⟩
abbrev nK : List Str := ["thing", "numbers", "word", "later"]
theorem same_push {H H1 : Hp} {D : Addr} {o : HO} (s : Same H H1) (hD : H D = none) : Same H (upd H1 D o) := fun b u e => by
  rw [upd_ne (ne_of_none e hD)]
  exact s b u e
theorem ok_known {f : Addr} {fd : FuncData} (F : Fun K "is_known" "is_known" s_is_known f fd) (cw : C8.Cal P w K mg base 2 "is_word" spWord []) (cn : C8.Cal P w K mg base 1 "numbered" (spNumbered K) [])
    (mi : mg "isinstance" = none) (mt : mg "tuple" = none) (ma : mg "all" = none) (mz : mg "zip" = none) : FnOk P w K mg base CX0 3 f fd ["thing"] spKnown := by
  refine F.ok sc_known (fun vs H Q E h => ?_) (fun cdv A outer s H vs Q E hr h => ?_)
  · obtain ⟨v, b, rfl, _⟩ := h
    rfl
  · obtain ⟨v, b, rfl, hv, q⟩ := h
    have nd := sc_known.nd
    have hu := hu_of hr
    refine ⟨_, pss_cons (by exact (ps_if (PW.pt (pw_or (pt_not (pt_val (pe_callB call_isi (by rfl) mi (by decide +kernel) (pa_cons (pv 0) (pa_cons (pe_bltn (v := .ty "tuple") (by rfl) mt (by decide +kernel) rfl) pa_nil)))))
        (pw_or1 (pt_not (pt_val (pe_callB (cr_all rfl) (by rfl) ma (by decide +kernel) (pa_cons (pe_lc (own := [("word", 2)]) (g := gName 2) (tt := tYes) rfl nd (pi_tup (pv 0)) (blkOk_by (N := nK) (sc := defScope s_is_known) (by decide +kernel))
          (fun _ _ _ _ _ => pg_name (i := 2) nd rfl (Or.inl rfl)) (fun _ _ _ _ _ => pts_nil) (fun _ _ _ _ _ => C8.pe_c cw hr (by decide) rfl (pa_cons (pv 2) pa_nil))) pa_nil))))))) (pss_one (ps_ret pe_bl)) pss_nil))
      (pss_cons (by exact (ps_if (pt_not (pt_val (pe_callB (cr_all rfl) (by rfl) ma (by decide +kernel) (pa_cons (pe_lc (own := [("word", 2), ("later", 3)]) (g := gTup K 2 (gCons (gName 2) (gCons (gName 3) gNil))) (tt := tYes) rfl nd
          (RZ.pi_zipA (by rfl) mz (pa_cons (pv 0) (pa_cons (pe_slice sl_tail (pv 0) (po_some pe_int) po_none) pa_nil))) (blkOk_by (N := nK) (sc := defScope s_is_known) (by decide +kernel))
          (fun _ _ _ _ _ => pg_tup rfl (pgs_cons (pg_name (i := 2) nd rfl (Or.inl rfl)) (pgs_cons (pg_name (i := 3) nd rfl (Or.inl rfl)) pgs_nil))) (fun _ _ _ _ _ => pts_nil) (fun _ _ _ _ _ => pe_cmpR op_lt_str (pv 2) (pv 3) (nomark _))) pa_nil)))) (pss_one (ps_ret pe_bl)) pss_nil))
      (pss_cons (by exact (ps_set (i := 1) nd rfl (Or.inr rfl) (C8.pe_c cn hr (by decide) rfl (pa_cons (pv 0) pa_nil))))
      (pss_one (by exact (ps_ret (pe_callB (cr_all rfl) (by rfl) ma (by decide +kernel) (pa_cons (pe_lc (own := [("word", 2)]) (g := gName 2) (tt := tYes) rfl nd (pi_tup (pv 0)) (blkOk_by (N := nK) (sc := defScope s_is_known) (by decide +kernel))
          (fun _ _ _ _ _ => pg_name (i := 2) nd rfl (Or.inl rfl)) (fun _ _ _ _ _ => pts_nil) (fun _ _ _ _ _ => pe_cmp (pc_din hu (pe_slice C8.sl_txt (pv 2) po_none (po_some (pe_un un_neg pe_int))) (pv 1)) rfl)) pa_nil))))))), ?_⟩
    have split : (NoTup H v ∧ b = false) ∨ ∃ (a : Addr) (xs : List V) (bs : List Bool), v = .ref a ∧ H a = some (.tup xs) ∧ xs.length ≤ 100000 ∧ bs.length = xs.length ∧ (∀ (i : Nat) (x : V) (b : Bool), xs[i]? = some x → bs[i]? = some b → WordV H x b) ∧
        (bs.all id = true → ∃ ws, xs = tx ws ∧ bs = ws.map isWord ∧ (∀ x ∈ ws, x.length ≤ 100000) ∧ b = isKnown ws) ∧ (bs.all id = false → b = false) := by
      cases hv with
      | no h => exact .inl ⟨h, rfl⟩
      | bad e hl h hw hb => exact .inr ⟨_, _, _, rfl, e, hl, h, hw, fun z => (by rw [hb] at z; cases z), fun _ => rfl⟩
      | tup e hl h =>
        rename_i a ws
        refine .inr ⟨_, _, ws.map isWord, rfl, e, by rw [List.length_map]; exact hl, by rw [List.length_map, List.length_map], fun i x b hx hb => ?_, fun _ => ⟨ws, rfl, rfl, h, rfl⟩, fun z => ?_⟩
        · rw [List.getElem?_map] at hx hb
          cases e2 : ws[i]? with
          | none => rw [e2] at hx; cases hx
          | some l =>
            rw [e2] at hx hb
            cases hx
            cases hb
            exact .str l (h l (List.mem_of_getElem? e2))
        · have e2 : (ws.map isWord).all id = ws.all isWord := by rw [List.all_map]; rfl
          rw [e2] at z
          unfold isKnown
          rw [z]
          rfl
    rcases split with ⟨hno, rfl⟩ | ⟨a, xs, bs, rfl, ha, hl, hbl, hw, yes, no⟩
    · obtain ⟨n, ty, kb⟩ := hno.ty (K := K)
      refine ⟨_, rfl, v, .ty "tuple", _, _, false, rfl, .ty _, ty, kit_ty kb, false, rfl, ?_⟩
      exact q H (Same.refl H)
    · clear hv
      refine ⟨_, rfl, .ref a, .ty "tuple", _, _, true, rfl, .ty _, .base (.tup ha), kit_ty (by decide +kernel), true, rfl, ?_⟩
      refine ⟨_, rfl, a, rfl, ⟨xs, SqT.of ha⟩, fun D nD => ?_⟩
      refine lc_it walk_tup (fun i H3 => Same H H3 ∧ H3 D = some (.lst ((bs.take i).map V.bl))) ⟨same_new nD, upd_same⟩ (fun i H3 _ p => SqT.of (p.1 _ _ ha)) ?_ ?_
      · rintro i x H3 H4 hi ⟨s3, e3⟩ ⟨rfl, hx⟩
        obtain ⟨c, hc⟩ : ∃ c, bs[i]? = some c := ⟨bs[i], List.getElem?_eq_getElem (by omega)⟩
        refine ⟨rfl, _, rfl, x, c, rfl, (hw i x c hx hc).same s3, fun H5 s5 => ?_⟩
        obtain ⟨acc, a1, a2, a3, a4⟩ := snoc_bl (H4 := H5) (D := D) (s5 _ _ e3) hc (by omega)
        exact ⟨acc, a1, a2, same_push (s3.trans s5) nD, a3⟩
      · rintro H3 ⟨s3, e3⟩
        rw [← hbl, List.take_length] at e3
        refine ⟨D, bs, rfl, SqL.of e3, ?_⟩
        cases hb : bs.all id with
        | false =>
          have z := no hb
          subst z
          refine ⟨_, rfl, ?_⟩
          exact q H3 s3
        | true =>
          obtain ⟨ws, rfl, rfl, hlen, rfl⟩ := yes hb
          have hb2 : ws.all isWord = true := by rw [← hb, List.all_map]; rfl
          refine ⟨_, rfl, ?_⟩
          have hnw : ∀ l ∈ ws, l ≠ [] := fun l h => word_ne (List.all_eq_true.mp hb2 l h)
          have hl2 : ws.length ≤ 100000 := by rw [List.length_map] at hl; exact hl
          have hsz : ∀ l ∈ ws, (S l).length ≤ sizeLine := fun l h => by rw [SX.S_len]; exact Nat.le_trans (hlen l h) (by decide)
          clear hw yes no hb hbl e3
          -- not all of the pairs that stand one behind the other
          have h3 : H3 a = some (.tup (tx ws)) := s3 _ _ ha
          refine ⟨_, rfl, _, rfl, _, rfl, a, tx ws, rfl, rfl, rfl, SqT.of h3, fun a2 H4 s4 hT2 => ⟨a, a2, tx ws, (tx ws).drop 1, rfl, .inr ⟨SqT.of (s4 _ _ h3), hT2, fun D2 nD2 => ?_⟩⟩⟩
          have s34 := s3.trans s4
          have hrl : (risebs ws).length = min (tx ws).length ((tx ws).drop 1).length := by
            unfold risebs
            rw [List.length_map, List.length_zip, List.length_drop, List.length_drop, List.length_map]
          have hrl2 : (risebs ws).length ≤ 100000 := by
            rw [hrl, List.length_map]
            omega
          refine lc_it (walk_zipT hrl) (fun i H5 => Same H4 H5 ∧ H5 D2 = some (.lst (((risebs ws).take i).map V.bl))) ⟨same_new nD2, upd_same⟩ (fun i H5 _ p => ⟨SqT.of (p.1 _ _ (s4 _ _ h3)), SqT_same hT2 p.1⟩) ?_ ?_
          · rintro i x H5 H6 hi ⟨s5, e5⟩ ⟨T, x1, x2, rfl, nT, rfl, hx1, hx2⟩
            obtain ⟨l1, hl1, rfl⟩ := tx_at (show (tx ws)[i]? = some x1 from hx1)
            obtain ⟨l2, hl2', rfl⟩ := tx_at (ws := ws.drop 1) (x := x2) (by rw [tx, List.map_drop]; exact hx2)
            have hc : (risebs ws)[i]? = some (decide (l1 < l2)) := by
              unfold risebs
              rw [List.getElem?_map, List.getElem?_zip_eq_some (z := (l1, l2)).mpr ⟨hl1, hl2'⟩]
              rfl
            refine ⟨T, [.str (S l1), .str (S l2)], rfl, SqT.of upd_same, rfl, _, _, rfl, _, _, rfl, rfl, rfl, _, rfl, _, rfl, _, _, rfl, rfl, ?_⟩
            obtain ⟨acc, a1, a2, a3, a4⟩ := snoc_bl (H4 := upd H5 T (.tup [.str (S l1), .str (S l2)])) (D := D2) (by rw [upd_ne (ne_of_none e5 nT)]; exact e5) hc hrl2
            exact ⟨acc, a1, a2, same_push (s5.trans (same_new nT)) nD2, a3⟩
          · rintro H5 ⟨s5, e5⟩
            rw [List.take_length] at e5
            refine ⟨D2, _, rfl, SqL.of e5, ?_⟩
            rw [rise_all]
            have s35 := s34.trans s5
            cases hri : Rise ws with
            | false =>
              refine ⟨_, rfl, ?_⟩
              have z : isKnown ws = false := by unfold isKnown; rw [hri, hb2]; rfl
              rw [z] at q
              exact q H5 s35
            | true =>
              refine ⟨_, rfl, _, rfl, a, ws, rfl, SqT.of (s5 _ _ (s4 _ _ h3)), nodup0 hb2 hri, hl2, fun p H6 np hp s6 => ?_⟩
              have s36 := s35.trans s6
              have hz : isKnown ws = Clos ws := by unfold isKnown; rw [hri, hb2]; rfl
              rw [hz] at q
              refine ⟨_, rfl, a, rfl, ⟨_, SqT.of (s36 _ _ ha)⟩, fun D3 nD3 => ?_⟩
              have hcl : (ws.map fun l => decide (l.take (l.length - 1) ∈ ([] : List Nat) :: ws)).length ≤ 100000 := by rw [List.length_map]; exact hl2
              refine lc_it walk_tup (fun i H7 => Same H6 H7 ∧ H7 D3 = some (.lst (((ws.map fun l => decide (l.take (l.length - 1) ∈ ([] : List Nat) :: ws)).take i).map V.bl))) ⟨same_new nD3, upd_same⟩ (fun i H7 _ z => SqT.of (z.1 _ _ (s36 _ _ ha))) ?_ ?_
              · rintro i x H7 H8 hi ⟨s7, e7⟩ ⟨rfl, hx⟩
                obtain ⟨l, hl', rfl⟩ := tx_at hx
                have hm : l ∈ ws := List.mem_of_getElem? hl'
                have hc : (ws.map fun l => decide (l.take (l.length - 1) ∈ ([] : List Nat) :: ws))[i]? = some (decide (l.take (l.length - 1) ∈ ([] : List Nat) :: ws)) := by
                  rw [List.getElem?_map, hl']
                  rfl
                refine ⟨rfl, _, rfl, _, rfl, _, rfl, S l, rfl, hsz l hm, ?_⟩
                rw [show (-(1 : Int)) = -1 from rfl, SX.slice_butlast (hnw l hm)]
                refine ⟨_, rfl, p, _, rfl, DGet.k (k := Sum.inr (S (l.take (l.length - 1)))) (s7 _ _ hp), ?_⟩
                rw [num_is]
                obtain ⟨acc, a1, a2, a3, a4⟩ := snoc_bl (H4 := H8) (D := D3) e7 hc hcl
                exact ⟨acc, a1, a2, same_push s7 nD3, a3⟩
              · rintro H7 ⟨s7, e7⟩
                rw [show (tx ws).length = (ws.map fun l => decide (l.take (l.length - 1) ∈ ([] : List Nat) :: ws)).length by rw [List.length_map, List.length_map], List.take_length] at e7
                refine ⟨D3, _, rfl, SqL.of e7, ?_⟩
                rw [List.all_map]
                exact q H7 (s36.trans s7)
end
end Lk
end
section
set_option maxRecDepth 100000
set_option maxHeartbeats 2000000
namespace Lk
open PySem PySem.Spec PyProof.Rows L2
theorem KnownV.words {H : Hp} {v : V} {b : Bool} (h : KnownV H v b) (hb : b = true) : ∃ a ws, v = .ref a ∧ H a = some (.tup (tx ws)) ∧ isKnown ws = true ∧ ws.length ≤ 100000 := by
  cases h with
  | no h => cases hb
  | bad e hl h hw hb' => cases hb
  | tup e hl h => exact ⟨_, _, rfl, e, hb, hl⟩
def isText (l : List Nat) : Bool := isAz l && decide (l.length ≤ 2000)
/-- whether v is a text that a learner may read is b -/
inductive TextV (H : Hp) : V → Bool → Prop where
  | str (l : List Nat) (h : l.length ≤ 100000) : TextV H (.str (S l)) (isText l)
  | oth {v : V} (h : NoStr H v) : TextV H v false
theorem TextV.same {H H' : Hp} {v : V} {b : Bool} (h : TextV H v b) (s : Same H H') : TextV H' v b := by
  cases h with
  | str l z => exact .str l z
  | oth z => exact .oth (z.same s)
theorem TextV.text {H : Hp} {v : V} {b : Bool} (h : TextV H v b) (hb : b = true) : ∃ l, v = .str (S l) ∧ isText l = true := by
  cases h with
  | str l z => exact ⟨l, rfl, hb⟩
  | oth z => cases hb
theorem isText_iff {l : List Nat} : isText l = true ↔ Az l ∧ l.length ≤ 2000 := by
  unfold isText
  rw [Bool.and_eq_true, decide_eq_true_eq, isAz_iff]
theorem isKnown_iff {ws : List (List Nat)} : isKnown ws = true ↔ ws.all isWord = true ∧ Rise ws = true ∧ Clos ws = true := by
  unfold isKnown
  rw [Bool.and_eq_true, Bool.and_eq_true]
/-- from at on a text is read into these new words; the rest begins at r -/
inductive Reads : List (List Nat) → List Nat → Nat → List (List Nat) → Nat → Prop where
  | done {ws : List (List Nat)} {t : List Nat} {a : Nat} (h : LE ws t a t.length) : Reads ws t a [] a
  | more {ws : List (List Nat)} {t : List Nat} {a e r : Nat} {ns : List (List Nat)} (h : LE ws t a e) (he : e < t.length) (hr : Reads (ws ++ [sub t a (e + 1)]) t (e + 1) ns r) : Reads ws t a (sub t a (e + 1) :: ns) r
section
variable {P : Program} {w : World} {K : PySem.W.Frag} {mg : Str → Option Value} {base : Heap}
def spRefK (C : Addr) : Sp := fun vs H Q E => ∃ v b, vs = [v] ∧ KnownV H v b ∧ (b = true → ∀ H', Same H H' → Q .non H') ∧ (b = false → ∀ H', Same H H' → E (.ref C) none H')
theorem sc_refK : FnScope ["known"] ["known"] (defScope s_refuse_unknown) := ⟨rfl, rfl, rfl, by decide +kernel, rfl, by decide +kernel, by decide +kernel⟩
theorem ok_refK {f C : Addr} {fd : FuncData} (F : Fun K "refuse_unknown" "refuse_unknown" s_refuse_unknown f fd) (cl : C8.Cal P w K mg base 3 "is_known" spKnown []) (T : ErrC K mg "NoKnown" C) : FnOk P w K mg base (L2.CX P w) 4 f fd ["known"] (spRefK C) := by
  refine F.okX sc_refK (fun vs H Q E h => ?_) (fun cdv A outer s H vs Q E hr h => ?_)
  · obtain ⟨v, b, rfl, _⟩ := h
    rfl
  · obtain ⟨v, b, rfl, hv, q0, q1⟩ := h
    refine ⟨_, pss_one (ps_if (pt_not (pt_val (C8.pe_c cl hr (Nat.le_refl _) rfl (pa_cons (pv 0) pa_nil))))
      (pss_one (ps_raise rfl (takes_of rfl rfl rfl rfl) (pmk_own PySem.F.excBase_ValueError T.x T.g T.k (raises_own T.b T.t) rfl))) pss_nil), ?_⟩
    refine ⟨_, rfl, v, b, rfl, hv, fun H1 s1 => ⟨b, rfl, ?_⟩⟩
    cases b with
    | true => exact q0 rfl H1 s1
    | false => exact q1 rfl H1 s1
def spRefT (C : Addr) : Sp := fun vs H Q E => ∃ v b, vs = [v] ∧ TextV H v b ∧ (b = true → ∀ H', Same H H' → Q .non H') ∧ (b = false → ∀ H', Same H H' → E (.ref C) none H')
theorem sc_refT : FnScope ["text"] ["text"] (defScope s_refuse_no_text) := ⟨rfl, rfl, rfl, by decide +kernel, rfl, by decide +kernel, by decide +kernel⟩
theorem ok_refT {f C : Addr} {fd : FuncData} (F : Fun K "refuse_no_text" "refuse_no_text" s_refuse_no_text f fd) (cl : C8.Cal P w K mg base 1 "is_letters" spLetters []) (T : ErrC K mg "NoText" C) (ml : mg "len" = none) {tp : Tok} (mp : mg "MOST_LETTERS" = some (.int 2000 tp)) : FnOk P w K mg base (L2.CX P w) 2 f fd ["text"] (spRefT C) := by
  refine F.okX sc_refT (fun vs H Q E h => ?_) (fun cdv A outer s H vs Q E hr h => ?_)
  · obtain ⟨v, b, rfl, _⟩ := h
    rfl
  · obtain ⟨v, b, rfl, hv, q0, q1⟩ := h
    refine ⟨_, pss_one (by exact (ps_if (PW.pt (pw_or (pt_not (pt_val (C8.pe_c cl hr (Nat.le_refl _) rfl (pa_cons (pv 0) pa_nil)))) (pw_or1 (pt_cmpR op_gt (pe_callB call_len_str (by rfl) ml PySem.boot_len (pa_cons (pv 0) pa_nil)) (pe_glob (v := .int 2000) rfl mp ⟨_, rfl⟩) (nomark _)))))
      (pss_one (ps_raise rfl (takes_of rfl rfl rfl rfl) (SkE.pmk_own1 PySem.F.excBase_ValueError T.x T.g T.k (raises_own T.b T.t) rfl
        (pe_joined (.cons pe_str (.cons (pe_fmt (pe_glob (v := .int 2000) rfl mp ⟨_, rfl⟩)) .nil)))))) pss_nil)), ?_⟩
    cases hv with
    | oth h =>
      refine ⟨_, rfl, v, false, rfl, .oth h, fun H1 s1 => ⟨_, rfl, ?_⟩⟩
      refine ⟨_, rfl, (by decide +kernel), .inr ⟨2000, rfl, (by decide +kernel), _, rfl, (by decide +kernel), ?_⟩⟩
      exact q1 rfl H1 s1
    | str l hl =>
      refine ⟨_, rfl, _, _, rfl, .str l hl, fun H1 s1 => ⟨_, rfl, ?_⟩⟩
      unfold isText at q0 q1
      cases e : isAz l with
      | false =>
        rw [e] at q1
        refine ⟨_, rfl, (by decide +kernel), .inr ⟨2000, rfl, (by decide +kernel), _, rfl, (by decide +kernel), ?_⟩⟩
        exact q1 rfl H1 s1
      | true =>
        rw [e, Bool.true_and] at q0 q1
        refine ⟨_, rfl, S l, rfl, (by rw [SX.S_len]; exact Nat.le_trans hl (by decide)), _, _, rfl, rfl, _, rfl, ?_⟩
        rw [SX.S_len]
        refine ite2 (fun g => ?_) (fun g => ?_)
        · refine ⟨_, rfl, (by decide +kernel), .inr ⟨2000, rfl, (by decide +kernel), _, rfl, (by decide +kernel), ?_⟩⟩
          have z := of_decide_eq_true g
          exact q1 (decide_eq_false (by omega)) H1 s1
        · have z : ¬ ((l.length : Int) > 2000) := fun c => g (decide_eq_true c)
          exact q0 (decide_eq_true (by omega)) H1 s1
def spRead (CK CT : Addr) : Sp := fun vs H Q E => ∃ kv tv b1 b2, vs = [kv, tv] ∧ KnownV H kv b1 ∧ TextV H tv b2 ∧ (b1 = false → ∀ H', Same H H' → E (.ref CK) none H') ∧ (b1 = true → b2 = false → ∀ H', Same H H' → E (.ref CT) none H') ∧
  (b1 = true → b2 = true → ∀ a ws t, kv = .ref a → H a = some (.tup (tx ws)) → isKnown ws = true → tv = .str (S t) → ∀ ns r, Reads ([] :: ws) t 0 ns r → r ≤ t.length →
    ∀ d p H', Same H H' → H d = none → H' d = some (.dK (numFrom 0 (([] :: ws) ++ ns))) → H' p = some (.tup [.ref d, .str (S (t.drop r))]) → Q (.ref p) H')
end
end Lk
end
section
set_option maxRecDepth 100000
set_option maxHeartbeats 2000000
namespace Lk
open PySem PySem.Spec PyProof.Rows L2
abbrev nR : List Str := ["known", "text", "numbers", "at", "end"]
section
variable {P : Program} {w : World} {K : PySem.W.Frag} {mg : Str → Option Value} {base : Heap}
theorem sc_read : FnScope nR ["known", "text"] (defScope s_read_text) := ⟨rfl, rfl, rfl, by decide +kernel, rfl, by decide +kernel, by decide +kernel⟩
theorem ok_read {f CK CT : Addr} {fd : FuncData} (F : Fun K "read_text" "read_text" s_read_text f fd) (ck : CalX P w K mg base 4 "refuse_unknown" (spRefK CK)) (ct : CalX P w K mg base 2 "refuse_no_text" (spRefT CT))
    (cn : C8.Cal P w K mg base 1 "numbered" (spNumbered K) []) (cl : C8.Cal P w K mg base 1 "longest_end" spLongest []) (ml : mg "len" = none) : FnOk P w K mg base (L2.CX P w) 5 f fd ["known", "text"] (spRead CK CT) := by
  refine F.okX sc_read (fun vs H Q E h => ?_) (fun cdv A outer s H vs Q E hr h => ?_)
  · obtain ⟨v, u, b, c, rfl, _⟩ := h
    rfl
  · obtain ⟨kv, tv, b1, b2, rfl, hk, ht, q1, q2, q3⟩ := h
    have nd := sc_read.nd
    have hu := hu_of hr
    refine ⟨_, pss_cons (by exact (ps_expr (pe_cX ck (takes_of rfl rfl rfl rfl) hr (by decide) rfl (pa_cons (pv 0) pa_nil))))
      (pss_cons (by exact (ps_expr (pe_cX ct (takes_of rfl rfl rfl rfl) hr (by decide) rfl (pa_cons (pv 1) pa_nil))))
      (pss_cons (by exact (ps_set (i := 2) nd rfl (Or.inl rfl) (C8.pe_c cn hr (by decide) rfl (pa_cons (pv 0) pa_nil))))
      (pss_cons (by exact (ps_set (i := 3) nd rfl (Or.inl rfl) pe_int))
      (pss_cons (by exact (ps_set (i := 4) nd rfl (Or.inl rfl) (C8.pe_c cl hr (by decide) rfl (pa_cons (pv 2) (pa_cons (pv 1) (pa_cons (pv 3) pa_nil))))))
      (pss_cons (by exact (ps_while (passes_of rfl) (pt_cmpR op_lt (pv 4) (pe_callB call_len_str (by rfl) ml PySem.boot_len (pa_cons (pv 1) pa_nil)) (nomark _))
        (by exact (pss_cons (by exact (ps_dput hu (pv 2) (pe_slice C8.sl_txt (pv 1) (po_some (pv 3)) (po_some (pe_op op_add (pv 4) pe_int))) (pe_callB call_lenD (by rfl) ml PySem.boot_len (pa_cons (pv 2) pa_nil)) rfl))
          (pss_cons (by exact (ps_set (i := 3) nd rfl (Or.inl rfl) (pe_op op_add (pv 4) pe_int)))
          (pss_one (by exact (ps_set (i := 4) nd rfl (Or.inl rfl) (C8.pe_c cl hr (by decide) rfl (pa_cons (pv 2) (pa_cons (pv 1) (pa_cons (pv 3) pa_nil))))))))))))
      (pss_one (by exact (ps_ret (pe_tup (pa_cons (pv 2) (pa_cons (pe_slice C8.sl_txt (pv 1) (po_some (pv 3)) po_none) pa_nil))))))))))), ?_⟩
    refine ⟨_, rfl, kv, b1, rfl, hk, fun hb H1 s1 => ?_, fun hb H1 s1 => q1 hb H1 s1⟩
    refine ⟨_, rfl, tv, b2, rfl, ht.same s1, fun hb2 H2 s2 => ?_, fun hb2 H2 s2 => q2 hb hb2 H2 (s1.trans s2)⟩
    have s12 := s1.trans s2
    obtain ⟨a, ws, rfl, ha, hks, hwl⟩ := hk.words hb
    obtain ⟨t, rfl, htx⟩ := ht.text hb2
    obtain ⟨az, t2000⟩ := isText_iff.mp htx
    obtain ⟨k1, k2, k3⟩ := isKnown_iff.mp hks
    have q := q3 hb hb2 a ws t rfl ha hks rfl
    clear q1 q2 q3 hk ht
    have hts : (S t).length ≤ sizeLine := by rw [SX.S_len]; exact Nat.le_trans t2000 (by decide)
    refine ⟨_, rfl, a, ws, rfl, SqT.of (s12 _ _ ha), nodup0 k1 k2, hwl, fun d H3 nd3 hd s3 => ?_⟩
    have s13 := s12.trans s3
    have ndH : H d = none := by
      cases e : H d with
      | none => rfl
      | some o =>
        have z := s12 _ _ e
        rw [nd3] at z
        cases z
    refine ⟨_, rfl, _, rfl, _, rfl, d, _, t, 0, rfl, hd, Nat.zero_le _, Nat.le_trans t2000 (by decide), fun e0 he0 => ?_⟩
    refine ⟨fun m σ H4 => ∃ (done : List (List Nat)) (b e : Nat), σ = [some (.ref a), some (.str (S t)), some (.ref d), some (.int (b : Nat)), some (.int (e : Nat))] ∧ m = t.length - b ∧ Same H H4 ∧ H4 d = some (.dK (numFrom 0 (([] :: ws) ++ done))) ∧
        done.length ≤ b ∧ LE (([] :: ws) ++ done) t b e ∧ ∀ ns r, Reads (([] :: ws) ++ done) t b ns r → Reads ([] :: ws) t 0 (done ++ ns) r,
      ⟨_, [], 0, e0, rfl, rfl, s13, by rw [List.append_nil]; exact hd, Nat.le_refl _, by rw [List.append_nil]; exact he0, fun ns r z => by rw [List.append_nil] at z; exact z⟩, ?_⟩
    rintro m σ H4 ⟨done, b, e, rfl, rfl, s4, e4, hdl, he, hgo⟩
    refine ⟨_, rfl, _, rfl, S t, rfl, hts, _, _, rfl, rfl, _, rfl, ?_⟩
    rw [SX.S_len]
    have hbe := he.ge
    have het := he.le
    refine ite2 (fun g => ?_) (fun g => ?_)
    · have g1 : e < t.length := by have z := of_decide_eq_true g; omega
      have nin := he.no g1
      refine ⟨fun σ' H' => ∃ e', σ' = [some (.ref a), some (.str (S t)), some (.ref d), some (.int ((e + 1 : Nat) : Int)), some (.int ((e' : Nat) : Int))] ∧ Same H H' ∧ H' d = some (.dK (numFrom 0 (([] :: ws) ++ (done ++ [sub t b (e + 1)])))) ∧ LE (([] :: ws) ++ (done ++ [sub t b (e + 1)])) t (e + 1) e', fun σ' H' p => ?_, ?_⟩
      · obtain ⟨e', rfl, s5, e5, he'⟩ := p
        refine ⟨t.length - (e + 1), by omega, done ++ [sub t b (e + 1)], e + 1, e', rfl, rfl, s5, e5, ?_, he', fun ns r z => ?_⟩
        · rw [List.length_append, List.length_singleton]
          omega
        · rw [List.append_assoc]
          exact hgo _ _ (.more he g1 (by rw [List.append_assoc]; exact z))
      · refine ⟨_, rfl, d, _, rfl, e4, _, rfl, _, rfl, _, rfl, _, rfl, _, rfl, _, _, rfl, rfl, _, rfl, S t, rfl, hts, ?_⟩
        rw [slice_sub (by omega) (by omega) (by omega), show ((b : Nat) : Int).toNat = b by omega, show ((e : Nat) + 1 : Int).toNat = e + 1 by omega]
        refine ⟨d, _, rfl, DPut.k (k := Sum.inr (S (sub t b (e + 1)))) e4 ?_, ?_⟩
        · rw [num_len, List.length_append, List.length_cons]
          exact Nat.lt_of_le_of_lt (show ws.length + 1 + done.length ≤ 110000 by omega) (by decide)
        · have el : ((numFrom 0 (([] :: ws) ++ done)).length : Int) = ((([] : List Nat) :: ws) ++ done).length := by rw [num_len]
          rw [el, num_put nin]
          refine ⟨_, rfl, _, _, rfl, rfl, _, rfl, _, rfl, _, rfl, d, _, t, e + 1, rfl, upd_same, by omega, Nat.le_trans t2000 (by decide), fun e' he' => ?_⟩
          rw [List.append_assoc] at he'
          refine ⟨e', rfl, same_push s4 ndH, ?_, he'⟩
          rw [upd_same, List.append_assoc]
    · have g1 : e = t.length := by
        have z : ¬ ((e : Int) < t.length) := fun c => g (decide_eq_true c)
        omega
      subst g1
      refine ⟨_, rfl, _, rfl, _, rfl, _, rfl, S t, rfl, hts, ?_⟩
      rw [SX.slice_from (by omega), show ((b : Nat) : Int).toNat = b by omega]
      refine ⟨(by show 2 ≤ sizeLine; decide), fun p np => ?_⟩
      have hr0 := hgo [] b (.done he)
      rw [List.append_nil] at hr0
      have ndp : d ≠ p := ne_of_none e4 np
      exact q done b hr0 hbe d p _ (s4.trans (same_new np)) ndH (by rw [upd_ne ndp]; exact e4) upd_same
end
end Lk
end
section
set_option maxRecDepth 100000
set_option maxHeartbeats 2000000
namespace Lk
open PySem PySem.Spec PyProof.Rows L2
theorem KnownV.words2 {H : Hp} {v : V} {b : Bool} (h : KnownV H v b) (hb : b = true) : ∃ a ws, v = .ref a ∧ H a = some (.tup (tx ws)) ∧ isKnown ws = true ∧ ws.length ≤ 100000 ∧ ∀ x ∈ ws, x.length ≤ 100000 := by
  cases h with
  | no h => cases hb
  | bad e hl h hw hb' => cases hb
  | tup e hl h => exact ⟨_, _, rfl, e, hb, hl, h⟩
theorem tx_str (ws : List (List Nat)) : tx ws = (ws.map S).map V.str := by rw [List.map_map]; rfl
/-- sorted of a list of texts, as many as there are -/
def rSortSA (K : PySem.W.Frag) : List V → Hp → VK → Prop := fun vs H Q => ∃ (a : Addr) (xs : List Str), vs = [V.ref a] ∧ SqL K H a (xs.map V.str) ∧ xs.length ≤ 1000000 ∧
  ∀ ys p, ys.Perm xs → sortedS ys = true → H p = none → Q (.ref p) (upd H p (.lst (ys.map V.str)))
theorem cr_sortSA {X : Cx} : CallR X (.builtin "sorted") (rSortSA X.K) := by
  intro pins s σ H vs us Q I r h
  obtain ⟨a, xs, rfl, hs, hl0, q⟩ := h
  obtain ⟨its, rv, hl, _⟩ := I.list hs
  rw [Vals.ref1 r]
  have hlen0 := rv.length
  rw [List.length_map] at hlen0
  have big : xs.length ≤ sizeLine := Nat.le_trans hl0 (by decide)
  refine PyProof.Rows.sorted_strsAny hl.isList rv.strs (by rw [← hlen0]; exact big) fun out ys h1 h2 h3 => ?_
  obtain ⟨ep, he'⟩ := PyProof.Rows.sortedAll_at s.heap its out
  have hlen : (ys.map V.str).length ≤ sizeLine := by rw [List.length_map, h2.length_eq]; exact big
  exact ⟨.ref _, upd H (s.heap.objs.size + 1) (.lst (ys.map V.str)), I.laid (t' := s.toks) (fun _ _ => PyProof.Rows.sortedAll_old) (Nat.le_succ _) ⟨hlen, out.toList, ep, vals_of_strs h1, he'⟩, rfl, q ys _ h2 h3 (I.hok.fresh (Nat.le_succ _))⟩
theorem num_keys : ∀ (n : Nat) (ws : List (List Nat)), ((numFrom n ws).map fun kv => kV kv.1) = tx ws
  | _, [] => rfl
  | n, w :: r => by
    show V.str (S w) :: _ = V.str (S w) :: tx r
    rw [num_keys (n + 1) r]
theorem cut_from (xs : List V) (k : Nat) : cutV xs (some (k : Int)) none = xs.drop k := by
  unfold cutV
  rw [HT.sIx_nat, HT.sIx_none]
  by_cases h : k ≤ xs.length
  · rw [Nat.min_eq_left h]
    exact List.take_of_length_le (by rw [List.length_drop] <;> omega)
  · rw [Nat.min_eq_right (by omega), List.drop_length, List.drop_eq_nil_of_le (by omega), List.take_nil]
/-- what stands of the new words -/
theorem Reads.facts {ws : List (List Nat)} {t : List Nat} {a r : Nat} {ns : List (List Nat)} (h : Reads ws t a ns r) (h0 : ([] : List Nat) ∈ ws) (nd : ws.Nodup) :
    (ws ++ ns).Nodup ∧ (∀ l ∈ ns, l ≠ [] ∧ l.length ≤ t.length ∧ l.take (l.length - 1) ∈ ws ++ ns ∧ ∀ c ∈ l, c ∈ t) ∧ r ≤ t.length ∧ a + ns.length ≤ t.length := by
  induction h with
  | done h =>
    have := h.ge
    refine ⟨by rw [List.append_nil]; exact nd, fun l hl => (by cases hl), this, this⟩
  | more h he hr ih =>
    rename_i ws t a e r ns
    have hae := h.ge
    have nin := h.no he
    have nd' : (ws ++ [sub t a (e + 1)]).Nodup := by
      rw [List.nodup_append]
      refine ⟨nd, List.nodup_cons.mpr ⟨by simp, List.nodup_nil⟩, fun x hx y hy z => ?_⟩
      rw [List.mem_singleton] at hy
      exact nin (by rw [← hy, ← z]; exact hx)
    obtain ⟨i1, i2, i3, i4⟩ := ih (List.mem_append_left _ h0) nd'
    rw [List.append_assoc] at i1 i2
    refine ⟨i1, fun l hl => ?_, i3, by rw [List.length_cons]; omega⟩
    rcases List.mem_cons.mp hl with e1 | e1
    · have hlen : (sub t a (e + 1)).length = e + 1 - a := sub_len (by omega) (by omega)
      subst e1
      refine ⟨fun z => by rw [z] at hlen; simp at hlen; omega, by omega, ?_, fun c hc => ?_⟩
      · have e2 : (sub t a (e + 1)).take ((sub t a (e + 1)).length - 1) = sub t a e := by
          rw [hlen]
          unfold sub
          rw [List.take_take, show min (e + 1 - a - 1) (e + 1 - a) = e - a by omega]
        rw [e2]
        by_cases hea : a = e
        · subst hea
          have e3 : sub t a a = [] := by unfold sub; rw [Nat.sub_self]; rfl
          rw [e3]
          exact List.mem_append_left _ h0
        · exact List.mem_append_left _ (h.all e (by omega) (Nat.le_refl _))
      · exact List.mem_of_mem_drop (List.mem_of_mem_take hc)
    · exact i2 l e1
theorem Reads.det {ws : List (List Nat)} {t : List Nat} {a r r' : Nat} {ns ns' : List (List Nat)} (h : Reads ws t a ns r) (h' : Reads ws t a ns' r') : ns = ns' ∧ r = r' := by
  induction h generalizing ns' r' with
  | done h =>
    cases h' with
    | done h' => exact ⟨rfl, rfl⟩
    | more h' he' hr' =>
      have := h.uniq h'
      omega
  | more h he hr ih =>
    cases h' with
    | done h' =>
      have := h'.uniq h
      omega
    | more h' he' hr' =>
      have e := h.uniq h'
      subst e
      obtain ⟨e1, e2⟩ := ih hr'
      exact ⟨by rw [e1], e2⟩
theorem Reads.get : ∀ (n : Nat) (ws : List (List Nat)) (t : List Nat) (a : Nat), a ≤ t.length → t.length - a ≤ n → ∃ ns r, Reads ws t a ns r
  | n, ws, t, a, h, hn => by
    obtain ⟨e, he⟩ := LE.ex ws t a h
    by_cases hlt : e < t.length
    · cases n with
      | zero => have := he.ge; omega
      | succ n =>
        have := he.ge
        obtain ⟨ns, r, hr⟩ := Reads.get n (ws ++ [sub t a (e + 1)]) t (e + 1) (by omega) (by omega)
        exact ⟨_, _, .more he hlt hr⟩
    · have e2 : e = t.length := by have := he.le; omega
      subst e2
      exact ⟨_, _, .done he⟩
theorem Reads.ex (ws : List (List Nat)) (t : List Nat) (a : Nat) (h : a ≤ t.length) : ∃ ns r, Reads ws t a ns r := Reads.get _ ws t a h (Nat.le_refl _)
section
variable {P : Program} {w : World} {K : PySem.W.Frag} {mg : Str → Option Value} {base : Heap}
def spNew : Sp := fun vs H Q _ => ∃ a d ws ns, vs = [.ref a, .ref d] ∧ H a = some (.tup (tx ws)) ∧ H d = some (.dK (numFrom 0 (([] :: ws) ++ ns))) ∧ ∀ p H', H p = none → H' p = some (.lst (tx ns)) → Same H H' → Q (.ref p) H'
theorem sc_new : FnScope ["known", "numbers"] ["known", "numbers"] (defScope s_new_words) := ⟨rfl, rfl, rfl, by decide +kernel, rfl, by decide +kernel, by decide +kernel⟩
theorem ok_new {f : Addr} {fd : FuncData} (F : Fun K "new_words" "new_words" s_new_words f fd) (ml : mg "len" = none) (mt : mg "list" = none) : FnOk P w K mg base CX0 1 f fd ["known", "numbers"] spNew := by
  refine F.ok sc_new (fun vs H Q E h => ?_) (fun cdv A outer s H vs Q E hr h => ?_)
  · obtain ⟨a, d, ws, ns, rfl, _⟩ := h
    rfl
  · obtain ⟨a, d, ws, ns, rfl, ha, hd, q⟩ := h
    have nd := sc_new.nd
    refine ⟨_, pss_one (ps_ret (pe_slice sl_list (pe_callTy (call_list_dK rfl) (by rfl) mt (by decide +kernel) (pa_cons (pv 1) pa_nil)) (po_some (pe_op op_add (pe_callB call_len_seq (by rfl) ml PySem.boot_len (pa_cons (pv 0) pa_nil)) pe_int)) po_none)), ?_⟩
    refine ⟨_, rfl, d, _, rfl, hd, fun p np => ?_⟩
    have ha1 : ∀ o, upd H p o a = some (.tup (tx ws)) := fun o => by rw [upd_ne (ne_of_none ha np)]; exact ha
    refine ⟨_, rfl, a, _, rfl, .inr (SqT.of (ha1 _)), _, _, rfl, rfl, _, rfl, p, _, rfl, SqL.of upd_same, fun p2 np2 => ?_⟩
    have e1 : ((tx ws).length : Int) + 1 = ((ws.length + 1 : Nat) : Int) := by rw [List.length_map]; omega
    rw [num_keys] at np2 ⊢
    have e2 : (([] :: ws) ++ ns).drop (ws.length + 1) = ns := by
      show (ws ++ ns).drop ws.length = ns
      exact List.drop_left
    have e3 : (tx (([] :: ws) ++ ns)).drop (ws.length + 1) = tx ns := by rw [tx, ← List.map_drop, e2]
    rw [e1, cut_from, e3]
    have np2' : H p2 = none := by
      cases e : H p2 with
      | none => rfl
      | some o => rw [upd_ne (ne_of_none e np)] at np2; rw [e] at np2; cases np2
    exact q p2 _ np2' upd_same ((same_new np).trans (same_new np2))
end
end Lk
end
section
set_option maxRecDepth 100000
set_option maxHeartbeats 2000000
namespace Lk
open PySem PySem.Spec PyProof.Rows L2
/-- of what is known and a text: refused, or R of what is told -/
def spT (CK CT : Addr) (R : List (List Nat) → List Nat → List (List Nat) → Nat → Hp → Hp → V → Prop) : Sp := fun vs H Q E => ∃ kv tv b1 b2, vs = [kv, tv] ∧ KnownV H kv b1 ∧ TextV H tv b2 ∧ (b1 = false → ∀ H', Same H H' → E (.ref CK) none H') ∧ (b1 = true → b2 = false → ∀ H', Same H H' → E (.ref CT) none H') ∧
  (b1 = true → b2 = true → ∀ a ws t, kv = .ref a → H a = some (.tup (tx ws)) → isKnown ws = true → tv = .str (S t) → ∀ ns r, Reads ([] :: ws) t 0 ns r → ∀ v H', Same H H' → R ws t ns r H H' v → Q v H')
def RCut (ws : List (List Nat)) (t : List Nat) (ns : List (List Nat)) (r : Nat) (H H' : Hp) (v : V) : Prop := ∃ p L, v = .ref p ∧ H p = none ∧ H L = none ∧ H' p = some (.tup [.ref L, .str (S (t.drop r))]) ∧ H' L = some (.lst (tx ns))
theorem none_of {H H' : Hp} {p : Addr} (s : Same H H') (h : H' p = none) : H p = none := by
  cases e : H p with
  | none => rfl
  | some o => rw [s _ _ e] at h; cases h
section
variable {P : Program} {w : World} {K : PySem.W.Frag} {mg : Str → Option Value} {base : Heap}
theorem sc_cut : FnScope ["known", "text", "numbers", "rest"] ["known", "text"] (defScope s_cut) := ⟨rfl, rfl, rfl, by decide +kernel, rfl, by decide +kernel, by decide +kernel⟩
theorem ok_cut {f CK CT : Addr} {fd : FuncData} (F : Fun K "cut" "cut" s_cut f fd) (cr : CalX P w K mg base 5 "read_text" (spRead CK CT)) (cn : C8.Cal P w K mg base 1 "new_words" spNew []) : FnOk P w K mg base (L2.CX P w) 6 f fd ["known", "text"] (spT CK CT RCut) := by
  refine F.okX sc_cut (fun vs H Q E h => ?_) (fun cdv A outer s H vs Q E hr h => ?_)
  · obtain ⟨v, u, b, c, rfl, _⟩ := h
    rfl
  · obtain ⟨kv, tv, b1, b2, rfl, hk, ht, q1, q2, q3⟩ := h
    have nd := sc_cut.nd
    refine ⟨_, pss_cons (by exact (ps_asg (pe_cX cr (takes_of rfl rfl rfl rfl) hr (by decide) rfl (pa_cons (pv 0) (pa_cons (pv 1) pa_nil))) (pg_tup rfl (pgs_cons (pg_name (i := 2) nd rfl (Or.inl rfl)) (pgs_cons (pg_name (i := 3) nd rfl (Or.inl rfl)) pgs_nil)))))
      (pss_one (by exact (ps_ret (pe_tup (pa_cons (C8.pe_c cn hr (by decide) rfl (pa_cons (pv 0) (pa_cons (pv 2) pa_nil))) (pa_cons (pv 3) pa_nil)))))), ?_⟩
    refine ⟨_, rfl, _, rfl, kv, tv, b1, b2, rfl, hk, ht, q1, q2, fun hb hb2 a ws t ea ha hks et ns r hrd hrt d p H1 s1 nd1 hd hp => ?_⟩
    subst ea et
    refine ⟨p, _, rfl, SqT.of hp, rfl, _, _, rfl, _, _, rfl, rfl, ?_⟩
    refine ⟨_, rfl, _, rfl, a, d, ws, ns, rfl, s1 _ _ ha, hd, fun L H2 nL hL s2 => ?_⟩
    refine ⟨_, rfl, (by show 2 ≤ sizeLine; decide), fun p2 np2 => ?_⟩
    have s12 := s1.trans s2
    refine q3 hb hb2 a ws t rfl ha hks rfl ns r hrd _ _ (s12.trans (same_new np2)) ⟨p2, L, rfl, none_of s12 np2, none_of s1 nL, upd_same, ?_⟩
    rw [upd_ne (ne_of_none hL np2)]
    exact hL
/-- the pair of a new word -/
def pairV (ws ns : List (List Nat)) (l : List Nat) : List V := [.int ((([] :: ws) ++ ns).idxOf (l.take (l.length - 1)) : Nat), .str (S (l.drop (l.length - 1)))]
def RPairs (ws : List (List Nat)) (t : List Nat) (ns : List (List Nat)) (r : Nat) (H H' : Hp) (v : V) : Prop := ∃ (L : Addr) (ps : List Addr), v = .ref L ∧ H L = none ∧ H' L = some (.lst (ps.map V.ref)) ∧ ps.length = ns.length ∧ (∀ q ∈ ps, H q = none) ∧
  ∀ (j : Nat) (q : Addr) (l : List Nat), ps[j]? = some q → ns[j]? = some l → H' q = some (.tup (pairV ws ns l))
abbrev nP : List Str := ["known", "text", "numbers", "_", "word"]
theorem sc_pairs : FnScope nP ["known", "text"] (defScope s_pairs) := ⟨rfl, rfl, rfl, by decide +kernel, rfl, by decide +kernel, by decide +kernel⟩
theorem ok_pairs {f CK CT : Addr} {fd : FuncData} (F : Fun K "pairs" "pairs" s_pairs f fd) (cr : CalX P w K mg base 5 "read_text" (spRead CK CT)) (cn : C8.Cal P w K mg base 1 "new_words" spNew []) : FnOk P w K mg base (L2.CX P w) 6 f fd ["known", "text"] (spT CK CT RPairs) := by
  refine F.okX sc_pairs (fun vs H Q E h => ?_) (fun cdv A outer s H vs Q E hr h => ?_)
  · obtain ⟨v, u, b, c, rfl, _⟩ := h
    rfl
  · obtain ⟨kv, tv, b1, b2, rfl, hk, ht, q1, q2, q3⟩ := h
    have nd := sc_pairs.nd
    have hu := hu_of hr
    refine ⟨_, pss_cons (by exact (ps_asg (pe_cX cr (takes_of rfl rfl rfl rfl) hr (by decide) rfl (pa_cons (pv 0) (pa_cons (pv 1) pa_nil))) (pg_tup rfl (pgs_cons (pg_name (i := 2) nd rfl (Or.inr rfl)) (pgs_cons (pg_name (i := 3) nd rfl (Or.inl rfl)) pgs_nil)))))
      (pss_one (by exact (ps_ret (pe_lc (own := [("word", 4)]) (g := gName 4) (tt := tYes) rfl nd (pi_list (C8.pe_c cn hr (by decide) rfl (pa_cons (pv 0) (pa_cons (pv 2) pa_nil)))) (blkOk_by (N := nP) (sc := defScope s_pairs) (by decide +kernel))
        (fun _ _ _ _ _ => pg_name (i := 4) nd rfl (Or.inl rfl)) (fun _ _ _ _ _ => pts_nil)
        (fun _ _ _ _ _ => pe_tup (pa_cons (pe_dget hu (pv 2) (pe_slice C8.sl_txt (pv 4) po_none (po_some (pe_un un_neg pe_int))) (fun _ _ => rfl)) (pa_cons (pe_ix ix_str (pv 4) (pe_un un_neg pe_int) (fun _ _ => rfl)) pa_nil))))))), ?_⟩
    refine ⟨_, rfl, _, rfl, kv, tv, b1, b2, rfl, hk, ht, q1, q2, fun hb hb2 a ws t ea ha hks et ns r hrd hrt d p H1 s1 nd1 hd hp => ?_⟩
    subst ea et
    have q := q3 hb hb2 a ws t rfl ha hks rfl ns r hrd
    have htx : t.length ≤ 2000 := by
      obtain ⟨l, el, hl⟩ := ht.text hb2
      have e := SX.S_inj (V.str.inj el)
      rw [e]
      exact (isText_iff.mp hl).2
    clear q1 q2 q3 hk ht
    obtain ⟨k1, k2, k3⟩ := isKnown_iff.mp hks
    obtain ⟨f1, f2, f3, f4⟩ := hrd.facts List.mem_cons_self (nodup0 k1 k2)
    refine ⟨p, _, rfl, SqT.of hp, rfl, _, _, rfl, _, _, rfl, rfl, ?_⟩
    refine ⟨_, rfl, _, rfl, a, d, ws, ns, rfl, s1 _ _ ha, hd, fun L H2 nL hL s2 => ?_⟩
    have s12 := s1.trans s2
    refine ⟨L, rfl, ⟨_, SqL.of hL⟩, fun D nD => ?_⟩
    have nDH : H D = none := none_of s12 nD
    refine lc_it (walk_list (K := K) (a := L) (xs := tx ns)) (fun i H3 => ∃ ps : List Addr, ps.length = i ∧ H3 D = some (.lst (ps.map V.ref)) ∧ Same H2 H3 ∧ (∀ q ∈ ps, H q = none) ∧ ∀ (j : Nat) (q : Addr) (l : List Nat), ps[j]? = some q → ns[j]? = some l → H3 q = some (.tup (pairV ws ns l)))
      ⟨[], rfl, upd_same, same_new nD, (fun q h => by cases h), fun j q l h => by simp at h⟩ (fun i H3 _ p => by obtain ⟨_, _, _, s3, _⟩ := p; exact SqL.of (s3 _ _ hL)) ?_ ?_
    · rintro i x H3 H4 hi ⟨ps, hps, e3, s3, fresh, at3⟩ ⟨rfl, hx⟩
      obtain ⟨l, hl, rfl⟩ := tx_at hx
      obtain ⟨g1, g2, g3, g4⟩ := f2 l (List.mem_of_getElem? hl)
      have hsz : (S l).length ≤ sizeLine := by rw [SX.S_len]; exact Nat.le_trans (show l.length ≤ 100000 by omega) (by decide)
      have hd3 : H4 d = some (.dK (numFrom 0 (([] :: ws) ++ ns))) := s3 _ _ (s2 _ _ hd)
      have hget : valV (numFrom 0 (([] :: ws) ++ ns)) (Sum.inr (S (l.take (l.length - 1)))) = some (.int ((([] :: ws) ++ ns).idxOf (l.take (l.length - 1)) : Nat)) := by
        rw [num_val, if_pos g3, Nat.zero_add]
      refine ⟨rfl, _, rfl, _, rfl, _, rfl, _, rfl, S l, rfl, hsz, ?_⟩
      rw [show (-(1 : Int)) = -1 from rfl, SX.slice_butlast g1]
      have hg : DGet H4 d (.str (S (l.take (l.length - 1)))) (some (.int ((([] :: ws) ++ ns).idxOf (l.take (l.length - 1)) : Nat))) := by
        rw [← hget]
        exact DGet.k (k := Sum.inr (S (l.take (l.length - 1)))) hd3
      obtain ⟨l0, c, rfl⟩ : ∃ l0 c, l = l0 ++ [c] := ⟨l.dropLast, l.getLast g1, (List.dropLast_concat_getLast g1).symm⟩
      refine ⟨d, _, rfl, hg, _, rfl, _, rfl, S (l0 ++ [c]), -1, c, rfl, rfl, hsz, atI_last l0 c, (by show 2 ≤ sizeLine; decide), fun T nT => ?_⟩
      have nTD : D ≠ T := ne_of_none e3 nT
      have nTH : H T = none := none_of (s12.trans s3) nT
      refine ⟨_, by rw [upd_ne nTD]; exact e3, ?_, ps ++ [T], by rw [List.length_append, hps]; rfl, by rw [upd_same, List.map_append]; rfl, ?_, ?_, ?_⟩
      · rw [List.length_map, hps]
        have hin : i < ns.length := (List.getElem?_eq_some_iff.mp hl).1
        exact Nat.lt_of_lt_of_le (show i < 100000 by omega) (by decide)
      · exact same_push (s3.trans (same_new nT)) nD
      · intro q hq
        rcases List.mem_append.mp hq with z | z
        · exact fresh q z
        · rw [List.mem_singleton] at z
          rw [z]
          exact nTH
      · intro j q l hq hl2
        by_cases hj : j < ps.length
        · rw [List.getElem?_append_left hj] at hq
          have z := at3 j q l hq hl2
          have nqD : q ≠ D := fun z2 => by rw [z2, e3] at z; cases z
          rw [upd_ne nqD, upd_ne (ne_of_none z nT)]
          exact z
        · have hj2 : j = ps.length := by
            have z := (List.getElem?_eq_some_iff.mp hq).1
            rw [List.length_append, List.length_singleton] at z
            omega
          subst hj2
          rw [List.getElem?_append_right (Nat.le_refl _), Nat.sub_self] at hq
          have e : T = q := Option.some.inj hq
          subst e
          rw [hps, hl] at hl2
          have e := Option.some.inj hl2
          subst e
          rw [upd_ne nTD.symm, upd_same]
          have e4 : (l0 ++ [c]).drop ((l0 ++ [c]).length - 1) = [c] := by rw [show (l0 ++ [c]).length - 1 = l0.length by simp]; exact List.drop_left
          unfold pairV
          rw [e4]
    · rintro H3 ⟨ps, hps, e3, s3, fresh, at3⟩
      rw [List.length_map] at hps
      exact q _ _ (s12.trans s3) ⟨D, ps, rfl, nDH, e3, hps, fresh, at3⟩
end
end Lk
end
section
set_option maxRecDepth 100000
set_option maxHeartbeats 2000000
namespace Lk
open PySem PySem.Spec PyProof.Rows L2
theorem num_at : ∀ (n : Nat) (ws : List (List Nat)) (i : Nat) (k : Key) (v : V), (numFrom n ws)[i]? = some (k, v) → ∃ l, ws[i]? = some l ∧ k = Sum.inr (S l)
  | _, [], i, k, v, h => by cases i <;> cases h
  | n, w :: r, 0, k, v, h => by
    have e : ((Sum.inr (S w) : Key), V.int (n : Nat)) = (k, v) := Option.some.inj h
    exact ⟨w, rfl, (congrArg Prod.fst e).symm⟩
  | n, w :: r, i + 1, k, v, h => num_at (n + 1) r i k v h
/-- slot i's truth, as a test -/
def tFull (K : PySem.W.Frag) (i : Nat) : TT := fun σ H Q => tVar i σ H fun x H' => ∃ k, TruV K x H' k ∧ Q k H'
def full (l : List Nat) : Bool := decide (0 < l.length)
theorem full_words {ws : List (List Nat)} (h : ∀ l ∈ ws, l ≠ []) : (([] : List Nat) :: ws).filter full = ws := by
  rw [List.filter_cons_of_neg (by decide)]
  exact List.filter_eq_self.mpr fun l hl => decide_eq_true (List.length_pos_iff.mpr (h l hl))
def RBehind (ws : List (List Nat)) (t : List Nat) (ns : List (List Nat)) (r : Nat) (H H' : Hp) (v : V) : Prop := ∃ p us, v = .ref p ∧ H p = none ∧ H' p = some (.tup (tx us)) ∧ us.Perm (ws ++ ns) ∧ sortedS (us.map S) = true
section
variable {P : Program} {w : World} {K : PySem.W.Frag} {mg : Str → Option Value} {base : Heap}
theorem sc_behind : FnScope nP ["known", "text"] (defScope s_known_behind) := ⟨rfl, rfl, rfl, by decide +kernel, rfl, by decide +kernel, by decide +kernel⟩
theorem ok_behind {f CK CT : Addr} {fd : FuncData} (F : Fun K "known_behind" "known_behind" s_known_behind f fd) (cr : CalX P w K mg base 5 "read_text" (spRead CK CT)) (mt : mg "tuple" = none) (ms : mg "sorted" = none) : FnOk P w K mg base (L2.CX P w) 6 f fd ["known", "text"] (spT CK CT RBehind) := by
  refine F.okX sc_behind (fun vs H Q E h => ?_) (fun cdv A outer s H vs Q E hr h => ?_)
  · obtain ⟨v, u, b, c, rfl, _⟩ := h
    rfl
  · obtain ⟨kv, tv, b1, b2, rfl, hk, ht, q1, q2, q3⟩ := h
    have nd := sc_behind.nd
    refine ⟨_, pss_cons (by exact (ps_asg (pe_cX cr (takes_of rfl rfl rfl rfl) hr (by decide) rfl (pa_cons (pv 0) (pa_cons (pv 1) pa_nil))) (pg_tup rfl (pgs_cons (pg_name (i := 2) nd rfl (Or.inl rfl)) (pgs_cons (pg_name (i := 3) nd rfl (Or.inl rfl)) pgs_nil)))))
      (pss_one (by exact (ps_ret (pe_callTy call_tuple_of (by rfl) mt (by decide +kernel) (pa_cons (pe_callB cr_sortSA (by rfl) ms (by decide +kernel) (pa_cons (pe_lock (pe_lc (own := [("word", 4)]) (g := gName 4) (tt := tFull K 4) rfl nd (pi_keys (pv 2)) (blkOk_by (N := nP) (sc := defScope s_known_behind) (by decide +kernel))
        (fun _ _ _ _ _ => pg_name (i := 4) nd rfl (Or.inl rfl)) (fun _ _ _ _ _ => pts_one (pt_truth (pv 4) (by intro _; rfl)))
        (fun _ _ _ _ _ => pv 4))) pa_nil)) pa_nil))))), ?_⟩
    refine ⟨_, rfl, _, rfl, kv, tv, b1, b2, rfl, hk, ht, q1, q2, fun hb hb2 a ws t ea ha hks et ns r hrd hrt d p H1 s1 nd1 hd hp => ?_⟩
    obtain ⟨a', ws', ea', ha', hks', hwl, hwsz⟩ := hk.words2 hb
    rw [ea] at ea'
    have eaa : a = a' := V.ref.inj ea'
    subst eaa
    have eww : ws = ws' := by
      rw [ha] at ha'
      have z := HO.tup.inj (Option.some.inj ha')
      have z2 : ∀ l m : List (List Nat), tx l = tx m → l = m := by
        intro l
        induction l with
        | nil => intro m h; cases m with
          | nil => rfl
          | cons x m => cases h
        | cons x l ih =>
          intro m h
          cases m with
          | nil => cases h
          | cons y m =>
            have h1 := (List.cons.inj h).1
            have h2 := (List.cons.inj h).2
            rw [SX.S_inj (V.str.inj h1), ih m h2]
      exact z2 _ _ z
    subst eww
    subst ea et
    have q := q3 hb hb2 a ws t rfl ha hks rfl ns r hrd
    have htx : t.length ≤ 2000 := by
      obtain ⟨l, el, hl⟩ := ht.text hb2
      have e := SX.S_inj (V.str.inj el)
      rw [e]
      exact (isText_iff.mp hl).2
    clear q1 q2 q3 hk ht
    obtain ⟨k1, k2, k3⟩ := isKnown_iff.mp hks
    obtain ⟨f1, f2, f3, f4⟩ := hrd.facts List.mem_cons_self (nodup0 k1 k2)
    have hall : ∀ l ∈ ws ++ ns, l ≠ [] ∧ l.length ≤ 100000 := by
      intro l hl
      rcases List.mem_append.mp hl with z | z
      · exact ⟨word_ne (List.all_eq_true.mp k1 l z), hwsz l z⟩
      · obtain ⟨g1, g2, _⟩ := f2 l z
        exact ⟨g1, by omega⟩
    refine ⟨p, _, rfl, SqT.of hp, rfl, _, _, rfl, _, _, rfl, rfl, ?_⟩
    refine ⟨d, _, hd, True.intro, fun od => ⟨_, rfl, d, od, rfl, .inl ⟨_, upd_same, fun D nD => ?_⟩⟩⟩
    have nD1 : H1 D = none := by
      cases e : H1 D with
      | none => rfl
      | some o =>
        by_cases z : D = d
        · rw [z, upd_same] at nD; cases nD
        · rw [upd_ne z, e] at nD; cases nD
    have nDd : D ≠ d := fun z => by rw [z, hd] at nD1; cases nD1
    have hll : (([] :: ws) ++ ns : List (List Nat)).length ≤ 110000 := by rw [List.length_append, List.length_cons]; omega
    refine lc_it walk_keys (fun i H3 => H3 d = some (.frz od (.dK (numFrom 0 (([] :: ws) ++ ns)))) ∧ H3 D = some (.lst (tx (((([] :: ws) ++ ns).take i).filter full))) ∧ ∀ b o, b ≠ d → H1 b = some o → H3 b = some o)
      ⟨(upd_ne nDd.symm).trans upd_same, upd_same, fun b o hbd e => (upd_ne (ne_of_none e nD1)).trans ((upd_ne hbd).trans e)⟩ (fun i H3 _ p => p.1) ?_ ?_
    · rintro i x H3 H4 hi ⟨e1, e2, e3⟩ ⟨rfl, k, v, hkv, rfl⟩
      obtain ⟨l, hl, rfl⟩ := num_at 0 _ i k v hkv
      have hsz : (S l).length ≤ sizeLine := by
        rw [SX.S_len]
        rcases List.mem_cons.mp (List.mem_of_getElem? hl) with z | z
        · rw [z]; exact Nat.zero_le _
        · exact Nat.le_trans (hall l z).2 (by decide)
      have tk : ((([] :: ws) ++ ns).take (i + 1)).filter full = ((([] :: ws) ++ ns).take i).filter full ++ (if full l then [l] else []) := by
        rw [List.take_add_one, hl, List.filter_append]
        show _ ++ List.filter full [l] = _
        cases hf : full l with
        | true => rw [List.filter_cons_of_pos hf]; rfl
        | false => rw [List.filter_cons_of_neg (by rw [hf]; exact Bool.false_ne_true)]; rfl
      have ef : (((S l).length : Int) != 0) = full l := by
        rw [SX.S_len]
        unfold full
        by_cases c : 0 < l.length
        · rw [decide_eq_true c]
          exact bne_iff_ne.mpr (by omega)
        · rw [decide_eq_false c, show l.length = 0 by omega]
          rfl
      refine ⟨rfl, _, rfl, full l, ⟨hsz, ef.symm⟩, ?_⟩
      cases hf : full l with
      | true =>
        rw [hf] at tk
        refine iteT ?_
        refine ⟨_, rfl, _, e2, ?_, ?_, ?_, fun b o hbd e => ?_⟩
        · rw [List.length_map]
          exact Nat.lt_of_le_of_lt (Nat.le_trans (List.length_filter_le _ _) (Nat.le_trans (List.length_take_le' _ _) hll)) (by decide)
        · rw [upd_ne nDd.symm]
          exact e1
        · rw [upd_same, tk, tx, tx, List.map_append]
          rfl
        · rw [upd_ne (ne_of_none e nD1)]
          exact e3 b o hbd e
      | false =>
        rw [hf] at tk
        refine iteF ⟨e1, ?_, e3⟩
        rw [tk, if_neg Bool.false_ne_true, List.append_nil]
        exact e2
    · rintro H3 ⟨e1, e2, e3⟩
      rw [num_len, List.take_length, List.cons_append, full_words fun l hl => (hall l hl).1] at e2
      refine ⟨e1, ?_⟩
      have sU : Same H1 (upd H3 d (.dK (numFrom 0 (([] :: ws) ++ ns)))) := fun b o e => by
        by_cases z : b = d
        · rw [z, upd_same, ← hd, ← z]; exact e
        · rw [upd_ne z]; exact e3 b o z e
      have eD : upd H3 d (.dK (numFrom 0 (([] :: ws) ++ ns))) D = some (.lst (((ws ++ ns).map S).map V.str)) := by
        rw [upd_ne nDd, ← tx_str]
        exact e2
      refine ⟨D, (ws ++ ns).map S, rfl, SqL.of eD, ?_, fun ys p2 hperm hsort np2 => ?_⟩
      · rw [List.length_map]
        rw [List.cons_append, List.length_cons] at hll
        omega
      obtain ⟨us, rfl, hus⟩ : ∃ us : List (List Nat), ys = us.map S ∧ us.Perm (ws ++ ns) := by
        refine ⟨ys.map fun y => y.cps.toList, ?_, ?_⟩
        · rw [List.map_map]
          exact (List.map_id' ys).symm.trans (List.map_congr_left fun y _ => (SX.S_tl y).symm)
        · have z := hperm.map fun y : Str => y.cps.toList
          rw [List.map_map] at z
          refine z.trans ?_
          rw [show ((fun y : Str => y.cps.toList) ∘ S) = id from rfl, List.map_id]
      refine ⟨p2, _, rfl, .inl ⟨SqL.of upd_same, fun p3 np3 => ?_⟩⟩
      have s13 := (sU.trans (same_new np2)).trans (same_new (o := .tup ((us.map S).map V.str)) np3)
      refine q _ _ (s1.trans s13) ⟨p3, us, rfl, none_of (s1.trans (sU.trans (same_new np2))) np3, ?_, hus, hsort⟩
      rw [upd_same, tx_str]
end
end Lk
end
section
set_option maxRecDepth 100000
set_option maxHeartbeats 2000000
namespace Lk
open PySem PySem.Spec PyProof.Rows L2
/-- what is neither a number nor a truth -/
inductive NoInt (H : Hp) : V → Prop where
  | non : NoInt H .non
  | str (z : Str) : NoInt H (.str z)
  | lst {a : Addr} {xs : List V} (e : H a = some (.lst xs)) : NoInt H (.ref a)
  | tup {a : Addr} {xs : List V} (e : H a = some (.tup xs)) : NoInt H (.ref a)
  | dK {a : Addr} {kvs : List (Key × V)} (e : H a = some (.dK kvs)) : NoInt H (.ref a)
theorem NoInt.same {H H' : Hp} {v : V} (h : NoInt H v) (s : Same H H') : NoInt H' v := by
  cases h with
  | non => exact .non
  | str z => exact .str z
  | lst e => exact .lst (s _ _ e)
  | tup e => exact .tup (s _ _ e)
  | dK e => exact .dK (s _ _ e)
theorem NoInt.ty {K : PySem.W.Frag} {H : Hp} {v : V} (h : NoInt H v) : ∃ n, TyX K H v (.type n) ∧ kitB n "int" = some false := by
  cases h with
  | non => exact ⟨"NoneType", .base .non, by decide +kernel⟩
  | str z => exact ⟨"str", .base (.str z), by decide +kernel⟩
  | lst e => exact ⟨"list", .base (.lst e), by decide +kernel⟩
  | tup e => exact ⟨"tuple", .base (.tup e), by decide +kernel⟩
  | dK e => exact ⟨"dict", .base (.dK e), by decide +kernel⟩
/-- v as a whole number, or none -/
inductive WholeV (H : Hp) : V → Option Int → Prop where
  | int (i : Int) : WholeV H (.int i) (some i)
  | bl (b : Bool) : WholeV H (.bl b) none
  | oth {v : V} (h : NoInt H v) : WholeV H v none
theorem WholeV.same {H H' : Hp} {v : V} {o : Option Int} (h : WholeV H v o) (s : Same H H') : WholeV H' v o := by
  cases h with
  | int i => exact .int i
  | bl b => exact .bl b
  | oth h => exact .oth (h.same s)
theorem WholeV.is {H : Hp} {v : V} {i : Int} (h : WholeV H v (some i)) : v = .int i := by
  cases h
  rfl
/-- whether v is one letter is b -/
inductive OneV (H : Hp) : V → Bool → Prop where
  | str (l : List Nat) (h : l.length ≤ 100000) : OneV H (.str (S l)) (isAz l && decide (l.length = 1))
  | oth {v : V} (h : NoStr H v) : OneV H v false
theorem OneV.same {H H' : Hp} {v : V} {b : Bool} (h : OneV H v b) (s : Same H H') : OneV H' v b := by
  cases h with
  | str l z => exact .str l z
  | oth z => exact .oth (z.same s)
def inB (o : Option Int) (m : Int) : Bool := match o with
  | none => false
  | some i => decide (0 ≤ i) && decide (i < m)
/-- is_pair of v, with so many known texts, is b -/
inductive PairV (H : Hp) (m : Int) : V → Bool → Prop where
  | no {v : V} (h : NoTup H v) : PairV H m v false
  | long {a : Addr} {xs : List V} (e : H a = some (.tup xs)) (hl : xs.length ≠ 2) (hz : xs.length ≤ 100000) : PairV H m (.ref a) false
  | two {a : Addr} {x y : V} {o : Option Int} {b : Bool} (e : H a = some (.tup [x, y])) (hx : WholeV H x o) (hy : OneV H y b) : PairV H m (.ref a) (inB o m && b)
section
variable {P : Program} {w : World} {K : PySem.W.Frag} {mg : Str → Option Value} {base : Heap}
def spWhole : Sp := fun vs H Q _ => ∃ v o, vs = [v] ∧ WholeV H v o ∧ Q (.bl o.isSome) H
theorem sc_whole : FnScope ["thing"] ["thing"] (defScope s_is_whole) := ⟨rfl, rfl, rfl, by decide +kernel, rfl, by decide +kernel, by decide +kernel⟩
theorem ok_whole {f : Addr} {fd : FuncData} (F : Fun K "is_whole" "is_whole" s_is_whole f fd) (mi : mg "isinstance" = none) (mn : mg "int" = none) (mb : mg "bool" = none) : FnOk P w K mg base CX0 1 f fd ["thing"] spWhole := by
  refine F.ok sc_whole (fun vs H Q E h => ?_) (fun cdv A outer s H vs Q E hr h => ?_)
  · obtain ⟨v, o, rfl, _⟩ := h
    rfl
  · obtain ⟨v, o, rfl, hv, q⟩ := h
    refine ⟨_, pss_one (ps_ret (pe_and (pe_callB call_isi (by rfl) mi (by decide +kernel) (pa_cons (pv 0) (pa_cons (pe_bltn (v := .ty "int") (by rfl) mn (by decide +kernel) rfl) pa_nil)))
      (pe_one (pe_not (pe_callB call_isi (by rfl) mi (by decide +kernel) (pa_cons (pv 0) (pa_cons (pe_bltn (v := .ty "bool") (by rfl) mb (by decide +kernel) rfl) pa_nil))))))), ?_⟩
    cases hv with
    | int i =>
      refine ⟨_, rfl, .int i, .ty "int", _, _, true, rfl, .ty _, .base (.int i), kit_ty (by decide +kernel), true, rfl, ?_⟩
      refine ⟨_, rfl, .int i, .ty "bool", _, _, false, rfl, .ty _, .base (.int i), kit_ty (by decide +kernel), false, rfl, ?_⟩
      exact q
    | bl b =>
      refine ⟨_, rfl, .bl b, .ty "int", _, _, true, rfl, .ty _, .base (.bl b), kit_ty (by decide +kernel), true, rfl, ?_⟩
      refine ⟨_, rfl, .bl b, .ty "bool", _, _, true, rfl, .ty _, .base (.bl b), kit_ty (by decide +kernel), true, rfl, ?_⟩
      exact q
    | oth h =>
      obtain ⟨n, ty, kb⟩ := h.ty (K := K)
      refine ⟨_, rfl, v, .ty "int", _, _, false, rfl, .ty _, ty, kit_ty kb, false, rfl, ?_⟩
      exact q
def spPair : Sp := fun vs H Q _ => ∃ v m b, vs = [v, .int m] ∧ PairV H m v b ∧ ∀ H', Same H H' → Q (.bl b) H'
def spWithinW : Sp := fun vs H Q _ => ∃ (v : V) (o : Option Int) (m : Int), vs = [v, .int 0, .int (m - 1)] ∧ WholeV H v o ∧ Q (.bl (inB o m)) H
theorem sc_within : FnScope ["thing", "least", "most"] ["thing", "least", "most"] (defScope s_is_within) := ⟨rfl, rfl, rfl, by decide +kernel, rfl, by decide +kernel, by decide +kernel⟩
theorem ok_within {f : Addr} {fd : FuncData} (F : Fun K "is_within" "is_within" s_is_within f fd) (cw : C8.Cal P w K mg base 1 "is_whole" spWhole []) : FnOk P w K mg base CX0 2 f fd ["thing", "least", "most"] spWithinW := by
  refine F.ok sc_within (fun vs H Q E h => ?_) (fun cdv A outer s H vs Q E hr h => ?_)
  · obtain ⟨v, o, m, rfl, _⟩ := h
    rfl
  · obtain ⟨v, o, m, rfl, hv, q⟩ := h
    have nd := sc_within.nd
    refine ⟨_, pss_one (by exact (ps_ret (pe_and (C8.pe_c cw hr (Nat.le_refl _) rfl (pa_cons (pv 0) pa_nil)) (pe_one (pe_chain op_le op_le (pv 1) (pv 0) (pv 2)))))), ?_⟩
    refine ⟨_, rfl, v, o, rfl, hv, o.isSome, rfl, ?_⟩
    cases o with
    | none => exact q
    | some i =>
      cases hv.is
      refine ⟨_, rfl, _, rfl, _, _, rfl, rfl, _, rfl, ?_⟩
      have ei : inB (some i) m = (decide (0 ≤ i) && decide (i < m)) := rfl
      rw [ei] at q
      refine ite2 (fun g => ?_) (fun g => ?_)
      · refine ⟨_, rfl, _, _, rfl, rfl, ?_⟩
        have g1 : decide (0 ≤ i) = true := g
        rw [g1, Bool.true_and] at q
        show Q (.bl (decide (i ≤ m - 1))) H
        rw [show decide (i ≤ m - 1) = decide (i < m) from by
          by_cases z : i < m
          · rw [decide_eq_true z, decide_eq_true (by omega)]
          · rw [decide_eq_false z, decide_eq_false (by omega)]]
        exact q
      · have g1 : decide (0 ≤ i) = false := by
          cases z : decide (0 ≤ i) with
          | false => rfl
          | true => exact absurd z g
        rw [g1, Bool.false_and] at q
        exact q
theorem sc_pair : FnScope ["thing", "many", "number", "letter"] ["thing", "many"] (defScope s_is_pair) := ⟨rfl, rfl, rfl, by decide +kernel, rfl, by decide +kernel, by decide +kernel⟩
theorem ok_pair {f : Addr} {fd : FuncData} (F : Fun K "is_pair" "is_pair" s_is_pair f fd) (ci : C8.Cal P w K mg base 2 "is_within" spWithinW []) (cl : C8.Cal P w K mg base 1 "is_letters" spLetters []) (mi : mg "isinstance" = none) (mt : mg "tuple" = none) (ml : mg "len" = none) : FnOk P w K mg base CX0 3 f fd ["thing", "many"] spPair := by
  refine F.ok sc_pair (fun vs H Q E h => ?_) (fun cdv A outer s H vs Q E hr h => ?_)
  · obtain ⟨v, m, b, rfl, _⟩ := h
    rfl
  · obtain ⟨v, m, b, rfl, hv, q⟩ := h
    have nd := sc_pair.nd
    refine ⟨_, pss_cons (by exact (ps_if (PW.pt (pw_or (pt_not (pt_val (pe_callB call_isi (by rfl) mi (by decide +kernel) (pa_cons (pv 0) (pa_cons (pe_bltn (v := .ty "tuple") (by rfl) mt (by decide +kernel) rfl) pa_nil)))))
        (pw_or1 (pt_cmpR op_ne (pe_callB call_len_seq (by rfl) ml PySem.boot_len (pa_cons (pv 0) pa_nil)) pe_int (nomark _))))) (pss_one (ps_ret pe_bl)) pss_nil))
      (pss_cons (by exact (ps_asg (pv 0) (pg_tup rfl (pgs_cons (pg_name (i := 2) nd rfl (Or.inl rfl)) (pgs_cons (pg_name (i := 3) nd rfl (Or.inl rfl)) pgs_nil)))))
      (pss_cons (by exact (ps_if (pt_not (pt_val (C8.pe_c ci hr (by decide) rfl (pa_cons (pv 2) (pa_cons pe_int (pa_cons (pe_op op_sub (pv 1) pe_int) pa_nil)))))) (pss_one (ps_ret pe_bl)) pss_nil))
      (pss_one (by exact (ps_ret (pe_and (C8.pe_c cl hr (by decide) rfl (pa_cons (pv 3) pa_nil)) (pe_one (pe_cmpR op_eq (pe_callB call_len_str (by rfl) ml PySem.boot_len (pa_cons (pv 3) pa_nil)) pe_int (nomark _))))))))), ?_⟩
    cases hv with
    | no h =>
      obtain ⟨n, ty, kb⟩ := h.ty (K := K)
      refine ⟨_, rfl, v, .ty "tuple", _, _, false, rfl, .ty _, ty, kit_ty kb, false, rfl, ?_⟩
      exact q H (Same.refl H)
    | long e hl hz =>
      rename_i a xs
      refine ⟨_, rfl, .ref a, .ty "tuple", _, _, true, rfl, .ty _, .base (.tup e), kit_ty (by decide +kernel), true, rfl, ?_⟩
      refine ⟨_, rfl, a, xs, rfl, .inr (SqT.of e), rfl, _, rfl, ite2 (fun g => ?_) (fun g => ?_)⟩
      · exact q H (Same.refl H)
      · refine absurd ?_ g
        rw [Bool.not_eq_true', decide_eq_false_iff_not]
        intro z
        have z2 := V.int.inj z
        omega
    | two e hx hy =>
      rename_i a x y o b
      refine ⟨_, rfl, .ref a, .ty "tuple", _, _, true, rfl, .ty _, .base (.tup e), kit_ty (by decide +kernel), true, rfl, ?_⟩
      refine ⟨_, rfl, a, _, rfl, .inr (SqT.of e), rfl, _, rfl, ?_⟩
      refine ⟨_, rfl, a, [x, y], rfl, SqT.of e, rfl, _, _, rfl, _, _, rfl, rfl, ?_⟩
      refine ⟨_, rfl, _, rfl, _, _, rfl, rfl, x, o, m, rfl, hx, inB o m, rfl, ?_⟩
      · · cases g2 : inB o m with
          | false =>
            rw [g2] at q
            exact q H (Same.refl H)
          | true =>
            rw [g2, Bool.true_and] at q
            cases hy with
            | oth h =>
              refine ⟨_, rfl, _, _, rfl, .oth h, fun H1 s1 => ⟨_, rfl, ?_⟩⟩
              exact q H1 s1
            | str l hl =>
              refine ⟨_, rfl, _, _, rfl, .str l hl, fun H1 s1 => ⟨_, rfl, ?_⟩⟩
              cases e2 : isAz l with
              | false =>
                rw [e2] at q
                exact q H1 s1
              | true =>
                rw [e2, Bool.true_and] at q
                refine ⟨_, rfl, S l, rfl, (by rw [SX.S_len]; exact Nat.le_trans hl (by decide)), rfl, ?_⟩
                have e3 : decide (V.int ((S l).length : Nat) = V.int 1) = decide (l.length = 1) := by
                  rw [SX.S_len]
                  by_cases c : l.length = 1
                  · rw [decide_eq_true c, decide_eq_true (by rw [c]; rfl)]
                  · rw [decide_eq_false c, decide_eq_false (fun z => c (by have z2 := V.int.inj z; omega))]
                show Q (.bl (decide (V.int ((S l).length : Nat) = V.int 1))) H1
                rw [e3]
                exact q H1 s1
end
end Lk
end
section
set_option maxRecDepth 100000
set_option maxHeartbeats 2000000
namespace Lk
open PySem PySem.Spec PyProof.Rows L2
/-- a row of pairs that tells new words, one behind the other -/
inductive Good : List (List Nat) → List (Nat × Nat) → List (List Nat) → Prop where
  | nil (W : List (List Nat)) : Good W [] []
  | cons {W : List (List Nat)} {n c : Nat} {l : List Nat} {r : List (Nat × Nat)} {ns : List (List Nat)} (h : W[n]? = some l) (hc : 97 ≤ c ∧ c ≤ 122) (hn : l ++ [c] ∉ W) (hr : Good (W ++ [l ++ [c]]) r ns) : Good W ((n, c) :: r) ((l ++ [c]) :: ns)
theorem tx_snoc (W : List (List Nat)) (l : List Nat) : tx (W ++ [l]) = tx W ++ [V.str (S l)] := by
  rw [tx, tx, List.map_append]
  rfl
theorem joinL_nil : ∀ l : List (List Nat), TL.joinL [] l = l.flatten
  | [] => rfl
  | [a] => by simp [TL.joinL]
  | a :: b :: r => by
    show a ++ ([] ++ TL.joinL [] (b :: r)) = _
    rw [joinL_nil (b :: r)]
    rfl
theorem join_tx (ns : List (List Nat)) : Txt.join (Str.ofString "") (ns.map S) = S ns.flatten := by
  have h := SX.join_S [] ns
  rw [joinL_nil] at h
  exact h
section
variable {P : Program} {w : World} {K : PySem.W.Frag} {mg : Str → Option Value} {base : Heap}
abbrev nQ : List Str := ["known", "row", "words", "numbers", "at", "pair", "number", "letter", "word"]
/-- where each pair tells a new word -/
def spReadP (CK : Addr) : Sp := fun vs H Q E => ∃ kv L b1, vs = [kv, .ref L] ∧ KnownV H kv b1 ∧ (b1 = false → ∀ H', Same H H' → E (.ref CK) none H') ∧
  (b1 = true → ∀ a ws, kv = .ref a → H a = some (.tup (tx ws)) → isKnown ws = true → ∃ (ps : List Addr) (prs : List (Nat × Nat)) (ns : List (List Nat)), H L = some (.lst (ps.map V.ref)) ∧ ps.length = prs.length ∧ prs.length ≤ 10000 ∧
    (∀ (j : Nat) (q : Addr) (n c : Nat), ps[j]? = some q → prs[j]? = some (n, c) → H q = some (.tup [.int (n : Nat), .str (S [c])])) ∧ Good ([] :: ws) prs ns ∧ ns.flatten.length ≤ 10000000 ∧ ∀ v H', v = .str (S ns.flatten) → Same H H' → Q v H')
theorem sc_readP : FnScope nQ ["known", "row"] (defScope s_read_pairs) := ⟨rfl, rfl, rfl, by decide +kernel, rfl, by decide +kernel, by decide +kernel⟩
theorem ok_readP {f CK : Addr} {fd : FuncData} (F : Fun K "read_pairs" "read_pairs" s_read_pairs f fd) (ck : CalX P w K mg base 4 "refuse_unknown" (spRefK CK)) (cn : C8.Cal P w K mg base 1 "numbered" (spNumbered K) []) (cp : C8.Cal P w K mg base 3 "is_pair" spPair [])
    (mi : mg "isinstance" = none) (mt : mg "list" = none) (ml : mg "len" = none) (me : mg "enumerate" = none) : FnOk P w K mg base (L2.CX P w) 5 f fd ["known", "row"] (spReadP CK) := by
  refine F.okX sc_readP (fun vs H Q E h => ?_) (fun cdv A outer s H vs Q E hr h => ?_)
  · obtain ⟨v, L, b, rfl, _⟩ := h
    rfl
  · obtain ⟨kv, L, b1, rfl, hk, q1, q2⟩ := h
    have nd := sc_readP.nd
    have hu := hu_of hr
    refine ⟨_, pss_cons (by exact (ps_expr (pe_cX ck (takes_of rfl rfl rfl rfl) hr (by decide) rfl (pa_cons (pv 0) pa_nil))))
      (pss_cons (by exact (ps_if (pt_not (pt_val (pe_callB call_isi (by rfl) mi (by decide +kernel) (pa_cons (pv 1) (pa_cons (pe_bltn (v := .ty "list") (by rfl) mt (by decide +kernel) rfl) pa_nil))))) (pss_one ps_never) pss_nil))
      (pss_cons (by exact (ps_set (i := 2) nd rfl (Or.inl rfl) (pe_lst (pa_cons pe_str (StX.pa_star (pv 0) pa_nil)))))
      (pss_cons (by exact (ps_set (i := 3) nd rfl (Or.inl rfl) (C8.pe_c cn hr (by decide) rfl (pa_cons (pv 0) pa_nil))))
      (pss_cons (by exact (ps_for (passes_of rfl) rfl (pi_enum (by rfl) me (pa_cons (pv 1) pa_nil)) (pg_tup rfl (pgs_cons (pg_name (i := 4) nd rfl (Or.inl rfl)) (pgs_cons (pg_name (i := 5) nd rfl (Or.inl rfl)) pgs_nil)))
        (by exact (pss_cons (by exact (ps_if (pt_not (pt_val (C8.pe_c cp hr (by decide) rfl (pa_cons (pv 5) (pa_cons (pe_callB call_len_seq (by rfl) ml PySem.boot_len (pa_cons (pv 2) pa_nil)) pa_nil))))) (pss_one ps_never) pss_nil))
          (pss_cons (by exact (ps_asg (pv 5) (pg_tup rfl (pgs_cons (pg_name (i := 6) nd rfl (Or.inl rfl)) (pgs_cons (pg_name (i := 7) nd rfl (Or.inl rfl)) pgs_nil)))))
          (pss_cons (by exact (ps_set (i := 8) nd rfl (Or.inl rfl) (pe_op op_add_str (pe_ix ix_list (pv 2) (pv 6) (fun _ _ => rfl)) (pv 7))))
          (pss_cons (by exact (ps_if (pt_cmp (pc_din hu (pv 8) (pv 3))) (pss_one ps_never) pss_nil))
          (pss_cons (by exact (ps_dput hu (pv 3) (pv 8) (pe_callB call_len_seq (by rfl) ml PySem.boot_len (pa_cons (pv 2) pa_nil)) rfl))
          (pss_one (by exact (ps_expr (pe_bm PySem.F.plainAttrs_list PySem.F.slot_list_append PySem.F.type_list_append mt_append (pv 2) (pa_cons (pv 8) pa_nil)))))))))))))
      (pss_one (by exact (ps_ret (pe_join pe_str (pe_slice sl_list (pv 2) (po_some (pe_op op_add (pe_callB call_len_seq (by rfl) ml PySem.boot_len (pa_cons (pv 0) pa_nil)) pe_int)) po_none))))))))), ?_⟩
    refine ⟨_, rfl, kv, b1, rfl, hk, fun hb H1 s1 => ?_, fun hb H1 s1 => q1 hb H1 s1⟩
    obtain ⟨a, ws, rfl, ha, hks, hwl, hwsz⟩ := hk.words2 hb
    obtain ⟨ps, prs, ns, hL, hpl, hpr, hat, good, hfl, q⟩ := q2 hb a ws rfl ha hks
    clear q1 q2 hk
    obtain ⟨k1, k2, k3⟩ := isKnown_iff.mp hks
    refine ⟨_, rfl, .ref L, .ty "list", _, _, true, rfl, .ty _, .base (.lst (s1 _ _ hL)), kit_ty (by decide +kernel), true, rfl, ?_⟩
    refine ⟨_, rfl, a, tx ws, rfl, .inl (SqT.of (s1 _ _ ha)), ?_⟩
    refine ⟨?_, fun A2 nA => ?_⟩
    · rw [List.append_nil, List.length_cons, List.length_map]
      exact Nat.le_trans (show ws.length + 1 ≤ 100001 by omega) (by decide)
    rw [List.append_nil]
    have nAH : H A2 = none := none_of s1 nA
    have eA : (V.str (Str.ofString "") :: tx ws) = tx ([] :: ws) := rfl
    have s2 := s1.trans (same_new (o := .lst (V.str (Str.ofString "") :: tx ws)) nA)
    refine ⟨_, rfl, a, ws, rfl, SqT.of (s2 _ _ ha), nodup0 k1 k2, hwl, fun d H3 nd3 hd s3 => ?_⟩
    have s13 := s2.trans s3
    have ndH : H d = none := none_of s2 nd3
    have hA3 : H3 A2 = some (.lst (tx ([] :: ws))) := s3 _ _ upd_same
    have nAd : A2 ≠ d := fun z => by rw [← z, upd_same] at nd3; cases nd3
    refine ⟨_, rfl, L, _, rfl, SqL.of (s13 _ _ hL), ?_⟩
    refine for_it (walk_enum (xs := ps.map V.ref)) (fun i σ H4 => ∃ (done rest : List (List Nat)) (y4 y5 y6 y7 y8 : Option V), σ = [some (.ref a), some (.ref L), some (.ref A2), some (.ref d), y4, y5, y6, y7, y8] ∧ Same H H4 ∧ H4 A2 = some (.lst (tx (([] :: ws) ++ done))) ∧
        H4 d = some (.dK (numFrom 0 (([] :: ws) ++ done))) ∧ done.length = i ∧ ns = done ++ rest ∧ Good (([] :: ws) ++ done) (prs.drop i) rest ∧ ∀ l ∈ ([] :: ws) ++ done, l.length ≤ 100000 + i)
      ⟨[], ns, _, _, _, _, _, rfl, s13, by rw [List.append_nil]; exact hA3, by rw [List.append_nil]; exact hd, rfl, rfl, by rw [List.append_nil]; exact good, fun l hl => ?_⟩ (fun i σ H4 _ p => by obtain ⟨_, _, _, _, _, _, _, _, s4, _⟩ := p; exact SqL.of (s4 _ _ hL)) ?_ ?_
    · rw [List.append_nil] at hl
      rcases List.mem_cons.mp hl with z | z
      · rw [z]; exact Nat.zero_le _
      · exact hwsz l z
    · rintro i x σ H4 H5 hi ⟨done, rest, y4, y5, y6, y7, y8, rfl, s4, e1, e2, hdn, hns, hgd, hlen⟩ ⟨T, x1, x2, rfl, nT, rfl, hx1, hx2⟩
      cases (Option.some.inj hx1 : V.int (i : Nat) = x1)
      rw [List.length_map] at hi
      have hx2' : (ps.map V.ref)[i]? = some x2 := hx2
      obtain ⟨qa, hqa⟩ : ∃ qa, ps[i]? = some qa := ⟨ps[i], List.getElem?_eq_getElem hi⟩
      rw [List.getElem?_map, hqa] at hx2'
      cases (Option.some.inj hx2' : V.ref qa = x2)
      obtain ⟨⟨n, c⟩, hnc⟩ : ∃ nc, prs[i]? = some nc := ⟨prs[i]'(by omega), List.getElem?_eq_getElem (by omega)⟩
      have hdrop : prs.drop i = (n, c) :: prs.drop (i + 1) := by
        obtain ⟨h1, h2⟩ := List.getElem?_eq_some_iff.mp hnc
        rw [List.drop_eq_getElem_cons h1, h2]
      have hq := hat i qa n c hqa hnc
      rw [hdrop] at hgd
      cases hgd with
      | cons hW hc hn hgr =>
        rename_i l nsr
        have nTA : A2 ≠ T := ne_of_none e1 nT
        have nTd : d ≠ T := ne_of_none e2 nT
        have s5 : Same H (upd H4 T (.tup [.int (i : Nat), .ref qa])) := s4.trans (same_new nT)
        have e1' : upd H4 T (.tup [.int (i : Nat), .ref qa]) A2 = some (.lst (tx (([] :: ws) ++ done))) := by rw [upd_ne nTA]; exact e1
        have e2' : upd H4 T (.tup [.int (i : Nat), .ref qa]) d = some (.dK (numFrom 0 (([] :: ws) ++ done))) := by rw [upd_ne nTd]; exact e2
        have eT : upd H4 T (.tup [.int (i : Nat), .ref qa]) T = some (.tup [.int (i : Nat), .ref qa]) := upd_same
        generalize upd H4 T (.tup [.int (i : Nat), .ref qa]) = H5 at s5 e1' e2' eT
        have hq5 := s5 _ _ hq
        have hWlen : (([] :: ws) ++ done : List (List Nat)).length ≤ 110001 := by rw [List.length_append, List.length_cons]; omega
        have hnl : n < (([] :: ws) ++ done : List (List Nat)).length := (List.getElem?_eq_some_iff.mp hW).1
        have hl5 : l.length ≤ 100000 + i := hlen l (List.mem_of_getElem? hW)
        refine ⟨T, _, rfl, SqT.of eT, rfl, _, _, rfl, _, _, rfl, rfl, ?_⟩
        refine ⟨_, rfl, _, rfl, A2, _, rfl, .inl (SqL.of e1'), ?_⟩
        have pr : PairV H5 ((tx (([] :: ws) ++ done)).length : Nat) (.ref qa) (inB (some (n : Nat)) ((tx (([] :: ws) ++ done)).length : Nat) && (isAz [c] && decide ([c].length = 1))) := .two hq5 (.int _) (.str [c] (show 1 ≤ 100000 by decide))
        have hb2 : (inB (some (n : Nat)) ((tx (([] :: ws) ++ done)).length : Nat) && (isAz [c] && decide ([c].length = 1))) = true := by
          have z1 : isAz [c] = true := isAz_iff.mpr fun d hd => by rw [List.mem_singleton] at hd; rw [hd]; exact hc
          rw [z1]
          show (decide (0 ≤ ((n : Nat) : Int)) && decide (((n : Nat) : Int) < ((tx (([] :: ws) ++ done)).length : Nat)) && (true && true)) = true
          rw [decide_eq_true (by omega), decide_eq_true (by rw [List.length_map]; omega)]
          rfl
        rw [hb2] at pr
        refine ⟨.ref qa, _, true, rfl, pr, fun H6 s6 => ⟨_, rfl, ?_⟩⟩
        refine ⟨_, rfl, qa, _, rfl, SqT.of (s6 _ _ hq5), rfl, _, _, rfl, _, _, rfl, rfl, ?_⟩
        have e16 := s6 _ _ e1'
        have e26 := s6 _ _ e2'
        have hix : (tx (([] :: ws) ++ done))[n]? = some (.str (S l)) := by
          rw [List.getElem?_map, hW]
          rfl
        refine ⟨_, rfl, _, rfl, A2, _, _, _, rfl, rfl, SqL.of e16, atI_nat hix, _, rfl, S l, S [c], rfl, rfl, ?_, ?_⟩
        · rw [SX.S_len, SX.S_len]
          exact Nat.le_trans (show l.length + 1 ≤ 120000 by omega) (by decide)
        rw [SX.S_cat]
        refine ⟨_, rfl, _, rfl, d, _, rfl, DGet.k (k := Sum.inr (S (l ++ [c]))) e26, _, rfl, ?_⟩
        rw [num_is, decide_eq_false hn]
        refine ⟨_, rfl, A2, _, rfl, .inl (SqL.of e16), _, rfl, _, rfl, d, _, rfl, DPut.k (k := Sum.inr (S (l ++ [c]))) e26 ?_, ?_⟩
        · rw [num_len]
          exact Nat.lt_of_le_of_lt hWlen (by decide)
        have el : ((tx (([] :: ws) ++ done)).length : Int) = ((([] : List Nat) :: ws) ++ done).length := by rw [List.length_map]
        rw [el, num_put hn]
        have e17 : ∀ o, upd H6 d o A2 = some (.lst (tx (([] :: ws) ++ done))) := fun o => by rw [upd_ne nAd]; exact e16
        refine ⟨_, rfl, .inl ⟨rfl, _, SqL.of (e17 _)⟩, _, rfl, A2, _, _, rfl, rfl, e17 _, ?_, ?_⟩
        · rw [List.length_map]
          exact Nat.lt_of_le_of_lt hWlen (by decide)
        refine ⟨done ++ [l ++ [c]], nsr, _, _, _, _, _, rfl, same_push (same_push (s5.trans s6) ndH) nAH, ?_, ?_, ?_, ?_, ?_, fun m hm => ?_⟩
        · rw [upd_same, ← List.append_assoc, tx_snoc]
        · rw [upd_ne nAd.symm, upd_same, ← List.append_assoc]
        · rw [List.length_append, hdn]
          rfl
        · rw [hns, List.append_assoc]
          rfl
        · rw [← List.append_assoc]
          exact hgr
        · rw [← List.append_assoc] at hm
          rcases List.mem_append.mp hm with z | z
          · have := hlen m z
            omega
          · rw [List.mem_singleton] at z
            rw [z, List.length_append, List.length_singleton]
            omega
    · rintro σ H4 ⟨done, rest, y4, y5, y6, y7, y8, rfl, s4, e1, e2, hdn, hns, hgd, hlen⟩
      rw [List.length_map, hpl, List.drop_length] at hgd
      cases hgd
      rw [List.append_nil] at hns
      subst hns
      refine ⟨⟨_, rfl⟩, _, rfl, _, rfl, a, _, rfl, .inr (SqT.of (s4 _ _ ha)), _, _, rfl, rfl, _, rfl, A2, _, rfl, SqL.of e1, fun p np => ?_⟩
      have e5 : ((tx ws).length : Int) + 1 = ((ws.length + 1 : Nat) : Int) := by rw [List.length_map]; omega
      rw [e5, cut_from]
      have e2' : (([] :: ws) ++ ns).drop (ws.length + 1) = ns := by
        show (ws ++ ns).drop ws.length = ns
        exact List.drop_left
      have e3 : (tx (([] :: ws) ++ ns)).drop (ws.length + 1) = tx ns := by rw [tx, ← List.map_drop, e2']
      rw [e3]
      refine ⟨_, p, ns.map S, rfl, rfl, .inl (SqL.of (by rw [upd_same, ← tx_str])), ?_, ?_⟩
      · have es : ((ns.map S).map (·.length)).sum = ns.flatten.length := by
          rw [SX.lens, List.length_flatten]
        rw [es, show (Str.ofString "").length = 0 from by decide +kernel]
        omega
      · rw [join_tx]
        exact q _ _ rfl (s4.trans (same_new np))
end
end Lk
end
section
set_option maxRecDepth 100000
set_option maxHeartbeats 2000000
namespace Lk
open PySem PySem.Spec PyProof.Rows L2
def trueK (fs : List (List Nat)) : List (Key × V) := fs.map fun l => (Sum.inr (S l), V.bl true)
theorem true_val : ∀ (fs : List (List Nat)) (l : List Nat), valV (trueK fs) (Sum.inr (S l)) = if l ∈ fs then some (V.bl true) else none
  | [], l => by rw [if_neg (by simp)]; rfl
  | x :: r, l => by
    by_cases h : x = l
    · subst h
      rw [if_pos List.mem_cons_self]
      exact valV_pos rfl
    · have e : valV (trueK (x :: r)) (Sum.inr (S l)) = valV (trueK r) (Sum.inr (S l)) := valV_neg fun z => h (SX.S_inj (Sum.inr.inj z))
      rw [e, true_val r l]
      have hm : l ∈ x :: r ↔ l ∈ r := ⟨fun z => (List.mem_cons.mp z).resolve_left fun q => h q.symm, List.mem_cons_of_mem _⟩
      by_cases hr : l ∈ r
      · rw [if_pos hr, if_pos (hm.mpr hr)]
      · rw [if_neg hr, if_neg fun z => hr (hm.mp z)]
def addW (fs : List (List Nat)) (l : List Nat) : List (List Nat) := if l ∈ fs then fs else fs ++ [l]
theorem true_put (fs : List (List Nat)) (l : List Nat) : putK (trueK fs) (Sum.inr (S l)) (.bl true) = trueK (addW fs l) := by
  unfold addW
  by_cases h : l ∈ fs
  · rw [if_pos h]
    have z : (trueK fs).any (fun kv => decide (kv.1 = Sum.inr (S l))) = true := by
      rw [valV_any, true_val, if_pos h]
      rfl
    unfold putK
    rw [if_pos z]
    unfold trueK
    rw [List.map_map]
    refine List.map_congr_left fun x _ => ?_
    show (if (Sum.inr (S x) : Key) = Sum.inr (S l) then ((Sum.inr (S x) : Key), V.bl true) else (Sum.inr (S x), V.bl true)) = _
    split <;> rfl
  · rw [if_neg h]
    have z : valV (trueK fs) (Sum.inr (S l)) = none := by rw [true_val, if_neg h]
    rw [putK_new _ z]
    unfold trueK
    rw [List.map_append]
    rfl
theorem addW_mem {fs : List (List Nat)} {l x : List Nat} : x ∈ addW fs l ↔ x ∈ fs ∨ x = l := by
  unfold addW
  by_cases h : l ∈ fs
  · rw [if_pos h]
    exact ⟨.inl, fun z => z.elim id fun e => e ▸ h⟩
  · rw [if_neg h, List.mem_append, List.mem_singleton]
theorem addW_nodup {fs : List (List Nat)} {l : List Nat} (h : fs.Nodup) : (addW fs l).Nodup := by
  unfold addW
  by_cases c : l ∈ fs
  · rw [if_pos c]; exact h
  · rw [if_neg c, List.nodup_append]
    refine ⟨h, List.nodup_cons.mpr ⟨by simp, List.nodup_nil⟩, fun x hx y hy z => ?_⟩
    rw [List.mem_singleton] at hy
    exact c (by rw [← hy, ← z]; exact hx)
theorem addW_len (fs : List (List Nat)) (l : List Nat) : (addW fs l).length ≤ fs.length + 1 := by
  unfold addW
  split
  · omega
  · rw [List.length_append]; simp
theorem true_len (fs : List (List Nat)) : (trueK fs).length = fs.length := List.length_map _
/-- what the found words are -/
structure Found (fs : List (List Nat)) (m : Nat) : Prop where
  nd : fs.Nodup
  len : fs.length ≤ m
  word : ∀ l ∈ fs, isWord l = true ∧ l.length ≤ 9
  clos : ∀ l ∈ fs, l.take (l.length - 1) ∈ ([] : List Nat) :: fs
theorem Found.add {fs : List (List Nat)} {m : Nat} (h : Found fs m) {l : List Nat} (hw : isWord l = true) (h9 : l.length ≤ 9) (hc : l.take (l.length - 1) ∈ ([] : List Nat) :: fs) : Found (addW fs l) (m + 1) where
  nd := addW_nodup h.nd
  len := Nat.le_trans (addW_len fs l) (Nat.succ_le_succ h.len)
  word := fun x hx => by
    rcases addW_mem.mp hx with z | z
    · exact h.word x z
    · rw [z]; exact ⟨hw, h9⟩
  clos := fun x hx => by
    have up : ∀ y, y ∈ ([] : List Nat) :: fs → y ∈ ([] : List Nat) :: addW fs l := fun y hy => by
      rcases List.mem_cons.mp hy with z | z
      · rw [z]; exact List.mem_cons_self
      · exact List.mem_cons_of_mem _ (addW_mem.mpr (.inl z))
    rcases addW_mem.mp hx with z | z
    · exact up _ (h.clos x z)
    · rw [z]; exact up _ hc
/-- sorted of unlike texts is rising -/
theorem rise_of_sorted : ∀ {us : List (List Nat)}, sortedS (us.map S) = true → us.Nodup → Rise us = true
  | [], _, _ => rfl
  | [_], _, _ => rfl
  | a :: b :: r, h, nd => by
    have h' : (!ltCps (S b).cps.toList (S a).cps.toList && risingS (S b) (r.map S)) = true := h
    rw [Bool.and_eq_true] at h'
    have nd' := List.nodup_cons.mp nd
    have ih := rise_of_sorted (us := b :: r) h'.2 nd'.2
    show (decide (a < b) && Rise (b :: r)) = true
    rw [ih, Bool.and_true, decide_eq_true_eq]
    have h1 := h'.1
    rw [ltCps_eq, Bool.not_eq_true', decide_eq_false_iff_not] at h1
    have h2 : ¬ b < a := h1
    by_cases z : a < b
    · exact z
    · have e : a = b := List.le_antisymm (List.not_lt.mp h2) (List.not_lt.mp z)
      exact absurd (e ▸ List.mem_cons_self) nd'.1
theorem isKnown_of {us fs : List (List Nat)} (p : us.Perm fs) (hs : sortedS (us.map S) = true) (nd : fs.Nodup) (hw : ∀ l ∈ fs, isWord l = true) (hc : ∀ l ∈ fs, l.take (l.length - 1) ∈ ([] : List Nat) :: fs) : isKnown us = true := by
  refine isKnown_iff.mpr ⟨List.all_eq_true.mpr fun l hl => hw l (p.mem_iff.mp hl), rise_of_sorted hs (p.symm.nodup nd), List.all_eq_true.mpr fun l hl => decide_eq_true ?_⟩
  rcases List.mem_cons.mp (hc l (p.mem_iff.mp hl)) with z | z
  · rw [z]; exact List.mem_cons_self
  · exact List.mem_cons_of_mem _ (p.mem_iff.mpr z)
end Lk
end
section
set_option maxRecDepth 100000
set_option maxHeartbeats 2000000
namespace Lk
open PySem PySem.Spec PyProof.Rows L2
abbrev nW : List Str := ["bag", "kinds", "found", "k", "word", "stop", "j"]
section
variable {P : Program} {w : World} {K : PySem.W.Frag} {mg : Str → Option Value} {base : Heap}
/-- what may be known: a new tuple of such words -/
def spLKnown : Sp := fun vs H Q _ => ∃ (a : Addr) (n : Int) (b : Int × Int × Int), vs = [.ref a, .int n] ∧ H a = some (bagO b) ∧ 0 < n ∧ n ≤ 26 ∧
  ∀ p ws H', H p = none → H' p = some (.tup (tx ws)) → isKnown ws = true → ws.length ≤ 63 → (∀ l ∈ ws, l.length ≤ 9) → Bag H' a → SameBut a H H' → Q (.ref p) H'
theorem sc_lknown : FnScope nW ["bag", "kinds"] (defScope s_law_known) := ⟨rfl, rfl, rfl, by decide +kernel, rfl, by decide +kernel, by decide +kernel⟩
theorem ok_lknown {f : Addr} {fd : FuncData} (F : Fun K "_law_known" "_law_known" s_law_known f fd) (pick : C8.Cal P w K mg base 1 "_law_pick" spPick []) (mr : mg "range" = none) (ml : mg "len" = none) (mt : mg "tuple" = none) (ms : mg "sorted" = none) : FnOk P w K mg base CX0 2 f fd ["bag", "kinds"] spLKnown := by
  refine F.ok sc_lknown (fun vs H Q E h => ?_) (fun cdv A outer s H vs Q E hr h => ?_)
  · obtain ⟨a, n, b, rfl, _⟩ := h
    rfl
  · obtain ⟨a, n, b, rfl, hb, n0, n26, q⟩ := h
    have nd := sc_lknown.nd
    have hu := hu_of hr
    refine ⟨_, pss_cons (by exact (ps_set (i := 2) nd rfl (Or.inl rfl) pe_dnewK))
      (pss_cons (by exact (ps_for PassesOwn.never rfl (pi_range1 (by rfl) mr (pa_cons (C8.pe_c pick hr (by decide) rfl (pa_cons (pv 0) (pa_cons pe_int pa_nil))) pa_nil)) (pg_name (i := 3) nd rfl (Or.inl rfl))
        (by exact (pss_cons (by exact (ps_set (i := 4) nd rfl (Or.inl rfl) (pe_join pe_str (pe_lc (own := [("j", 6)]) (g := gName 6) (tt := tYes) rfl nd (pi_range1 (by rfl) mr (pa_cons (pe_op op_add pe_int (C8.pe_c pick hr (by decide) rfl (pa_cons (pv 0) (pa_cons pe_int pa_nil)))) pa_nil)) (blkOk_by (N := nW) (sc := defScope s_law_known) (by decide +kernel))
            (fun _ _ _ _ _ => pg_name (i := 6) nd rfl (Or.inl rfl)) (fun _ _ _ _ _ => pts_nil)
            (fun _ _ _ _ _ => pe_item_str pe_str (C8.pe_c pick hr (by decide) rfl (pa_cons (pv 0) (pa_cons (pv 1) pa_nil))) (fun _ _ => rfl))))))
          (pss_one (by exact (ps_for PassesOwn.never rfl (pi_range1 (by rfl) mr (pa_cons (pe_callB call_len_str (by rfl) ml PySem.boot_len (pa_cons (pv 4) pa_nil)) pa_nil)) (pg_name (i := 5) nd rfl (Or.inl rfl))
            (pss_one (by exact (ps_dput hu (pv 2) (pe_slice C8.sl_txt (pv 4) po_none (po_some (pe_op op_add (pv 5) pe_int))) pe_bl rfl))))))))))
      (pss_one (by exact (ps_ret (pe_callTy call_tuple_of (by rfl) mt (by decide +kernel) (pa_cons (pe_callB (call_sortedD rfl) (by rfl) ms (by decide +kernel) (pa_cons (pv 2) pa_nil)) pa_nil)))))), ?_⟩
    refine fun d nd0 => ?_
    have nad : a ≠ d := ne_of_none hb nd0
    refine ⟨_, rfl, a, 8, b, rfl, (by rw [upd_ne nad]; exact hb), by decide, by decide, fun v b1 v0 v8 => ?_⟩
    refine ⟨v, rfl, by omega, by omega, ?_⟩
    refine for_range (lo := 0) (n := v.toNat) (fun i σ H1 => ∃ (fs : List (List Nat)) (y3 y4 y5 y6 : Option V), σ = [some (.ref a), some (.int n), some (.ref d), y3, y4, y5, y6] ∧ H1 d = some (.dK (trueK fs)) ∧ Found fs (9 * i) ∧ Bag H1 a ∧ SameBut a H H1)
      ⟨[], _, _, _, _, rfl, ?_, ⟨List.nodup_nil, Nat.zero_le _, fun l hl => (by cases hl), fun l hl => (by cases hl)⟩, ⟨b1, upd_same⟩, fun c o hc e => ?_⟩ ?_ ?_
    · exact (upd_ne nad.symm).trans upd_same
    · rw [upd_ne hc, upd_ne (ne_of_none e nd0)]
      exact e
    · rintro i σ H1 hi ⟨fs, y3, y4, y5, y6, rfl, e1, fo, ⟨b2, hb2⟩, sb⟩
      refine ⟨⟨_, rfl⟩, _, rfl, a, 9, b2, rfl, hb2, by decide, by decide, fun m b3 m0 m9 => ?_⟩
      refine ⟨1, m, rfl, rfl, 1 + m, rfl, by omega, by omega, fun D nD => ?_⟩
      have nDa : D ≠ a := fun z => by rw [z, upd_same] at nD; cases nD
      have nD1 : H1 D = none := by rw [upd_ne nDa] at nD; exact nD
      have nDd : D ≠ d := fun z => by rw [z, e1] at nD1; cases nD1
      have nDH : H D = none := by
        cases e : H D with
        | none => rfl
        | some o => rw [sb D o nDa e] at nD1; cases nD1
      refine lc_range (lo := 0) (n := (1 + m).toNat) (fun i H3 => ∃ l, Az l ∧ l.length = i ∧ H3 D = some (.lst (l.map fun c => V.str (S [c]))) ∧ Bag H3 a ∧ H3 d = some (.dK (trueK fs)) ∧ SameBut a H H3) ?_ ?_ ?_
      · refine ⟨[], (fun c h => by cases h), rfl, upd_same, ⟨b3, by rw [upd_ne nDa.symm, upd_same]⟩, ?_, ?_⟩
        · rw [upd_ne nDd.symm, upd_ne nad.symm]
          exact e1
        · refine fun c o hc e => ?_
          rw [upd_ne (ne_of_none e nDH), upd_ne hc]
          exact sb c o hc e
      · rintro j H3 hj ⟨l, az, hl, eD, ⟨b4, hb4⟩, ed, sb3⟩
        refine ⟨rfl, _, rfl, _, rfl, a, n, b4, rfl, hb4, n0, by omega, fun u b5 u0 u1 => ?_⟩
        have e26 : u.toNat < 26 := by omega
        refine ⟨_, u, 97 + u.toNat, rfl, rfl, u0, by omega, (by rw [alpha_len]; omega), alpha_at e26, l.map (fun c => V.str (S [c])), by rw [upd_ne nDa]; exact eD, ?_, l ++ [97 + u.toNat], ?_, ?_, ?_, ⟨b5, by rw [upd_ne nDa.symm, upd_same]⟩, ?_, ?_⟩
        · rw [List.length_map, hl]
          exact Nat.lt_of_lt_of_le (show j < 1000001 by omega) (by decide)
        · intro c hc
          rcases List.mem_append.mp hc with h | h
          · exact az c h
          · rw [List.mem_singleton] at h
            omega
        · rw [List.length_append, hl]
          rfl
        · rw [upd_same, List.map_append]
          rfl
        · rw [upd_ne nDd.symm, upd_ne nad.symm]
          exact ed
        · refine fun c o hc e => ?_
          rw [upd_ne (ne_of_none e nDH), upd_ne hc]
          exact sb3 c o hc e
      · rintro H3 ⟨l, az, hl, eD, hb3, ed, sb3⟩
        have l1 : 1 ≤ l.length := by omega
        have l9 : l.length ≤ 9 := by omega
        have hsz : (S l).length ≤ sizeLine := by rw [SX.S_len]; exact Nat.le_trans l9 (by decide)
        refine ⟨_, D, l.map fun c => S [c], rfl, rfl, .inl (SqL.of (by rw [List.map_map]; exact eD)), ?_, ?_⟩
        · have e : ((l.map fun c => S [c]).map (·.length)).sum = l.length := by
            rw [List.map_map]
            clear eD hl az l1 l9 hsz
            induction l with
            | nil => rfl
            | cons c r ih =>
              rw [List.map_cons, List.sum_cons, ih, List.length_cons]
              show 1 + r.length = r.length + 1
              omega
          rw [e, List.length_map, show (Str.ofString "").length = 0 from by decide +kernel]
          omega
        rw [join_ones]
        refine ⟨_, rfl, S l, rfl, hsz, _, rfl, ?_, ?_, ?_⟩
        · rw [SX.S_len]; omega
        · rw [SX.S_len]; omega
        rw [SX.S_len, Int.toNat_natCast]
        refine for_range (lo := 0) (n := l.length) (fun j σ H4 => ∃ (gs : List (List Nat)) (z3 z5 z6 : Option V), σ = [some (.ref a), some (.int n), some (.ref d), z3, some (.str (S l)), z5, z6] ∧ H4 d = some (.dK (trueK gs)) ∧ Found gs (9 * i + j) ∧ (0 < j → l.take j ∈ gs) ∧ Bag H4 a ∧ SameBut a H H4)
          ⟨fs, _, _, _, rfl, ed, fo, fun z => absurd z (by omega), hb3, sb3⟩ ?_ ?_
        · rintro j σ H4 hj ⟨gs, z3, z5, z6, rfl, e4, fg, hpre, hb4, sb4⟩
          refine ⟨_, rfl, _, rfl, _, rfl, _, _, rfl, rfl, _, rfl, S l, rfl, hsz, ?_⟩
          rw [SX.slice_to (by omega), show ((0 : Int) + (j : Nat) + 1).toNat = j + 1 by omega]
          have lt : (l.take (j + 1)).length = j + 1 := by rw [List.length_take]; omega
          refine ⟨d, _, rfl, DPut.k (k := Sum.inr (S (l.take (j + 1)))) e4 ?_, ?_⟩
          · rw [true_len]
            exact Nat.lt_of_le_of_lt (Nat.le_trans fg.len (show 9 * i + j ≤ 100 by omega)) (by decide)
          rw [true_put]
          have hww : isWord (l.take (j + 1)) = true := isWord_iff.mpr ⟨fun c hc => az c (List.mem_of_mem_take hc), by omega⟩
          have hcc : (l.take (j + 1)).take ((l.take (j + 1)).length - 1) ∈ ([] : List Nat) :: gs := by
            rw [lt, List.take_take, show min (j + 1 - 1) (j + 1) = j by omega]
            by_cases z : 0 < j
            · exact List.mem_cons_of_mem _ (hpre z)
            · rw [show j = 0 by omega]
              exact List.mem_cons_self
          obtain ⟨b4, hb4⟩ := hb4
          refine ⟨addW gs (l.take (j + 1)), _, _, _, rfl, upd_same, fg.add hww (by omega) hcc, fun _ => addW_mem.mpr (.inr rfl), ⟨b4, by rw [upd_ne nad]; exact hb4⟩, fun c o hc e => ?_⟩
          rw [upd_ne (ne_of_none e nd0)]
          exact sb4 c o hc e
        · rintro σ H4 ⟨gs, z3, z5, z6, rfl, e4, fg, hpre, hb4, sb4⟩
          exact ⟨gs, _, _, _, _, rfl, e4, ⟨fg.nd, Nat.le_trans fg.len (by omega), fg.word, fg.clos⟩, hb4, sb4⟩
    · rintro σ H1 ⟨fs, y3, y4, y5, y6, rfl, e1, fo, bg, sb⟩
      have h63 : fs.length ≤ 63 := by have := fo.len; omega
      refine ⟨_, rfl, d, _, fs.map S, rfl, .inl e1, ?_, by rw [List.length_map]; omega, fun ys p2 hperm hsort np2 => ?_⟩
      · unfold trueK
        rw [List.map_map, List.map_map]
        rfl
      obtain ⟨us, rfl, hus⟩ : ∃ us : List (List Nat), ys = us.map S ∧ us.Perm fs := by
        refine ⟨ys.map fun y => y.cps.toList, ?_, ?_⟩
        · rw [List.map_map]
          exact (List.map_id' ys).symm.trans (List.map_congr_left fun y _ => (SX.S_tl y).symm)
        · have z := hperm.map fun y : Str => y.cps.toList
          rw [List.map_map] at z
          refine z.trans ?_
          rw [show ((fun y : Str => y.cps.toList) ∘ S) = id from rfl, List.map_id]
      refine ⟨p2, _, rfl, .inl ⟨SqL.of upd_same, fun p3 np3 => ?_⟩⟩
      obtain ⟨b2, hb2⟩ := bg
      have nap2 : a ≠ p2 := ne_of_none hb2 np2
      have hb3 : upd H1 p2 (.lst ((us.map S).map V.str)) a = some (bagO b2) := by rw [upd_ne nap2]; exact hb2
      have nap3 : a ≠ p3 := ne_of_none hb3 np3
      have keep : ∀ c o, c ≠ a → H c = some o → upd (upd H1 p2 (.lst ((us.map S).map V.str))) p3 (.tup ((us.map S).map V.str)) c = some o := fun c o hc e => by
        have z := sb c o hc e
        have z2 : upd H1 p2 (.lst ((us.map S).map V.str)) c = some o := by rw [upd_ne (ne_of_none z np2)]; exact z
        rw [upd_ne (ne_of_none z2 np3)]
        exact z2
      have np3H : H p3 = none := by
        cases e : H p3 with
        | none => rfl
        | some o =>
          have z := sb p3 o nap3.symm e
          have z2 : upd H1 p2 (.lst ((us.map S).map V.str)) p3 = some o := by rw [upd_ne (ne_of_none z np2)]; exact z
          rw [np3] at z2
          cases z2
      refine q p3 us _ np3H ?_ (isKnown_of hus hsort fo.nd (fun l hl => (fo.word l hl).1) fo.clos) (by rw [hus.length_eq]; exact h63) (fun l hl => (fo.word l (hus.mem_iff.mp hl)).2) ⟨b2, by rw [upd_ne nap3]; exact hb3⟩ keep
      rw [upd_same, tx_str]
end
end Lk
end
section
set_option maxRecDepth 100000
set_option maxHeartbeats 2000000
/-! What reading is: mathematics. -/
namespace Lk
open PySem PySem.Spec PyProof.Rows L2
theorem Reads.rest {W : List (List Nat)} {t : List Nat} {a r : Nat} {ns : List (List Nat)} (h : Reads W t a ns r) : ns.flatten ++ t.drop r = t.drop a ∧ a ≤ r ∧ r ≤ t.length := by
  induction h with
  | done h => exact ⟨rfl, Nat.le_refl _, h.ge⟩
  | more h he hr ih =>
    rename_i W t a e r ns
    have hae := h.ge
    refine ⟨?_, by omega, ih.2.2⟩
    rw [List.flatten_cons, List.append_assoc, ih.1]
    unfold sub
    have e1 : t.drop (e + 1) = (t.drop a).drop (e + 1 - a) := by rw [List.drop_drop, show a + (e + 1 - a) = e + 1 by omega]
    rw [e1, List.take_append_drop]
theorem LE.congr {W W' : List (List Nat)} {t : List Nat} {a e : Nat} (h : LE W t a e) (m : ∀ x, x ∈ W ↔ x ∈ W') : LE W' t a e :=
  ⟨h.ge, h.le, fun j j1 j2 => (m _).mp (h.all j j1 j2), fun z y => h.no z ((m _).mpr y)⟩
theorem Reads.congr {W W' : List (List Nat)} {t : List Nat} {a r : Nat} {ns : List (List Nat)} (h : Reads W t a ns r) (m : ∀ x, x ∈ W ↔ x ∈ W') : Reads W' t a ns r := by
  induction h generalizing W' with
  | done h => exact .done (h.congr m)
  | more h he hr ih => exact .more (h.congr m) he (ih fun x => by rw [List.mem_append, List.mem_append, m x])
theorem sub_drop (s : List Nat) (a b j : Nat) : sub (s.drop a) b j = sub s (a + b) (a + j) := by
  unfold sub
  rw [List.drop_drop, show a + j - (a + b) = j - b by omega]
theorem LE.shift {W : List (List Nat)} {s : List Nat} {a b e : Nat} (ha : a ≤ s.length) (h : LE W (s.drop a) b e) : LE W s (a + b) (a + e) := by
  have hl : (s.drop a).length = s.length - a := List.length_drop
  have h1 := h.ge
  have h2 := h.le
  refine ⟨by omega, by omega, fun j j1 j2 => ?_, fun z => ?_⟩
  · have z := h.all (j - a) (by omega) (by omega)
    rw [sub_drop, show a + (j - a) = j by omega] at z
    exact z
  · have y := h.no (by omega)
    rw [sub_drop] at y
    exact y
theorem Reads.shift {W : List (List Nat)} {s t : List Nat} {a b r : Nat} {ns : List (List Nat)} (ha : a ≤ s.length) (et : t = s.drop a) (h : Reads W t b ns r) : Reads W s (a + b) ns (a + r) := by
  induction h with
  | done h =>
    rename_i W t b
    subst et
    have hl : (s.drop a).length = s.length - a := List.length_drop
    have z := h.shift ha
    rw [hl, show a + (s.length - a) = s.length by omega] at z
    exact .done z
  | more h he hr ih =>
    rename_i W t b e r ns
    subst et
    have hl : (s.drop a).length = s.length - a := List.length_drop
    have z := h.shift ha
    have y := ih rfl
    rw [sub_drop] at y ⊢
    exact .more (e := a + e) z (show a + e < s.length by omega) y
theorem sub_app {t o : List Nat} {a j : Nat} (h : j ≤ t.length) : sub (t ++ o) a j = sub t a j := by
  unfold sub
  by_cases c : a ≤ t.length
  · rw [List.drop_append_of_le_length c, List.take_append_of_le_length (by rw [List.length_drop] <;> omega)]
  · rw [show j - a = 0 by omega]
    rfl
theorem LE.app {W : List (List Nat)} {t o : List Nat} {a e : Nat} (h : LE W t a e) (he : e < t.length) : LE W (t ++ o) a e := by
  refine ⟨h.ge, by rw [List.length_append]; omega, fun j j1 j2 => ?_, fun _ => ?_⟩
  · rw [sub_app (by omega)]
    exact h.all j j1 j2
  · rw [sub_app (by omega)]
    exact h.no he
/-- read on behind a first part -/
theorem Reads.on {W : List (List Nat)} {t o : List Nat} {a r r2 : Nat} {ns more : List (List Nat)} (h : Reads W t a ns r) (h2 : Reads (W ++ ns) (t.drop r ++ o) 0 more r2) : Reads W (t ++ o) a (ns ++ more) (r + r2) := by
  induction h with
  | done h =>
    rename_i W t a
    rw [List.append_nil] at h2
    have z := h.ge
    have y := h2.shift (s := t ++ o) (a := a) (by rw [List.length_append]; omega) (by rw [List.drop_append_of_le_length z])
    exact y
  | more h he hr ih =>
    rename_i W t a e r ns
    rw [List.append_assoc] at ih
    have y := ih h2
    rw [List.cons_append, ← sub_app (o := o) (by omega)]
    refine .more (h.app he) (by rw [List.length_append]; omega) ?_
    rw [sub_app (by omega)]
    exact y
/-- a beginning of a text is read into a beginning of its words -/
theorem Reads.pre {W : List (List Nat)} {t o : List Nat} {a r r' : Nat} {ns ns' : List (List Nat)} (h : Reads W t a ns r) (h' : Reads W (t ++ o) a ns' r') : ∃ rest, ns' = ns ++ rest := by
  induction h generalizing ns' r' with
  | done h => exact ⟨ns', rfl⟩
  | more h he hr ih =>
    rename_i W t a e r ns
    have z := h.app (o := o) he
    cases h' with
    | done h' =>
      have := h'.uniq z
      rw [List.length_append] at this
      omega
    | more h' he' hr' =>
      have e1 := z.uniq h'
      subst e1
      rw [sub_app (by omega)] at hr' ⊢
      obtain ⟨rest, e2⟩ := ih hr'
      exact ⟨rest, by rw [e2]; rfl⟩
end Lk
end
section
set_option maxRecDepth 100000
set_option maxHeartbeats 2000000
namespace Lk
open PySem PySem.Spec PyProof.Rows L2
/-- said n times -/
def rep (n : Nat) (l : List Nat) : List Nat := (List.replicate n l).flatten
theorem rep_len (n : Nat) (l : List Nat) : (rep n l).length = n * l.length := by
  induction n with
  | zero => simp [rep]
  | succ n ih =>
    unfold rep at ih ⊢
    rw [List.replicate_succ, List.flatten_cons, List.length_append, ih, Nat.succ_mul]
    omega
theorem fold_cat (c : Array Nat) : ∀ (n : Nat) (acc : Array Nat), ((List.replicate n c).foldl (· ++ ·) acc).toList = acc.toList ++ rep n c.toList
  | 0, acc => by simp [rep]
  | n + 1, acc => by
    rw [List.replicate_succ, List.foldl_cons, fold_cat c n (acc ++ c)]
    simp [rep, List.replicate_succ]
theorem mul_S (l : List Nat) (n : Nat) : Txt.mul (S l) (n : Int) = S (rep n l) := by
  unfold Txt.mul
  by_cases h0 : (n : Int) < 1
  · rw [if_pos h0]
    have e : n = 0 := by omega
    subst e
    rfl
  · rw [if_neg h0]
    by_cases h1 : ((n : Int) == 1 || (S l).length == 0) = true
    · rw [if_pos h1]
      rw [Bool.or_eq_true, beq_iff_eq, beq_iff_eq, SX.S_len] at h1
      rcases h1 with h1 | h1
      · have e : n = 1 := by omega
        subst e
        simp [rep]
      · have e : l = [] := List.eq_nil_of_length_eq_zero h1
        subst e
        have z : rep n [] = [] := List.eq_nil_of_length_eq_zero (by rw [rep_len]; simp)
        rw [z]
    · rw [if_neg h1]
      have z := fold_cat l.toArray n #[]
      have e : ((List.replicate n l.toArray).foldl (· ++ ·) #[]) = (rep n l).toArray := by
        apply Array.toList_inj.mp
        rw [z]
        simp
      show Str.mk ((List.replicate n l.toArray).foldl (· ++ ·) #[]) = _
      rw [e]
theorem op_mulS {X : Cx} : OpR X (binaryOp .Mult) (fun x y H Q => ∃ (l : List Nat) (n : Nat), x = .str (S l) ∧ y = .int n ∧ n ≤ 100000 ∧ n * l.length ≤ 1000000 ∧ Q (.str (S (rep n l))) H) := by
  intro pins s σ H x y v u Q I rx ry h
  obtain ⟨l, n, rfl, rfl, hn, hl, q⟩ := h
  obtain ⟨t, rfl⟩ := rx
  obtain ⟨t', rfl⟩ := ry
  refine SB.mul ⟨?_, ?_, ?_⟩ fun t2 k => ⟨.str (S (rep n l)), H, I.tok _, ⟨t2, by rw [mul_S]⟩, q⟩
  · rw [Bool.or_eq_false_iff, decide_eq_false_iff_not, decide_eq_false_iff_not]
    omega
  · intro h1 _ h2
    rw [SX.S_len] at h2
    have h3 : (0 : Int) < n := by omega
    have h4 : (2 ^ 63 - 1 : Int) / n < l.length := h2
    have h5 := (Int.ediv_lt_iff_lt_mul h3).mp h4
    have h6 : ((l.length : Int) * n) ≤ 1000000 := by
      have z : ((n * l.length : Nat) : Int) ≤ 1000000 := by omega
      rw [Int.natCast_mul] at z
      rw [Int.mul_comm]
      exact z
    omega
  · intro _ _
    rw [SX.S_len, Int.toNat_natCast, Nat.mul_comm]
    unfold Builtin.Str.tooLong
    rw [sizeLine_eq]
    simp
    omega
theorem az_rep {l : List Nat} (h : Az l) (n : Nat) : Az (rep n l) := by
  intro c hc
  unfold rep at hc
  obtain ⟨m, hm, hc⟩ := List.mem_flatten.mp hc
  rw [List.eq_of_mem_replicate hm] at hc
  exact h c hc
section
variable {P : Program} {w : World} {K : PySem.W.Frag} {mg : Str → Option Value} {base : Heap}
/-- a text of the law's own -/
def spLText : Sp := fun vs H Q _ => ∃ (a : Addr) (b : Int × Int × Int), vs = [.ref a] ∧ H a = some (bagO b) ∧ ∀ l H', Az l → l.length ≤ 600 → Bag H' a → SameBut a H H' → Q (.str (S l)) H'
theorem sc_ltext : FnScope ["bag", "many", "some"] ["bag"] (defScope s_law_text) := ⟨rfl, rfl, rfl, by decide +kernel, rfl, by decide +kernel, by decide +kernel⟩
theorem ok_ltext {f : Addr} {fd : FuncData} (F : Fun K "_law_text" "_law_text" s_law_text f fd) (cp : C8.Cal P w K mg base 1 "_law_pick" spPick []) (cs : C8.Cal P w K mg base 2 "_law_some" spSome []) (ml : mg "len" = none) : FnOk P w K mg base CX0 3 f fd ["bag"] spLText := by
  refine F.ok sc_ltext (fun vs H Q E h => ?_) (fun cdv A outer s H vs Q E hr h => ?_)
  · obtain ⟨a, b, rfl, _⟩ := h
    rfl
  · obtain ⟨a, b, rfl, hb, q⟩ := h
    have nd := sc_ltext.nd
    refine ⟨_, pss_cons (by exact (ps_set (i := 1) nd rfl (Or.inl rfl) (pe_ix ix_list (pe_lst (pa_cons (C8.pe_c cp hr (by decide) rfl (pa_cons (pv 0) (pa_cons pe_int pa_nil))) (pa_cons (C8.pe_c cp hr (by decide) rfl (pa_cons (pv 0) (pa_cons pe_int pa_nil))) pa_nil))) (C8.pe_c cp hr (by decide) rfl (pa_cons (pv 0) (pa_cons pe_int pa_nil))) (fun _ _ => rfl))))
      (pss_cons (by exact (ps_if (pt_cmpR op_eq (C8.pe_c cp hr (by decide) rfl (pa_cons (pv 0) (pa_cons pe_int pa_nil))) pe_int (nomark _)) (pss_one (ps_ret (C8.pe_c cs hr (by decide) rfl (pa_cons (pv 0) (pa_cons (pv 1) pa_nil))))) pss_nil))
      (pss_cons (by exact (ps_set (i := 2) nd rfl (Or.inl rfl) (C8.pe_c cs hr (by decide) rfl (pa_cons (pv 0) (pa_cons (pe_op op_add pe_int (C8.pe_c cp hr (by decide) rfl (pa_cons (pv 0) (pa_cons pe_int pa_nil)))) pa_nil)))))
      (pss_one (by exact (ps_ret (pe_slice C8.sl_txt (pe_op op_mulS (pv 2) (pe_op op_add (pe_op op_fdiv (pv 1) (pe_callB call_len_str (by rfl) ml PySem.boot_len (pa_cons (pv 2) pa_nil))) pe_int)) po_none (po_some (pv 1)))))))), ?_⟩
    refine ⟨_, rfl, a, 12, b, rfl, hb, by decide, by decide, fun v1 b1 v10 v11 => ?_⟩
    refine ⟨_, rfl, a, 600, b1, rfl, upd_same, by decide, by decide, fun v2 b2 v20 v21 => ⟨(by show 2 ≤ sizeLine; decide), fun p np => ?_⟩⟩
    have nap : a ≠ p := ne_of_none upd_same np
    refine ⟨_, rfl, a, 2, b2, rfl, (by rw [upd_ne nap, upd_same]), by decide, by decide, fun v3 b3 v30 v31 => ?_⟩
    have hp : ∀ o : HO, upd (upd (upd (upd H a (bagO b1)) a (bagO b2)) p (.lst [.int v1, .int v2])) a o p = some (.lst [.int v1, .int v2]) := fun o => by rw [upd_ne nap.symm, upd_same]
    have npH : H p = none := by
      rw [upd_ne nap.symm, upd_ne nap.symm] at np
      exact np
    obtain ⟨m, hm0, hm1, hm⟩ : ∃ m : Int, 0 ≤ m ∧ m < 600 ∧ atI [V.int v1, V.int v2] v3 = some (.int m) := by
      obtain ⟨k, rfl⟩ := Int.eq_ofNat_of_zero_le v30
      match k, v31 with
      | 0, _ => exact ⟨v1, v10, by omega, atI_nat rfl⟩
      | 1, _ => exact ⟨v2, v20, v21, atI_nat rfl⟩
      | k + 2, h => exact absurd h (by omega)
    refine ⟨p, _, v3, .int m, rfl, rfl, SqL.of (hp _), hm, ?_⟩
    have s3 : SameBut a H (upd (upd (upd (upd H a (bagO b1)) a (bagO b2)) p (.lst [.int v1, .int v2])) a (bagO b3)) := fun c o hc e => by
      rw [upd_ne hc, upd_ne (ne_of_none e npH), upd_ne hc, upd_ne hc]
      exact e
    have hb3 : upd (upd (upd (upd H a (bagO b1)) a (bagO b2)) p (.lst [.int v1, .int v2])) a (bagO b3) a = some (bagO b3) := upd_same
    generalize upd (upd (upd (upd H a (bagO b1)) a (bagO b2)) p (.lst [.int v1, .int v2])) a (bagO b3) = H3 at s3 hb3
    refine ⟨_, rfl, a, 2, b3, rfl, hb3, by decide, by decide, fun v4 b4 v40 v41 => ?_⟩
    have s4 : SameBut a H (upd H3 a (bagO b4)) := s3.trans sameBut_upd
    refine ⟨rfl, _, rfl, ite2 (fun g => ?_) (fun g => ?_)⟩
    · refine ⟨_, rfl, _, rfl, a, m, b4, rfl, upd_same, hm0, by omega, fun l H5 az hl bg sb => ?_⟩
      exact q l H5 az (by omega) bg (s4.trans sb)
    · refine ⟨_, rfl, _, rfl, a, 9, b4, rfl, upd_same, by decide, by decide, fun v5 b5 v50 v51 => ?_⟩
      refine ⟨1, v5, rfl, rfl, a, 1 + v5, b5, rfl, upd_same, by omega, by omega, fun l H5 az hl bg sb => ?_⟩
      have hl1 : 1 ≤ l.length ∧ l.length ≤ 9 := by omega
      have hsz : (S l).length ≤ sizeLine := by rw [SX.S_len]; exact Nat.le_trans hl1.2 (by decide)
      have s5 := (s4.trans sameBut_upd).trans sb
      refine ⟨_, rfl, _, rfl, _, rfl, S l, rfl, hsz, m, _, rfl, rfl, ?_, ?_⟩
      · rw [SX.S_len]
        constructor
        · show (0 : Int) < l.length
          omega
        · show (l.length : Int) < 1073741824
          omega
      rw [SX.S_len]
      obtain ⟨mn, rfl⟩ := Int.eq_ofNat_of_zero_le hm0
      have ed : ((mn : Nat) : Int) / (l.length : Int) = ((mn / l.length : Nat) : Int) := rfl
      have hle : mn / l.length ≤ mn := Nat.div_le_self _ _
      refine ⟨_, _, rfl, rfl, l, mn / l.length + 1, rfl, ?_, by omega, ?_, ?_⟩
      · show V.int (((mn : Nat) : Int) / (l.length : Int) + 1) = _
        rw [ed]
        rfl
      · exact Nat.le_trans (Nat.mul_le_mul (show mn / l.length + 1 ≤ 600 by omega) hl1.2) (by decide)
      refine ⟨_, rfl, _, rfl, _, rfl, ?_, ?_⟩
      · rw [SX.S_len, rep_len]
        exact Nat.le_trans (Nat.mul_le_mul (show mn / l.length + 1 ≤ 600 by omega) hl1.2) (by decide)
      rw [SX.slice_to (by omega)]
      refine q _ _ (fun c hc => az_rep az _ c (List.mem_of_mem_take hc)) ?_ bg s5
      rw [List.length_take]
      omega
end
end Lk
end
section
set_option maxRecDepth 100000
set_option maxHeartbeats 2000000
/-! Lists of words and of pairs as data. -/
namespace Lk
open PySem PySem.Spec PyProof.Rows L2
abbrev dW (ws : List (List Nat)) : List PyData := ws.map fun l => PyData.str (S l)
abbrev dR (rows : List (Nat × List Nat)) : List PyData := rows.map fun r => PyData.tuple [.int (r.1 : Nat), .str (S r.2)]
def small (l : List Nat) : Prop := ∀ c ∈ l, c < 0x110000
theorem small_az {l : List Nat} (h : Az l) : small l := fun c hc => by have := h c hc; omega
theorem strOk_of {l : List Nat} (h : small l) : PyData.strOk (S l) = true := by
  show (l.toArray).all (· < 0x110000) = true
  rw [← Array.all_toList]
  exact List.all_eq_true.mpr fun c hc => decide_eq_true (h c hc)
theorem lay_dW : ∀ {ws : List (List Nat)}, (∀ l ∈ ws, small l) → PyData.canLayAll0 (dW ws) = true ∧ PyData.depthAll (dW ws) = 0
  | [], _ => ⟨by simp [PyData.canLayAll0], by simp [PyData.depthAll]⟩
  | l :: r, h => by
    obtain ⟨h1, h2⟩ := lay_dW (ws := r) fun x hx => h x (List.mem_cons_of_mem _ hx)
    constructor
    · show PyData.canLayAll0 (.str (S l) :: dW r) = true
      rw [PyData.canLayAll0, h1, Bool.and_true, PyData.canLay0]
      exact strOk_of (h l List.mem_cons_self)
    · show PyData.depthAll (.str (S l) :: dW r) = 0
      rw [PyData.depthAll, h2]
      simp [PyData.depth]
theorem lay_dR : ∀ {rows : List (Nat × List Nat)}, (∀ r ∈ rows, small r.2) → PyData.canLayAll0 (dR rows) = true ∧ PyData.depthAll (dR rows) ≤ 1
  | [], _ => ⟨by simp [PyData.canLayAll0], by simp [PyData.depthAll]⟩
  | (n, l) :: r, h => by
    obtain ⟨h1, h2⟩ := lay_dR (rows := r) fun x hx => h x (List.mem_cons_of_mem _ hx)
    constructor
    · show PyData.canLayAll0 (.tuple [.int (n : Nat), .str (S l)] :: dR r) = true
      rw [PyData.canLayAll0, h1, Bool.and_true, PyData.canLay0, PyData.canLayAll0, PyData.canLayAll0, PyData.canLayAll0, PyData.canLay0, PyData.canLay0, Bool.true_and, Bool.and_true]
      exact strOk_of (h (n, l) List.mem_cons_self)
    · show PyData.depthAll (.tuple [.int (n : Nat), .str (S l)] :: dR r) ≤ 1
      rw [PyData.depthAll, PyData.depth, PyData.depthAll, PyData.depthAll, PyData.depthAll, PyData.depth, PyData.depth]
      omega
theorem shaped_of {ds : List PyData} (h1 : PyData.canLayAll0 ds = true) (h2 : PyData.depthAll ds ≤ 1) : SeqAt.shaped (.list ds) = true := by
  unfold SeqAt.shaped
  rw [PyData.canLay0, PyData.depth, h1, Bool.true_and, decide_eq_true_eq]
  omega
theorem shaped_ofT {ds : List PyData} (h1 : PyData.canLayAll0 ds = true) (h2 : PyData.depthAll ds ≤ 1) : SeqAt.shaped (.tuple ds) = true := by
  unfold SeqAt.shaped
  rw [PyData.canLay0, PyData.depth, h1, Bool.true_and, decide_eq_true_eq]
  omega
theorem dp_tx {K : PySem.W.Frag} {H : Hp} : ∀ ws : List (List Nat), DpAll K H (tx ws) (dW ws)
  | [] => .nil
  | l :: r => .cons (.str (S l)) (dp_tx r)
theorem dp_rows {K : PySem.W.Frag} {H : Hp} : ∀ (ps : List Addr) (rows : List (Nat × List Nat)), ps.length = rows.length → (∀ (j : Nat) (q : Addr) (r : Nat × List Nat), ps[j]? = some q → rows[j]? = some r → H q = some (.tup [.int (r.1 : Nat), .str (S r.2)])) → DpAll K H (ps.map V.ref) (dR rows)
  | [], [], _, _ => .nil
  | [], _ :: _, h, _ => by cases h
  | _ :: _, [], h, _ => by cases h
  | p :: ps, r :: rows, h, hat =>
    .cons (.tup (SqT.of (hat 0 p r rfl rfl)) (.cons (.int _) (.cons (.str _) .nil))) (dp_rows ps rows (Nat.succ.inj h) fun j q x hq hx => hat (j + 1) q x hq hx)
/-- number and letter of a new word -/
def rowOf (W : List (List Nat)) (l : List Nat) : Nat × List Nat := (W.idxOf (l.take (l.length - 1)), l.drop (l.length - 1))
theorem idx_app {W V2 : List (List Nat)} {l : List Nat} (h : l ∈ W) : (W ++ V2).idxOf l = W.idxOf l := by
  rw [List.idxOf_append, if_pos h]
theorem tx_app (a b : List (List Nat)) : tx (a ++ b) = tx a ++ tx b := List.map_append
theorem cut_pre (ys zs : List V) : cutV (ys ++ zs) none (some (ys.length : Int)) = ys := by
  unfold cutV
  rw [HT.sIx_nat, HT.sIx_none, List.drop_zero, Nat.sub_zero, List.length_append, Nat.min_eq_left (by omega)]
  exact List.take_left
theorem tx_inj : ∀ {l m : List (List Nat)}, tx l = tx m → l = m
  | [], [], _ => rfl
  | [], _ :: _, h => by cases h
  | _ :: _, [], h => by cases h
  | x :: l, y :: m, h => by
    have h1 := (List.cons.inj h).1
    have h2 := (List.cons.inj h).2
    rw [SX.S_inj (V.str.inj h1), tx_inj (l := l) (m := m) h2]
theorem knownV_of {H : Hp} {a : Addr} {ws : List (List Nat)} (ha : H a = some (.tup (tx ws))) (hks : isKnown ws = true) (hl : ws.length ≤ 100000) (hz : ∀ x ∈ ws, x.length ≤ 100000) : KnownV H (.ref a) true := by
  have z : KnownV H (.ref a) (isKnown ws) := .tup ha hl hz
  rw [hks] at z
  exact z
theorem textV_of {H : Hp} {t : List Nat} (az : Az t) (ht : t.length ≤ 2000) : TextV H (.str (S t)) true := by
  have z : TextV H (.str (S t)) (isText t) := .str t (by omega)
  rw [isText_iff.mpr ⟨az, ht⟩] at z
  exact z
theorem use_spT {CK CT : Addr} {R : List (List Nat) → List Nat → List (List Nat) → Nat → Hp → Hp → V → Prop} {H : Hp} {a : Addr} {ws : List (List Nat)} {t : List Nat} {Q : VK} {E : XK} (ha : H a = some (.tup (tx ws))) (hks : isKnown ws = true) (hl : ws.length ≤ 100000) (hz : ∀ x ∈ ws, x.length ≤ 100000)
    (az : Az t) (ht : t.length ≤ 2000) (h : ∀ ns r, Reads ([] :: ws) t 0 ns r → ∀ v H', Same H H' → R ws t ns r H H' v → Q v H') : spT CK CT R [.ref a, .str (S t)] H Q E := by
  refine ⟨_, _, true, true, rfl, knownV_of ha hks hl hz, textV_of az ht, fun z => (by cases z), fun _ z => (by cases z), fun _ _ a' ws' t' ea ha' _ et ns r hr => ?_⟩
  cases V.ref.inj ea
  rw [ha] at ha'
  cases tx_inj (HO.tup.inj (Option.some.inj ha'))
  cases SX.S_inj (V.str.inj et)
  exact h ns r hr
section
variable {P : Program} {w : World} {K : PySem.W.Frag} {mg : Str → Option Value} {base : Heap}
/-- what the laws call of words -/
structure Words (P : Program) (w : World) (K : PySem.W.Frag) (mg : Str → Option Value) (base : Heap) (CK CT : Addr) : Prop where
  cut : CalX P w K mg base 6 "cut" (spT CK CT RCut)
  pairs : CalX P w K mg base 6 "pairs" (spT CK CT RPairs)
  len : mg "len" = none
abbrev nPR : List Str := ["known", "text", "at", "words", "rest", "first_words", "first_rest", "many"]
def spParts : Sp := fun vs H Q _ => ∃ (a : Addr) (ws : List (List Nat)) (t : List Nat) (k : Nat), vs = [.ref a, .str (S t), .int (k : Nat)] ∧ H a = some (.tup (tx ws)) ∧ isKnown ws = true ∧ ws.length ≤ 1000 ∧ (∀ l ∈ ws, l.length ≤ 1000) ∧ Az t ∧ t.length ≤ 2000 ∧ k ≤ t.length ∧ ∀ H', Same H H' → Q (.bl true) H'
theorem sc_parts : FnScope nPR ["known", "text", "at"] (defScope s_law_parts_right) := ⟨rfl, rfl, rfl, by decide +kernel, rfl, by decide +kernel, by decide +kernel⟩
theorem ok_parts {f CK CT : Addr} {fd : FuncData} (F : Fun K "_law_parts_right" "_law_parts_right" s_law_parts_right f fd) (T : Words P w K mg base CK CT) : FnOk P w K mg base CX0 7 f fd ["known", "text", "at"] spParts := by
  refine F.ok sc_parts (fun vs H Q E h => ?_) (fun cdv A outer s H vs Q E hr h => ?_)
  · obtain ⟨a, ws, t, k, rfl, _⟩ := h
    rfl
  · obtain ⟨a, ws, t, k, rfl, ha, hks, hwl, hwsz, az, ht, hk, q⟩ := h
    have nd := sc_parts.nd
    have hu : (A.deeper (envOfC "_law_parts_right" (defScope s_law_parts_right) s.heap.objs.size f cdv)).units + 64 < cLine := by have z := hr.un; omega
    refine ⟨_, pss_cons (by exact (ps_asg (pe_c0 T.cut hr (by decide) rfl (pa_cons (pv 0) (pa_cons (pv 1) pa_nil))) (pg_tup rfl (pgs_cons (pg_name (i := 3) nd rfl (Or.inl rfl)) (pgs_cons (pg_name (i := 4) nd rfl (Or.inl rfl)) pgs_nil)))))
      (pss_cons (by exact (ps_asg (pe_c0 T.cut hr (by decide) rfl (pa_cons (pv 0) (pa_cons (pe_slice C8.sl_txt (pv 1) po_none (po_some (pv 2))) pa_nil))) (pg_tup rfl (pgs_cons (pg_name (i := 5) nd rfl (Or.inl rfl)) (pgs_cons (pg_name (i := 6) nd rfl (Or.inl rfl)) pgs_nil)))))
      (pss_cons (by exact (ps_set (i := 7) nd rfl (Or.inl rfl) (pe_callB call_len_seq (by rfl) T.len PySem.boot_len (pa_cons (pv 5) pa_nil))))
      (pss_cons (by exact (ps_if (PW.pt (pw_or (pt_cmpR (op_neD hu) (pe_slice sl_list (pv 3) po_none (po_some (pv 7))) (pv 5) (nomark _))
          (pw_or1 (pt_cmpR op_ne (pe_op op_add_str (pe_join pe_str (pv 5)) (pv 6)) (pe_slice C8.sl_txt (pv 1) po_none (po_some (pv 2))) (nomark _))))) (pss_one (ps_ret pe_bl)) pss_nil))
      (pss_one (by exact (ps_ret (pe_cmpR (op_eqD hu) (pe_slice sl_list (pe_c0 T.pairs hr (by decide) rfl (pa_cons (pv 0) (pa_cons (pv 1) pa_nil))) po_none (po_some (pv 7)))
          (pe_c0 T.pairs hr (by decide) rfl (pa_cons (pv 0) (pa_cons (pe_slice C8.sl_txt (pv 1) po_none (po_some (pv 2))) pa_nil))) (nomark _)))))))), ?_⟩
    have h0 : ([] : List Nat) ∈ ([] : List Nat) :: ws := List.mem_cons_self
    obtain ⟨k1, k2, k3⟩ := isKnown_iff.mp hks
    have hl5 : ws.length ≤ 100000 := by omega
    have hz5 : ∀ x ∈ ws, x.length ≤ 100000 := fun x hx => Nat.le_trans (hwsz x hx) (by decide)
    have hts : (S t).length ≤ sizeLine := by rw [SX.S_len]; exact Nat.le_trans ht (by decide)
    have etk : Txt.slice (S t) none (some ((k : Nat) : Int)) = S (t.take k) := by rw [SX.slice_to (by omega), Int.toNat_natCast]
    have azk : Az (t.take k) := fun c hc => az c (List.mem_of_mem_take hc)
    have hkl : (t.take k).length = k := by rw [List.length_take]; omega
    refine ⟨_, rfl, _, rfl, use_spT ha hks hl5 hz5 az ht fun ns r hrd v H1 s1 hR => ?_⟩
    obtain ⟨p, L, rfl, np, nL, hp, hL⟩ := hR
    refine ⟨p, _, rfl, SqT.of hp, rfl, _, _, rfl, _, _, rfl, rfl, ?_⟩
    refine ⟨_, rfl, _, rfl, _, rfl, _, rfl, S t, rfl, hts, ?_⟩
    rw [etk]
    refine use_spT (s1 _ _ ha) hks hl5 hz5 azk (by omega) fun ns' r' hrd' v2 H2 s2 hR2 => ?_
    obtain ⟨p', L', rfl, np', nL', hp', hL'⟩ := hR2
    refine ⟨p', _, rfl, SqT.of hp', rfl, _, _, rfl, _, _, rfl, rfl, ?_⟩
    obtain ⟨rest, ens⟩ := hrd'.pre (o := t.drop k) (ns' := ns) (r' := r) (by rw [List.take_append_drop]; exact hrd)
    obtain ⟨f1, f2, f3, f4⟩ := hrd.facts h0 (nodup0 k1 k2)
    obtain ⟨g1, g2, g3, g4⟩ := hrd'.facts h0 (nodup0 k1 k2)
    have hjoin := hrd'.rest.1
    rw [List.drop_zero] at hjoin
    have hL2 : H2 L = some (.lst (tx ns)) := s2 _ _ hL
    have s12 := s1.trans s2
    have sml : ∀ l ∈ ns', small l := fun l hl c hc => small_az azk c ((g2 l hl).2.2.2 c hc)
    obtain ⟨y1, y2⟩ := lay_dW sml
    refine ⟨_, rfl, L', _, rfl, .inl (SqL.of hL'), ?_⟩
    -- words[:many] != first_words
    refine ⟨_, rfl, _, rfl, _, rfl, L, _, rfl, SqL.of hL2, fun p3 np3 => ?_⟩
    have hL3 : ∀ o, upd H2 p3 o L' = some (.lst (tx ns')) := fun o => by rw [upd_ne (ne_of_none hL' np3)]; exact hL'
    have ecut : cutV (tx ns) none (some ((tx ns').length : Int)) = tx ns' := by
      rw [ens, tx_app]
      exact cut_pre _ _
    have eqr : PyData.eqv (.list (dW ns')) (.list (dW ns')) = true := SeqAt.eqv_refl _ (by rw [PyData.canLay0]; exact y1)
    rw [ecut]
    refine ⟨_, rfl, _, _, .lst (SqL.of upd_same) (dp_tx ns'), .lst (SqL.of (hL3 _)) (dp_tx ns'), shaped_of y1 (by omega), shaped_of y1 (by omega), _, rfl, ?_⟩
    rw [eqr]
    -- ''.join(first_words) + first_rest != text[:at]
    refine ⟨⟨_, rfl⟩, _, rfl, _, L', ns'.map S, rfl, rfl, .inl (SqL.of (by rw [← tx_str]; exact hL3 _)), ?_, ?_⟩
    · have es : ((ns'.map S).map (·.length)).sum = ns'.flatten.length := by rw [SX.lens, List.length_flatten]
      have e2 : ns'.flatten.length ≤ 2000 := by
        have z := congrArg List.length hjoin
        rw [List.length_append] at z
        omega
      rw [es, show (Str.ofString "").length = 0 from by decide +kernel]
      omega
    rw [join_tx]
    refine ⟨_, rfl, _, _, rfl, rfl, ?_, ?_⟩
    · rw [SX.S_len, SX.S_len]
      have z := congrArg List.length hjoin
      rw [List.length_append] at z
      exact Nat.le_trans (show _ ≤ 2000 by omega) (by decide)
    rw [SX.S_cat, hjoin]
    refine ⟨_, rfl, _, rfl, _, rfl, S t, rfl, hts, rfl, ?_⟩
    rw [etk]
    -- pairs(known, text)[:many] == pairs(known, text[:at])
    have s13 := s12.trans (same_new (o := .lst (tx ns')) np3)
    refine ⟨_, rfl, ?_⟩
    refine iteNS rfl ?_
    refine ⟨_, rfl, _, rfl, use_spT (s13 _ _ ha) hks hl5 hz5 az ht fun nsB rB hrB v4 H4 s4 hR4 => ?_⟩
    obtain ⟨rfl, rfl⟩ := hrd.det hrB
    obtain ⟨L4, ps, rfl, nL4, hL4, hpl, fr4, at4⟩ := hR4
    refine ⟨_, rfl, _, rfl, L4, _, rfl, SqL.of hL4, fun p5 np5 => ?_⟩
    have s15 := (s13.trans s4).trans (same_new (o := .lst (cutV (ps.map V.ref) none (some ((tx ns').length : Int)))) np5)
    refine ⟨_, rfl, _, rfl, _, rfl, _, rfl, S t, rfl, hts, ?_⟩
    rw [etk]
    refine use_spT (s15 _ _ ha) hks hl5 hz5 azk (by omega) fun nsC rC hrC v6 H6 s6 hR6 => ?_
    obtain ⟨rfl, rfl⟩ := hrd'.det hrC
    obtain ⟨L6, qs, rfl, nL6, hL6, hql, fr6, at6⟩ := hR6
    have lenb : ns'.length ≤ ps.length := by rw [hpl, ens, List.length_append]; omega
    have ecut2 : cutV (ps.map V.ref) none (some ((tx ns').length : Int)) = (ps.take ns'.length).map V.ref := by
      have e1 : ps.map V.ref = (ps.take ns'.length).map V.ref ++ (ps.drop ns'.length).map V.ref := by rw [← List.map_append, List.take_append_drop]
      have e2 : ((tx ns').length : Int) = (((ps.take ns'.length).map V.ref).length : Int) := by rw [List.length_map, List.length_map, List.length_take, Nat.min_eq_left lenb]
      rw [e2, e1]
      exact cut_pre _ _
    have h5 : H6 p5 = some (.lst ((ps.take ns'.length).map V.ref)) := by
      rw [← ecut2]
      exact s6 _ _ upd_same
    have rowsm : ∀ r ∈ ns'.map (rowOf (([] :: ws) ++ ns')), small r.2 := by
      intro r hr
      obtain ⟨l, hl, rfl⟩ := List.mem_map.mp hr
      exact fun c hc => sml l hl c (List.mem_of_mem_drop hc)
    obtain ⟨x1, x2⟩ := lay_dR rowsm
    have eqr2 : PyData.eqv (.list (dR (ns'.map (rowOf (([] :: ws) ++ ns'))))) (.list (dR (ns'.map (rowOf (([] :: ws) ++ ns'))))) = true := SeqAt.eqv_refl _ (by rw [PyData.canLay0]; exact x1)
    refine ⟨_, _, .lst (SqL.of h5) (dp_rows (ps.take ns'.length) (ns'.map (rowOf (([] :: ws) ++ ns'))) (by rw [List.length_take, List.length_map]; omega) ?_),
      .lst (SqL.of hL6) (dp_rows qs (ns'.map (rowOf (([] :: ws) ++ ns'))) (by rw [List.length_map]; exact hql) ?_), shaped_of x1 x2, shaped_of x1 x2, ?_⟩
    · intro j qa r hqa hr
      rw [List.getElem?_map] at hr
      cases e : ns'[j]? with
      | none => rw [e] at hr; cases hr
      | some l =>
        rw [e] at hr
        cases hr
        have hj : j < ns'.length := (List.getElem?_eq_some_iff.mp e).1
        rw [List.getElem?_take_of_lt hj] at hqa
        have e2 : ns[j]? = some l := by rw [ens, List.getElem?_append_left hj]; exact e
        have z := s6 _ _ ((same_new (o := .lst (cutV (ps.map V.ref) none (some ((tx ns').length : Int)))) np5) _ _ (at4 j qa l hqa e2))
        rw [z]
        unfold pairV rowOf
        rw [ens, ← List.append_assoc, idx_app (g2 l (List.mem_of_getElem? e)).2.2.1]
    · intro j qa r hqa hr
      rw [List.getElem?_map] at hr
      cases e : ns'[j]? with
      | none => rw [e] at hr; cases hr
      | some l =>
        rw [e] at hr
        cases hr
        exact at6 j qa l hqa e
    · rw [eqr2]
      exact q _ (s15.trans s6)
end
end Lk
end
section
set_option maxRecDepth 100000
set_option maxHeartbeats 2000000
namespace Lk
open PySem PySem.Spec PyProof.Rows L2
def lastC (l : List Nat) : Nat := (l.drop (l.length - 1)).headD 0
def prOf (W : List (List Nat)) (l : List Nat) : Nat × Nat := (W.idxOf (l.take (l.length - 1)), lastC l)
theorem last_one {l : List Nat} (h : l ≠ []) : l.drop (l.length - 1) = [lastC l] ∧ lastC l ∈ l ∧ l = l.take (l.length - 1) ++ [lastC l] := by
  obtain ⟨l0, c, rfl⟩ : ∃ l0 c, l = l0 ++ [c] := ⟨l.dropLast, l.getLast h, (List.dropLast_concat_getLast h).symm⟩
  have e1 : (l0 ++ [c]).length - 1 = l0.length := by simp
  have e2 : (l0 ++ [c]).drop ((l0 ++ [c]).length - 1) = [c] := by rw [e1]; exact List.drop_left
  have e3 : lastC (l0 ++ [c]) = c := by unfold lastC; rw [e2]; rfl
  have e4 : (l0 ++ [c]).take ((l0 ++ [c]).length - 1) = l0 := by rw [e1]; exact List.take_left
  rw [e3, e2, e4]
  exact ⟨rfl, List.mem_append_right _ List.mem_cons_self, rfl⟩
theorem idx_get {W : List (List Nat)} {l : List Nat} (h : l ∈ W) : W[W.idxOf l]? = some l := by
  have h1 : W.idxOf l < W.length := List.idxOf_lt_length_of_mem h
  rw [List.getElem?_eq_getElem h1]
  exact congrArg some (List.getElem_idxOf h1)
theorem Reads.good {W : List (List Nat)} {t : List Nat} {a r : Nat} {ns : List (List Nat)} (h : Reads W t a ns r) (h0 : ([] : List Nat) ∈ W) (az : Az t) (full : List (List Nat)) (ef : full = W ++ ns) : Good W (ns.map (prOf full)) ns := by
  induction h with
  | done h => exact .nil _
  | more h he hr ih =>
    rename_i W t a e r ns
    have hae := h.ge
    have hlen : (sub t a (e + 1)).length = e + 1 - a := sub_len (by omega) (by omega)
    have hne : sub t a (e + 1) ≠ [] := fun z => by rw [z] at hlen; simp at hlen; omega
    obtain ⟨b1, b2, b3⟩ := last_one hne
    have e2 : (sub t a (e + 1)).take ((sub t a (e + 1)).length - 1) = sub t a e := by
      rw [hlen]
      unfold sub
      rw [List.take_take, show min (e + 1 - a - 1) (e + 1 - a) = e - a by omega]
    have hin : sub t a e ∈ W := by
      by_cases hea : a = e
      · subst hea
        have e3 : sub t a a = [] := by unfold sub; rw [Nat.sub_self]; rfl
        rw [e3]
        exact h0
      · exact h.all e (by omega) (Nat.le_refl _)
    have hW : W[full.idxOf (sub t a e)]? = some (sub t a e) := by
      rw [ef, idx_app hin]
      exact idx_get hin
    have hc : 97 ≤ lastC (sub t a (e + 1)) ∧ lastC (sub t a (e + 1)) ≤ 122 := az _ (List.mem_of_mem_drop (List.mem_of_mem_take b2))
    rw [e2] at b3
    have nin := h.no he
    have ihg := ih (List.mem_append_left _ h0) az (by rw [ef, List.append_assoc]; rfl)
    rw [List.map_cons]
    have ep : prOf full (sub t a (e + 1)) = (full.idxOf (sub t a e), lastC (sub t a (e + 1))) := by unfold prOf; rw [e2]
    rw [ep]
    generalize lastC (sub t a (e + 1)) = c at b3 hc
    rw [b3] at nin ihg ⊢
    exact .cons hW hc nin ihg
theorem Good.congr {W : List (List Nat)} {p p' : List (Nat × Nat)} {ns : List (List Nat)} (h : Good W p ns) (e : p = p') : Good W p' ns := e ▸ h
theorem pair_of_rising' : ∀ (x : Str) (r : List Str), risingS x r = true → (x :: r).Pairwise fun a b => a.cps.toList ≤ b.cps.toList
  | x, [], _ => List.pairwise_singleton _ x
  | x, y :: r, h => by
    have h' : (!ltCps y.cps.toList x.cps.toList && risingS y r) = true := h
    rw [Bool.and_eq_true] at h'
    have ih := pair_of_rising' y r h'.2
    have hp : x.cps.toList ≤ y.cps.toList := by
      have h1 := h'.1
      rw [ltCps_eq, Bool.not_eq_true', decide_eq_false_iff_not] at h1
      exact List.not_lt.mp h1
    refine List.Pairwise.cons (fun z hz => ?_) ih
    rcases List.mem_cons.mp hz with e | e
    · rw [e]; exact hp
    · exact List.le_trans hp ((List.pairwise_cons.mp ih).1 z e)
theorem pair_of_sorted' : ∀ l : List Str, sortedS l = true → l.Pairwise fun a b => a.cps.toList ≤ b.cps.toList
  | [], _ => List.Pairwise.nil
  | x :: r, h => pair_of_rising' x r h
theorem sorted_same' {a b : List Str} (p : a.Perm b) (ha : sortedS a = true) (hb : sortedS b = true) : a = b :=
  List.Perm.eq_of_pairwise (fun x y _ _ h1 h2 => by
    have e : x.cps.toList = y.cps.toList := List.le_antisymm h1 h2
    exact TL.ext_tl e) (pair_of_sorted' a ha) (pair_of_sorted' b hb) p
/-- what stands behind a reading is again what may be known -/
theorem behind_known {ws ns us : List (List Nat)} {t : List Nat} {r : Nat} (hks : isKnown ws = true) (h : Reads ([] :: ws) t 0 ns r) (az : Az t) (p : us.Perm (ws ++ ns)) (hs : sortedS (us.map S) = true) : isKnown us = true := by
  obtain ⟨k1, k2, k3⟩ := isKnown_iff.mp hks
  obtain ⟨f1, f2, _⟩ := h.facts List.mem_cons_self (nodup0 k1 k2)
  have nd := (List.nodup_cons.mp f1).2
  refine isKnown_of p hs nd (fun l hl => ?_) (fun l hl => ?_)
  · rcases List.mem_append.mp hl with z | z
    · exact List.all_eq_true.mp k1 l z
    · obtain ⟨g1, _, _, g4⟩ := f2 l z
      exact isWord_iff.mpr ⟨fun c hc => az c (g4 c hc), List.length_pos_iff.mpr g1⟩
  · rcases List.mem_append.mp hl with z | z
    · have y := of_decide_eq_true (List.all_eq_true.mp k3 l z)
      rcases List.mem_cons.mp y with y | y
      · rw [y]; exact List.mem_cons_self
      · exact List.mem_cons_of_mem _ (List.mem_append_left _ y)
    · exact (f2 l z).2.2.1
end Lk
end
section
set_option maxRecDepth 100000
set_option maxHeartbeats 4000000
namespace Lk
open PySem PySem.Spec PyProof.Rows L2
abbrev nT : List Str := ["known", "one", "other", "words", "rest", "later", "more", "left", "row"]
section
variable {P : Program} {w : World} {K : PySem.W.Frag} {mg : Str → Option Value} {base : Heap}
structure Words2 (P : Program) (w : World) (K : PySem.W.Frag) (mg : Str → Option Value) (base : Heap) (CK CT : Addr) : Prop extends Words P w K mg base CK CT where
  behind : CalX P w K mg base 6 "known_behind" (spT CK CT RBehind)
  readp : CalX P w K mg base 5 "read_pairs" (spReadP CK)
  known : C8.Cal P w K mg base 3 "is_known" spKnown []
  sorted : mg "sorted" = none
  list : mg "list" = none
theorem use_readp {CK : Addr} {H : Hp} {a L : Addr} {ws : List (List Nat)} {Q : VK} {E : XK} (ps : List Addr) (ns full : List (List Nat)) (ha : H a = some (.tup (tx ws))) (hks : isKnown ws = true) (hl : ws.length ≤ 100000) (hz : ∀ x ∈ ws, x.length ≤ 100000)
    (hL : H L = some (.lst (ps.map V.ref))) (hpl : ps.length = ns.length) (hn : ns.length ≤ 10000) (hne : ∀ l ∈ ns, l ≠ []) (hat : ∀ (j : Nat) (q : Addr) (l : List Nat), ps[j]? = some q → ns[j]? = some l → H q = some (.tup (pairV ws full l)))
    (good : Good ([] :: ws) (ns.map (prOf (([] :: ws) ++ full))) ns) (hf : ns.flatten.length ≤ 10000000) (h : ∀ v H', v = .str (S ns.flatten) → Same H H' → Q v H') : spReadP CK [.ref a, .ref L] H Q E := by
  refine ⟨_, L, true, rfl, knownV_of ha hks hl hz, fun z => (by cases z), fun _ a' ws' ea ha' _ => ?_⟩
  cases V.ref.inj ea
  rw [ha] at ha'
  cases tx_inj (HO.tup.inj (Option.some.inj ha'))
  refine ⟨ps, ns.map (prOf (([] :: ws) ++ full)), ns, hL, by rw [List.length_map]; exact hpl, by rw [List.length_map]; exact hn, fun j q n c hq hr => ?_, good, hf, h⟩
  rw [List.getElem?_map] at hr
  cases e : ns[j]? with
  | none => rw [e] at hr; cases hr
  | some l =>
    rw [e] at hr
    cases hr
    rw [hat j q l hq e]
    unfold pairV
    rw [(last_one (hne l (List.mem_of_getElem? e))).1]
def spTog : Sp := fun vs H Q _ => ∃ (a : Addr) (ws : List (List Nat)) (t o : List Nat), vs = [.ref a, .str (S t), .str (S o)] ∧ H a = some (.tup (tx ws)) ∧ isKnown ws = true ∧ ws.length ≤ 1000 ∧ (∀ l ∈ ws, l.length ≤ 1000) ∧ Az t ∧ t.length ≤ 1000 ∧ Az o ∧ o.length ≤ 1000 ∧ ∀ H', Same H H' → Q (.bl true) H'
theorem sc_tog : FnScope nT ["known", "one", "other"] (defScope s_law_together_right) := ⟨rfl, rfl, rfl, by decide +kernel, rfl, by decide +kernel, by decide +kernel⟩
theorem ok_tog {f CK CT : Addr} {fd : FuncData} (F : Fun K "_law_together_right" "_law_together_right" s_law_together_right f fd) (T : Words2 P w K mg base CK CT) : FnOk P w K mg base CX0 7 f fd ["known", "one", "other"] spTog := by
  refine F.ok sc_tog (fun vs H Q E h => ?_) (fun cdv A outer s H vs Q E hr h => ?_)
  · obtain ⟨a, ws, t, o, rfl, _⟩ := h
    rfl
  · obtain ⟨a, ws, t, o, rfl, ha, hks, hwl, hwsz, az, ht, azo, ho, q⟩ := h
    have nd := sc_tog.nd
    have hu : (A.deeper (envOfC "_law_together_right" (defScope s_law_together_right) s.heap.objs.size f cdv)).units + 64 < cLine := by have z := hr.un; omega
    refine ⟨_, pss_cons (by exact (ps_asg (pe_c0 T.cut hr (by decide) rfl (pa_cons (pv 0) (pa_cons (pv 1) pa_nil))) (pg_tup rfl (pgs_cons (pg_name (i := 3) nd rfl (Or.inl rfl)) (pgs_cons (pg_name (i := 4) nd rfl (Or.inl rfl)) pgs_nil)))))
      (pss_cons (by exact (ps_set (i := 5) nd rfl (Or.inl rfl) (pe_c0 T.behind hr (by decide) rfl (pa_cons (pv 0) (pa_cons (pv 1) pa_nil)))))
      (C8.pss_cut (by exact (ps_if (PW.pt (pw_or (pt_cmpR (op_neD hu) (pe_callB cr_sortSA (by rfl) T.sorted (by decide +kernel) (pa_cons (pe_op op_cat (pe_callTy call_list_of (by rfl) T.list (by decide +kernel) (pa_cons (pv 0) pa_nil)) (pv 3)) pa_nil))
            (pe_callTy call_list_of (by rfl) T.list (by decide +kernel) (pa_cons (pv 5) pa_nil)) (nomark _))
          (pw_or1 (pt_cmpR op_notBl (C8.pe_c T.known hr (by decide) rfl (pa_cons (pv 5) pa_nil)) pe_bl (nomark _))))) (pss_one (ps_ret pe_bl)) pss_nil))
      (pss_cons (by exact (ps_asg (pe_c0 T.cut hr (by decide) rfl (pa_cons (pv 5) (pa_cons (pe_op op_add_str (pv 4) (pv 2)) pa_nil))) (pg_tup rfl (pgs_cons (pg_name (i := 6) nd rfl (Or.inl rfl)) (pgs_cons (pg_name (i := 7) nd rfl (Or.inl rfl)) pgs_nil)))))
      (C8.pss_cut (by exact (ps_if (pt_cmpR (op_neD hu) (pe_c0 T.cut hr (by decide) rfl (pa_cons (pv 0) (pa_cons (pe_op op_add_str (pv 1) (pv 2)) pa_nil))) (pe_tup (pa_cons (pe_op op_cat (pv 3) (pv 6)) (pa_cons (pv 7) pa_nil))) (nomark _)) (pss_one (ps_ret pe_bl)) pss_nil))
      (C8.pss_cut (by exact (ps_if (pt_cmpR (op_neD hu) (pe_c0 T.behind hr (by decide) rfl (pa_cons (pv 5) (pa_cons (pe_op op_add_str (pv 4) (pv 2)) pa_nil))) (pe_c0 T.behind hr (by decide) rfl (pa_cons (pv 0) (pa_cons (pe_op op_add_str (pv 1) (pv 2)) pa_nil))) (nomark _)) (pss_one (ps_ret pe_bl)) pss_nil))
      (pss_cons (by exact (ps_set (i := 8) nd rfl (Or.inl rfl) (pe_c0 T.pairs hr (by decide) rfl (pa_cons (pv 0) (pa_cons (pe_op op_add_str (pv 1) (pv 2)) pa_nil)))))
      (pss_one (by exact (ps_ret (pe_and (pe_cmpR op_eq (pe_c0 T.readp hr (by decide) rfl (pa_cons (pv 0) (pa_cons (pv 8) pa_nil))) (pe_join pe_str (pe_op op_cat (pv 3) (pv 6))) (nomark _))
          (pe_one (pe_cmpR op_eq (pe_c0 T.readp hr (by decide) rfl (pa_cons (pv 0) (pa_cons (pe_slice sl_list (pv 8) po_none (po_some (pe_callB call_len_seq (by rfl) T.len PySem.boot_len (pa_cons (pv 3) pa_nil)))) pa_nil))) (pe_join pe_str (pv 3)) (nomark _))))))))))))), ?_⟩
    have h0 : ([] : List Nat) ∈ ([] : List Nat) :: ws := List.mem_cons_self
    obtain ⟨k1, k2, k3⟩ := isKnown_iff.mp hks
    have hl5 : ws.length ≤ 100000 := by omega
    have hz5 : ∀ x ∈ ws, x.length ≤ 100000 := fun x hx => Nat.le_trans (hwsz x hx) (by decide)
    refine ⟨_, rfl, _, rfl, use_spT ha hks hl5 hz5 az (by omega) fun w1 r1 hrd1 v H1 s1 hR => ?_⟩
    obtain ⟨p, L, rfl, np, nL, hp, hL⟩ := hR
    refine ⟨p, _, rfl, SqT.of hp, rfl, _, _, rfl, _, _, rfl, rfl, ?_⟩
    refine ⟨_, rfl, _, rfl, use_spT (s1 _ _ ha) hks hl5 hz5 az (by omega) fun w1' r1' hrd1' v2 H2 s2 hR2 => ?_⟩
    obtain ⟨rfl, rfl⟩ := hrd1.det hrd1'
    obtain ⟨p2, us, rfl, np2, hp2, hus, hsort⟩ := hR2
    have s12 := s1.trans s2
    have hL2 := s2 _ _ hL
    have uk := behind_known hks hrd1 az hus hsort
    obtain ⟨f1, f2, f3, f4⟩ := hrd1.facts h0 (nodup0 k1 k2)
    have ulen : us.length ≤ 2000 := by rw [hus.length_eq, List.length_append]; omega
    have uz : ∀ l ∈ us, l.length ≤ 1000 := fun l hl => by
      rcases List.mem_append.mp (hus.mem_iff.mp hl) with z | z
      · exact hwsz l z
      · have := (f2 l z).2.1
        omega
    have usm : ∀ l ∈ us, small l := fun l hl => small_az (isWord_iff.mp (List.all_eq_true.mp (isKnown_iff.mp uk).1 l hl)).1
    obtain ⟨y1, y2⟩ := lay_dW usm
    refine ⟨fun σ' H' => σ' = [some (.ref a), some (.str (S t)), some (.str (S o)), some (.ref L), some (.str (S (t.drop r1))), some (.ref p2), none, none, none] ∧ Same H2 H', ?_, ?_⟩
    · refine ⟨_, rfl, a, _, rfl, .inr (SqT.of (s12 _ _ ha)), fun q1 n1 => ?_⟩
      have hL3 : ∀ x, upd H2 q1 x L = some (.lst (tx w1)) := fun x => by rw [upd_ne (ne_of_none hL2 n1)]; exact hL2
      refine ⟨_, rfl, q1, L, _, _, rfl, rfl, upd_same, hL3 _, ?_, fun q2 n2 => ?_⟩
      · rw [List.length_map, List.length_map]
        exact Nat.le_trans (show ws.length + w1.length ≤ 100000 by omega) (by decide)
      have sA : Same H2 (upd (upd H2 q1 (.lst (tx ws))) q2 (.lst (tx ws ++ tx w1))) := (same_new n1).trans (same_new n2)
      refine ⟨q2, (ws ++ w1).map S, rfl, SqL.of (by rw [upd_same, ← tx_str, tx_app]), by rw [List.length_map, List.length_append]; omega, fun ys q3 hperm hs n3 => ?_⟩
      have eys : ys = us.map S := sorted_same' (hperm.trans (hus.map S).symm) hs hsort
      subst eys
      have sB := sA.trans (same_new (o := .lst ((us.map S).map V.str)) n3)
      refine ⟨_, rfl, p2, _, rfl, .inr (SqT.of (sB _ _ hp2)), fun q4 n4 => ?_⟩
      have e3 : upd (upd (upd H2 q1 (.lst (tx ws))) q2 (.lst (tx ws ++ tx w1))) q3 (.lst ((us.map S).map V.str)) q3 = some (.lst (tx us)) := by rw [upd_same, tx_str]
      have sC := sB.trans (same_new (o := .lst (tx us)) n4)
      have eqr : PyData.eqv (.list (dW us)) (.list (dW us)) = true := SeqAt.eqv_refl _ (by rw [PyData.canLay0]; exact y1)
      refine ⟨_, _, .lst (SqL.of ((same_new (o := .lst (tx us)) n4) _ _ e3)) (dp_tx us), .lst (SqL.of upd_same) (dp_tx us), shaped_of y1 (by omega), shaped_of y1 (by omega), _, rfl, ?_⟩
      rw [eqr]
      refine ⟨_, rfl, .ref p2, true, rfl, knownV_of (sC _ _ hp2) uk (by omega) (fun x hx => Nat.le_trans (uz x hx) (by decide)), fun H5 s5 => ?_⟩
      refine ⟨_, _, rfl, rfl, _, rfl, ?_⟩
      exact ⟨rfl, sC.trans s5⟩
    rintro σ' H3 ⟨rfl, s3⟩
    have s13 := s12.trans s3
    have hp3 := s3 _ _ hp2
    have hL4 := s3 _ _ hL2
    have ul5 : us.length ≤ 100000 := by omega
    have uz5 : ∀ x ∈ us, x.length ≤ 100000 := fun x hx => Nat.le_trans (uz x hx) (by decide)
    have azr : Az (t.drop r1 ++ o) := fun c hc => by
      rcases List.mem_append.mp hc with z | z
      · exact az c (List.mem_of_mem_drop z)
      · exact azo c z
    have lr : (t.drop r1 ++ o).length ≤ 2000 := by rw [List.length_append, List.length_drop]; omega
    have azt : Az (t ++ o) := fun c hc => by
      rcases List.mem_append.mp hc with z | z
      · exact az c z
      · exact azo c z
    have lt2 : (t ++ o).length ≤ 2000 := by rw [List.length_append]; omega
    have sz1 : (S (t.drop r1)).length + (S o).length ≤ sizeLine := by rw [SX.S_len, SX.S_len, List.length_drop]; exact Nat.le_trans (show _ ≤ 2000 by omega) (by decide)
    have sz2 : (S t).length + (S o).length ≤ sizeLine := by rw [SX.S_len, SX.S_len]; exact Nat.le_trans (show _ ≤ 2000 by omega) (by decide)
    refine ⟨_, rfl, _, rfl, _, rfl, _, _, rfl, rfl, sz1, ?_⟩
    rw [SX.S_cat]
    refine use_spT hp3 uk ul5 uz5 azr lr fun more r2 hrd2 v5 H5 s5 hR5 => ?_
    obtain ⟨p5, L5, rfl, np5, nL5, hp5, hL5⟩ := hR5
    refine ⟨p5, _, rfl, SqT.of hp5, rfl, _, _, rfl, _, _, rfl, rfl, ?_⟩
    have s15 := s13.trans s5
    have mm : ∀ x, x ∈ ([] : List Nat) :: us ↔ x ∈ (([] : List Nat) :: ws) ++ w1 := fun x => by
      rw [List.mem_cons, List.cons_append, List.mem_cons, hus.mem_iff]
    have hrdA := hrd1.on (hrd2.congr mm)
    have f2' := (hrdA.facts h0 (nodup0 k1 k2)).2.1
    have hAl := (hrdA.facts h0 (nodup0 k1 k2)).2.2.2
    have wsm : ∀ l ∈ w1 ++ more, small l := fun l hl c hc => small_az azt c ((f2' l hl).2.2.2 c hc)
    obtain ⟨x1, x2⟩ := lay_dW wsm
    have eleft : (t.drop r1 ++ o).drop r2 = (t ++ o).drop (r1 + r2) := by
      rw [← List.drop_drop, List.drop_append_of_le_length f3]
    have hw1l : (w1 ++ more).length ≤ 2000 := by omega
    refine ⟨fun σ' H' => σ' = [some (.ref a), some (.str (S t)), some (.str (S o)), some (.ref L), some (.str (S (t.drop r1))), some (.ref p2), some (.ref L5), some (.str (S ((t.drop r1 ++ o).drop r2))), none] ∧ Same H5 H', ?_, ?_⟩
    · refine ⟨_, rfl, _, rfl, _, rfl, _, _, rfl, rfl, sz2, ?_⟩
      rw [SX.S_cat]
      refine use_spT (s15 _ _ ha) hks hl5 hz5 azt lt2 fun ns6 r6 hrd6 v6 H6 s6 hR6 => ?_
      obtain ⟨rfl, rfl⟩ := hrdA.det hrd6
      obtain ⟨p6, L6, rfl, np6, nL6, hp6, hL6⟩ := hR6
      refine ⟨_, rfl, _, rfl, L, L5, _, _, rfl, rfl, s6 _ _ (s5 _ _ hL4), s6 _ _ hL5, ?_, fun q7 n7 => ?_⟩
      · rw [List.length_map, List.length_map]
        rw [List.length_append] at hw1l
        exact Nat.le_trans hw1l (by decide)
      refine ⟨_, rfl, (by show 2 ≤ sizeLine; decide), fun q8 n8 => ?_⟩
      have s68 : Same H6 (upd (upd H6 q7 (.lst (tx w1 ++ tx more))) q8 (.tup [.ref q7, .str (S ((t.drop r1 ++ o).drop r2))])) := (same_new n7).trans (same_new n8)
      have e7 : upd (upd H6 q7 (.lst (tx w1 ++ tx more))) q8 (.tup [.ref q7, .str (S ((t.drop r1 ++ o).drop r2))]) q7 = some (.lst (tx (w1 ++ more))) := by
        rw [upd_ne (ne_of_none upd_same n8), upd_same, tx_app]
      have slt : small ((t ++ o).drop (r1 + r2)) := fun c hc => small_az azt c (List.mem_of_mem_drop hc)
      have lay : PyData.canLayAll0 [PyData.list (dW (w1 ++ more)), .str (S ((t ++ o).drop (r1 + r2)))] = true := by
        rw [PyData.canLayAll0, PyData.canLayAll0, PyData.canLayAll0, PyData.canLay0, PyData.canLay0, x1, strOk_of slt]
        rfl
      have dep : PyData.depthAll [PyData.list (dW (w1 ++ more)), .str (S ((t ++ o).drop (r1 + r2)))] ≤ 1 := by
        rw [PyData.depthAll, PyData.depthAll, PyData.depthAll, PyData.depth, PyData.depth, x2]
        omega
      have eqr : PyData.eqv (.tuple [PyData.list (dW (w1 ++ more)), .str (S ((t ++ o).drop (r1 + r2)))]) (.tuple [PyData.list (dW (w1 ++ more)), .str (S ((t ++ o).drop (r1 + r2)))]) = true := SeqAt.eqv_refl _ (by rw [PyData.canLay0]; exact lay)
      refine ⟨_, _, .tup (SqT.of (s68 _ _ hp6)) (.cons (.lst (SqL.of (s68 _ _ hL6)) (dp_tx _)) (.cons (.str _) .nil)), .tup (SqT.of upd_same) (.cons (.lst (SqL.of e7) (dp_tx _)) (.cons (.str _) .nil)), shaped_ofT lay dep, ?_, _, rfl, ?_⟩
      · rw [eleft]
        exact shaped_ofT lay dep
      · rw [eleft] at s68
        rw [eleft, eqr]
        exact ⟨rfl, s6.trans s68⟩
    rintro σ' H6 ⟨rfl, s6⟩
    have s16 := s15.trans s6
    have hp6 := s6 _ _ (s5 _ _ hp3)
    have hL46 := s6 _ _ (s5 _ _ hL4)
    have hL56 := s6 _ _ hL5
    refine ⟨fun σ' H' => σ' = [some (.ref a), some (.str (S t)), some (.str (S o)), some (.ref L), some (.str (S (t.drop r1))), some (.ref p2), some (.ref L5), some (.str (S ((t.drop r1 ++ o).drop r2))), none] ∧ Same H6 H', ?_, ?_⟩
    · refine ⟨_, rfl, _, rfl, _, rfl, _, _, rfl, rfl, sz1, ?_⟩
      rw [SX.S_cat]
      refine use_spT hp6 uk ul5 uz5 azr lr fun nsX rX hrdX v7 H7 s7 hR7 => ?_
      obtain ⟨rfl, rfl⟩ := hrd2.det hrdX
      obtain ⟨p7, u7, rfl, np7, hp7, hu7, hs7⟩ := hR7
      refine ⟨_, rfl, _, rfl, _, rfl, _, _, rfl, rfl, sz2, ?_⟩
      rw [SX.S_cat]
      refine use_spT ((s16.trans s7) _ _ ha) hks hl5 hz5 azt lt2 fun nsY rY hrdY v8 H8 s8 hR8 => ?_
      obtain ⟨rfl, rfl⟩ := hrdA.det hrdY
      obtain ⟨p8, u8, rfl, np8, hp8, hu8, hs8⟩ := hR8
      have e78 : u7.map S = u8.map S := by
        refine sorted_same' (List.Perm.map S ?_) hs7 hs8
        refine hu7.trans (List.Perm.trans ?_ hu8.symm)
        rw [← List.append_assoc]
        exact hus.append_right more
      have e78' : tx u7 = tx u8 := by rw [tx_str, tx_str, e78]
      cases tx_inj e78'
      have u8k := behind_known hks hrdA azt hu8 hs8
      obtain ⟨m1, m2⟩ := lay_dW (ws := u7) fun l hl => small_az (isWord_iff.mp (List.all_eq_true.mp (isKnown_iff.mp u8k).1 l hl)).1
      have eqr : PyData.eqv (.tuple (dW u7)) (.tuple (dW u7)) = true := SeqAt.eqv_refl _ (by rw [PyData.canLay0]; exact m1)
      refine ⟨_, _, .tup (SqT.of (s8 _ _ hp7)) (dp_tx u7), .tup (SqT.of hp8) (dp_tx u7), shaped_ofT m1 (by omega), shaped_ofT m1 (by omega), _, rfl, ?_⟩
      rw [eqr]
      exact ⟨rfl, s7.trans s8⟩
    rintro σ' H7 ⟨rfl, s7⟩
    have s17 := s16.trans s7
    refine ⟨_, rfl, _, rfl, _, rfl, _, _, rfl, rfl, sz2, ?_⟩
    rw [SX.S_cat]
    refine use_spT (s17 _ _ ha) hks hl5 hz5 azt lt2 fun nsY rY hrdY v8 H8 s8 hR8 => ?_
    obtain ⟨rfl, rfl⟩ := hrdA.det hrdY
    obtain ⟨L8, ps, rfl, nL8, hL8, hpl, fr8, at8⟩ := hR8
    have s18 := s17.trans s8
    have fl1 : (w1 ++ more).flatten.length ≤ 2000 := by
      have z := congrArg List.length hrdA.rest.1
      rw [List.length_append, List.drop_zero] at z
      omega
    have fl2 : w1.flatten.length ≤ 2000 := by
      rw [List.flatten_append, List.length_append] at fl1
      omega
    have ne1 : ∀ l ∈ w1 ++ more, l ≠ [] := fun l hl => (f2' l hl).1
    have w1l : w1.length ≤ 2000 := by rw [List.length_append] at hw1l; omega
    refine ⟨_, rfl, _, rfl, ?_⟩
    refine use_readp ps (w1 ++ more) (w1 ++ more) (s18 _ _ ha) hks hl5 hz5 hL8 hpl (by omega) ne1 at8 (hrdA.good h0 azt _ rfl) (by omega) fun v9 H9 ev9 s9 => ?_
    subst ev9
    have s19 := s18.trans s9
    refine ⟨⟨_, rfl⟩, _, rfl, _, rfl, L, L5, _, _, rfl, rfl, s9 _ _ (s8 _ _ (s7 _ _ hL46)), s9 _ _ (s8 _ _ (s7 _ _ hL56)), ?_, fun q9 n9 => ?_⟩
    · rw [List.length_map, List.length_map]
      rw [List.length_append] at hw1l
      exact Nat.le_trans hw1l (by decide)
    refine ⟨_, q9, (w1 ++ more).map S, rfl, rfl, .inl (SqL.of (by rw [upd_same, ← tx_str, tx_app])), ?_, ?_⟩
    · rw [SX.lens, ← List.length_flatten, show (Str.ofString "").length = 0 from by decide +kernel]
      omega
    rw [join_tx]
    refine ⟨rfl, _, rfl, ?_⟩
    rw [decide_eq_true rfl]
    have s9b : Same H8 (upd H9 q9 (.lst (tx w1 ++ tx more))) := s9.trans (same_new n9)
    have s20 := s18.trans s9b
    refine ⟨_, rfl, _, rfl, _, rfl, L, _, rfl, .inl (SqL.of (s9b _ _ (s8 _ _ (s7 _ _ hL46)))), _, rfl, L8, _, rfl, SqL.of (s9b _ _ hL8), fun p10 n10 => ?_⟩
    have lenb : w1.length ≤ ps.length := by rw [hpl, List.length_append]; omega
    have ecut2 : cutV (ps.map V.ref) none (some ((tx w1).length : Int)) = (ps.take w1.length).map V.ref := by
      have e1 : ps.map V.ref = (ps.take w1.length).map V.ref ++ (ps.drop w1.length).map V.ref := by rw [← List.map_append, List.take_append_drop]
      have e2 : ((tx w1).length : Int) = (((ps.take w1.length).map V.ref).length : Int) := by rw [List.length_map, List.length_map, List.length_take, Nat.min_eq_left lenb]
      rw [e2, e1]
      exact cut_pre _ _
    rw [ecut2]
    have s21 := s20.trans (same_new (o := .lst ((ps.take w1.length).map V.ref)) n10)
    have s8b : Same H8 (upd (upd H9 q9 (.lst (tx w1 ++ tx more))) p10 (.lst ((ps.take w1.length).map V.ref))) := s9b.trans (same_new n10)
    have lenw : w1.length ≤ (w1 ++ more).length := by rw [List.length_append]; omega
    refine use_readp (ps.take w1.length) w1 (w1 ++ more) (s21 _ _ ha) hks hl5 hz5 upd_same (by rw [List.length_take]; omega) (by omega) (fun l hl => ne1 l (List.mem_append_left _ hl)) (fun j q l hq hl => ?_) ?_ (by omega) fun v11 H11 ev11 s11 => ?_
    · have hj : j < w1.length := (List.getElem?_eq_some_iff.mp hl).1
      rw [List.getElem?_take_of_lt hj] at hq
      exact s8b _ _ (at8 j q l hq (by rw [List.getElem?_append_left hj]; exact hl))
    · have g := hrd1.good h0 az _ rfl
      refine g.congr (List.map_congr_left fun l hl => ?_)
      unfold prOf
      rw [← List.append_assoc, idx_app (f2 l hl).2.2.1]
    · subst ev11
      refine ⟨⟨_, rfl⟩, _, rfl, _, L, w1.map S, rfl, rfl, .inl (SqL.of (by rw [← tx_str]; exact s11 _ _ (s8b _ _ (s8 _ _ (s7 _ _ hL46))))), ?_, ?_⟩
      · rw [SX.lens, ← List.length_flatten, show (Str.ofString "").length = 0 from by decide +kernel]
        omega
      rw [join_tx]
      refine ⟨rfl, ?_⟩
      have e : Q (.bl true) H11 := q _ (s21.trans s11)
      show Q (.bl (decide (V.str (S w1.flatten) = V.str (S w1.flatten)))) H11
      rw [decide_eq_true rfl]
      exact e
end
end Lk
end
section
set_option maxRecDepth 100000
set_option maxHeartbeats 4000000
namespace Lk
open PySem PySem.Spec PyProof.Rows L2
abbrev nL : List Str := ["script", "cell", "bag", "known", "one", "other", "at"]
structure LawCalls (P : Program) (w : World) (K : PySem.W.Frag) (mg : Str → Option Value) (base : Heap) : Prop where
  bag : C8.Cal P w K mg base 1 "_law_bag" spBag []
  pick : C8.Cal P w K mg base 1 "_law_pick" spPick []
  known : C8.Cal P w K mg base 2 "_law_known" spLKnown []
  text : C8.Cal P w K mg base 3 "_law_text" spLText []
  parts : C8.Cal P w K mg base 7 "_law_parts_right" spParts []
  tog : C8.Cal P w K mg base 7 "_law_together_right" spTog []
  len : mg "len" = none
section
variable {P : Program} {w : World} {K : PySem.W.Frag} {mg : Str → Option Value} {base : Heap}
def spLaw (K : PySem.W.Frag) : Sp := fun vs H Q _ => ∃ (a : Addr) (ns : List Int), vs = [.ref a] ∧ SqL K H a (ns.map V.int) ∧ ns.length ≤ 63 ∧ ∀ H', Q (.bl true) H'
theorem sc_law : FnScope nL ["script"] (defScope s_law) := ⟨rfl, rfl, rfl, by decide +kernel, rfl, by decide +kernel, by decide +kernel⟩
theorem ok_law {f : Addr} {fd : FuncData} (F : Fun K "law" "law" s_law f fd) (T : LawCalls P w K mg base) : FnOk P w K mg base CX0 8 f fd ["script"] (spLaw K) := by
  refine F.ok sc_law (fun vs H Q E h => ?_) (fun cdv A outer s H vs Q E hr h => ?_)
  · obtain ⟨a, ns, rfl, _⟩ := h
    rfl
  · obtain ⟨a, ns, rfl, hS, h63, q⟩ := h
    have nd := sc_law.nd
    refine ⟨_, pss_cons (by exact (ps_for PassesOwn.never rfl (pi_list (pe_op op_cat (pe_slice sl_list (pv 0) po_none (po_some pe_int)) (pe_lst (pa_cons pe_int pa_nil)))) (pg_name (i := 1) nd rfl (Or.inl rfl))
      (by exact (pss_cons (by exact ps_set (i := 2) nd rfl (Or.inl rfl) (C8.pe_c T.bag hr (by decide) rfl (pa_cons (pv 1) pa_nil)))
        (pss_cons (by exact ps_set (i := 3) nd rfl (Or.inl rfl) (C8.pe_c T.known hr (by decide) rfl (pa_cons (pv 2) (pa_cons (pe_ix ix_list (pe_lst (pa_cons pe_int (pa_cons pe_int (pa_cons pe_int (pa_cons pe_int pa_nil))))) (C8.pe_c T.pick hr (by decide) rfl (pa_cons (pv 2) (pa_cons pe_int pa_nil))) (fun _ _ => rfl)) pa_nil))))
        (pss_cons (by exact (ps_par (i := 4) (j := 5) (by rfl) nd rfl rfl (by decide) rfl rfl (pa_cons (C8.pe_c T.text hr (by decide) rfl (pa_cons (pv 2) pa_nil)) (pa_cons (C8.pe_c T.text hr (by decide) rfl (pa_cons (pv 2) pa_nil)) pa_nil)) (by rfl)))
        (pss_cons (by exact (ps_for PassesOwn.never rfl (pi_list (pe_lst (pa_cons pe_int (pa_cons (pe_callB call_len_str (by rfl) T.len PySem.boot_len (pa_cons (pv 4) pa_nil))
            (pa_cons (C8.pe_c T.pick hr (by decide) rfl (pa_cons (pv 2) (pa_cons (pe_op op_add (pe_callB call_len_str (by rfl) T.len PySem.boot_len (pa_cons (pv 4) pa_nil)) pe_int) pa_nil)))
            (pa_cons (C8.pe_c T.pick hr (by decide) rfl (pa_cons (pv 2) (pa_cons (pe_op op_add (pe_callB call_len_str (by rfl) T.len PySem.boot_len (pa_cons (pv 4) pa_nil)) pe_int) pa_nil))) pa_nil)))))) (pg_name (i := 6) nd rfl (Or.inl rfl))
          (by exact (pss_one (by exact (ps_if (pt_not (pt_val (C8.pe_c T.parts hr (by decide) rfl (pa_cons (pv 3) (pa_cons (pv 4) (pa_cons (pv 6) pa_nil)))))) (pss_one (ps_ret pe_bl)) pss_nil))))))
        (pss_one (by exact (ps_if (PW.pt (pw_or (pt_not (pt_val (C8.pe_c T.tog hr (by decide) rfl (pa_cons (pv 3) (pa_cons (pv 4) (pa_cons (pv 5) pa_nil))))))
            (pw_or1 (pt_not (pt_val (C8.pe_c T.tog hr (by decide) rfl (pa_cons (pv 3) (pa_cons (pv 5) (pa_cons (pv 4) pa_nil))))))))) (pss_one (ps_ret pe_bl)) pss_nil))))))))))
      (pss_one (ps_ret pe_bl)), ?_⟩
    refine ⟨_, rfl, _, rfl, a, _, rfl, hS, fun p1 n1 => ⟨(by show 1 ≤ sizeLine; decide), fun p2 n2 => ?_⟩⟩
    have h1 : upd (upd H p1 (.lst (cutV (ns.map V.int) Option.none (some 12)))) p2 (.lst [.int 0]) p1 = some (.lst (cutV (ns.map V.int) Option.none (some 12))) := by
      rw [upd_ne (ne_of_none upd_same n2), upd_same]
    have cint : ∀ x ∈ cutV (ns.map V.int) Option.none (some 12) ++ [V.int 0], ∃ z, x = V.int z := by
      intro x hx
      rcases List.mem_append.mp hx with h | h
      · unfold cutV at h
        obtain ⟨z, _, e⟩ := List.mem_map.mp (List.mem_of_mem_drop (List.mem_of_mem_take h))
        exact ⟨z, e.symm⟩
      · exact ⟨0, List.mem_singleton.mp h⟩
    have lcut : (cutV (ns.map V.int) Option.none (some 12)).length ≤ 63 := by
      unfold cutV
      rw [List.length_take, List.length_drop, List.length_map]
      omega
    refine ⟨p1, p2, _, _, rfl, rfl, h1, upd_same, ?_, fun L nL => ?_⟩
    · show _ + 1 ≤ sizeLine
      rw [sizeLine_eq]
      omega
    generalize cutV (ns.map V.int) Option.none (some 12) ++ [V.int 0] = cells at cint
    generalize upd (upd H p1 (.lst (cutV (ns.map V.int) Option.none (some 12)))) p2 (.lst [.int 0]) = HX
    obtain ⟨HL, eHL⟩ : ∃ HL, HL = upd HX L (.lst cells) := ⟨_, rfl⟩
    have hL : HL L = some (.lst cells) := by rw [eHL, upd_same]
    rw [← eHL]
    clear eHL
    refine ⟨L, rfl, ⟨_, SqL.of hL⟩, for_list (K := K) (a := L) (xs := cells) (fun i σ H1 => ∃ y1 y2 y3 y4 y5 y6, σ = [some (.ref a), y1, y2, y3, y4, y5, y6] ∧ Same HL H1) ⟨_, _, _, _, _, _, rfl, Same.refl HL⟩ (fun i σ H1 _ h => by
      obtain ⟨_, _, _, _, _, _, _, q⟩ := h
      exact SqL.of (q _ _ hL)) ?_ ?_⟩
    · rintro i x σ H1 hx ⟨y1, y2, y3, y4, y5, y6, rfl, s1⟩
      obtain ⟨z, rfl⟩ := cint x (List.mem_of_getElem? hx)
      refine ⟨_, rfl, z, rfl, fun A b nA => ?_⟩
      have nLA : HL A = .none := s1.free nA
      have kp : ∀ {H2 H3 : Hp}, Same HL H2 → SameBut A H2 H3 → Same HL H3 := fun s t b o e => t b o (ne_of_none e nLA) (s b o e)
      refine ⟨_, rfl, (by show 4 ≤ sizeLine; decide), fun p np => ?_⟩
      have s2 : Same HL (upd H1 A (bagO b)) := s1.trans (same_new nA)
      have nAp : A ≠ p := ne_of_none upd_same np
      have s3 := s2.trans (same_new (o := .lst [.int 1, .int 2, .int 4, .int 26]) np)
      refine ⟨_, rfl, A, 4, b, rfl, (by rw [upd_ne nAp, upd_same]), by decide, by decide, fun v b1 v0 v4 => ?_⟩
      have s4 := kp s3 (sameBut_upd (o := bagO b1))
      have hp4 : upd (upd (upd H1 A (bagO b)) p (.lst [.int 1, .int 2, .int 4, .int 26])) A (bagO b1) p = some (.lst [.int 1, .int 2, .int 4, .int 26]) := by rw [upd_ne nAp.symm, upd_same]
      have hA4 : upd (upd (upd H1 A (bagO b)) p (.lst [.int 1, .int 2, .int 4, .int 26])) A (bagO b1) A = some (bagO b1) := upd_same
      generalize upd (upd (upd H1 A (bagO b)) p (.lst [.int 1, .int 2, .int 4, .int 26])) A (bagO b1) = H4 at s4 hp4 hA4
      obtain ⟨n, n0, n26, hn⟩ : ∃ n : Int, 0 < n ∧ n ≤ 26 ∧ atI [V.int 1, V.int 2, V.int 4, V.int 26] v = some (.int n) := by
        obtain ⟨k, rfl⟩ := Int.eq_ofNat_of_zero_le v0
        match k, v4 with
        | 0, _ => exact ⟨1, by decide, by decide, atI_nat rfl⟩
        | 1, _ => exact ⟨2, by decide, by decide, atI_nat rfl⟩
        | 2, _ => exact ⟨4, by decide, by decide, atI_nat rfl⟩
        | 3, _ => exact ⟨26, by decide, by decide, atI_nat rfl⟩
        | k + 4, h => exact absurd h (by omega)
      refine ⟨p, _, v, .int n, rfl, rfl, SqL.of hp4, hn, A, n, b1, rfl, hA4, n0, n26, fun pk ws H5 npk hpk kn wl wz bg5 sb5 => ?_⟩
      have s5 := kp s4 sb5
      obtain ⟨b5, hb5⟩ := bg5
      refine ⟨_, rfl, A, b5, rfl, hb5, fun t H6 azt tl bg6 sb6 => ?_⟩
      obtain ⟨b6, hb6⟩ := bg6
      refine ⟨_, rfl, A, b6, rfl, hb6, fun o H7 azo ol bg7 sb7 => ?_⟩
      obtain ⟨b7, hb7⟩ := bg7
      have nkA : pk ≠ A := fun z => by rw [z, hA4] at npk; cases npk
      have s7 := kp (kp s5 sb6) sb7
      have hk7 := sb7 pk _ nkA (sb6 pk _ nkA hpk)
      have hts : (S t).length ≤ sizeLine := by rw [SX.S_len]; exact Nat.le_trans tl (by decide)
      refine ⟨_, _, rfl, ?_⟩
      refine ⟨_, rfl, S t, rfl, hts, ?_⟩
      rw [SX.S_len]
      refine ⟨_, rfl, _, rfl, S t, rfl, hts, _, _, rfl, rfl, ?_⟩
      rw [SX.S_len]
      refine ⟨A, _, b7, rfl, hb7, by omega, by omega, fun u1 b8 u10 u11 => ?_⟩
      refine ⟨_, rfl, _, rfl, S t, rfl, hts, _, _, rfl, rfl, ?_⟩
      rw [SX.S_len]
      refine ⟨A, _, b8, rfl, upd_same, by omega, by omega, fun u2 b9 u20 u21 => ⟨(by show 4 ≤ sizeLine; decide), fun p2 np2 => ?_⟩⟩
      have s9 : Same HL (upd (upd (upd H7 A (bagO b8)) A (bagO b9)) p2 (.lst [.int 0, .int (t.length : Nat), .int u1, .int u2])) := (kp (kp s7 (sameBut_upd (o := bagO b8))) (sameBut_upd (o := bagO b9))).trans (same_new np2)
      have hk9 : upd (upd (upd H7 A (bagO b8)) A (bagO b9)) p2 (.lst [.int 0, .int (t.length : Nat), .int u1, .int u2]) pk = some (.tup (tx ws)) := by
        have z : upd (upd H7 A (bagO b8)) A (bagO b9) pk = some (.tup (tx ws)) := by rw [upd_ne nkA, upd_ne nkA]; exact hk7
        rw [upd_ne (ne_of_none z np2)]
        exact z
      have hp9 : upd (upd (upd H7 A (bagO b8)) A (bagO b9)) p2 (.lst [.int 0, .int (t.length : Nat), .int u1, .int u2]) p2 = some (.lst [.int 0, .int (t.length : Nat), .int u1, .int u2]) := upd_same
      generalize upd (upd (upd H7 A (bagO b8)) A (bagO b9)) p2 (.lst [.int 0, .int (t.length : Nat), .int u1, .int u2]) = H9 at s9 hk9 hp9
      refine ⟨p2, rfl, ⟨_, SqL.of hp9⟩, for_list (K := K) (a := p2) (xs := [.int 0, .int (t.length : Nat), .int u1, .int u2]) (fun i σ H' => ∃ y, σ = [some (.ref a), some (.int z), some (.ref A), some (.ref pk), some (.str (S t)), some (.str (S o)), y] ∧ Same H9 H') ⟨_, rfl, Same.refl H9⟩ (fun i σ H' _ h => by
        obtain ⟨_, _, q⟩ := h
        exact SqL.of (q _ _ hp9)) ?_ ?_⟩
      · rintro i x σ H' hx ⟨y, rfl, s'⟩
        obtain ⟨k, rfl, hk⟩ : ∃ k : Nat, x = V.int (k : Nat) ∧ k ≤ t.length := by
          have hm := List.mem_of_getElem? hx
          simp only [List.mem_cons, List.not_mem_nil, or_false] at hm
          rcases hm with rfl | rfl | rfl | rfl
          · exact ⟨0, rfl, Nat.zero_le _⟩
          · exact ⟨t.length, rfl, Nat.le_refl _⟩
          · exact ⟨u1.toNat, by rw [Int.toNat_of_nonneg u10], by omega⟩
          · exact ⟨u2.toNat, by rw [Int.toNat_of_nonneg u20], by omega⟩
        refine ⟨_, rfl, _, rfl, _, rfl, pk, ws, t, k, rfl, s' _ _ hk9, kn, by omega, fun l hl => Nat.le_trans (wz l hl) (by decide), azt, by omega, hk, fun H'' s'' => ⟨_, rfl, ?_⟩⟩
        exact ⟨_, rfl, s'.trans s''⟩
      · rintro σ H' ⟨y, rfl, s'⟩
        refine ⟨_, rfl, _, rfl, _, rfl, pk, ws, t, o, rfl, s' _ _ hk9, kn, by omega, fun l hl => Nat.le_trans (wz l hl) (by decide), azt, by omega, azo, by omega, fun H'' s'' => ⟨_, rfl, ?_⟩⟩
        refine ⟨_, rfl, _, rfl, _, rfl, pk, ws, o, t, rfl, (s'.trans s'') _ _ hk9, kn, by omega, fun l hl => Nat.le_trans (wz l hl) (by decide), azo, by omega, azt, by omega, fun H3 s3' => ⟨_, rfl, ?_⟩⟩
        exact ⟨_, _, _, _, _, _, rfl, ((s9.trans s').trans s'').trans s3'⟩
    · rintro σ H1 _
      exact q H1
end
end Lk
end
set_option maxRecDepth 100000
set_option maxHeartbeats 4000000
namespace Lk
open PySem PySem.Spec PyProof.Rows L2
theorem mkCal {P : Program} {w : World} {K : PySem.W.Frag} {mg : Str → Option Value} {base : Heap} {k : Nat} {x q : Str} {st : Stmt} {f : Addr} {fd : FuncData} {ps : List Str} {sp : Sp} (F : Fun K x q st f fd) (g : mg x = some (.ref f)) (b : Binds K fd ps []) (ok : FnOk P w K mg base CX0 k f fd ps sp) : C8.Cal P w K mg base k x sp [] :=
  ⟨f, fd, ps, [], ok, g, F.kp, b, .nil⟩
theorem mkCalX {P : Program} {w : World} {K : PySem.W.Frag} {mg : Str → Option Value} {base : Heap} {k : Nat} {x q : Str} {st : Stmt} {f : Addr} {fd : FuncData} {ps : List Str} {sp : Sp} (F : Fun K x q st f fd) (g : mg x = some (.ref f)) (b : Binds K fd ps []) (ok : FnOk P w K mg base (L2.CX P w) k f fd ps sp) : CalX P w K mg base k x sp :=
  ⟨f, fd, ps, ok, g, F.kp, b⟩
theorem kit_no {K : PySem.W.Frag} {C D : Addr} (self : PySem.W.subIn K (.ref C) (.ref C) = some true) (hc : PySem.W.isClsIn K D = true) (ht : PySem.W.typeIn K (.ref D) = some (.type "type")) (hs : PySem.W.subIn K (.ref C) (.ref D) = some false) : PySem.W.kitOne K (.ref C) (.ref D) = some false := by
  have ne : ¬ ((Value.ref C == Value.ref D) = true) := fun z => by
    have e : C = D := Value.ref.inj (eq_of_beq z)
    rw [← e, self] at hs
    cases hs
  have hc' : (PySem.W.clsIn K D).isSome = true := hc
  unfold PySem.W.kitOne
  rw [if_neg ne]
  show (if ((PySem.W.clsIn K D).isSome && PySem.W.typeIn K (.ref D) == some (.type "type")) = true then PySem.W.subIn K (.ref C) (.ref D) else none) = some false
  rw [hc', ht, if_pos (by rfl)]
  exact hs
theorem kit_ve {K : PySem.W.Frag} {C : Addr} (hs : PySem.W.subIn K (.ref C) (.type "ValueError") = some true) : PySem.W.kitOne K (.ref C) (.type "ValueError") = some true := by
  unfold PySem.W.kitOne
  rw [if_neg (show ¬ ((Value.ref C == Value.type "ValueError") = true) from fun z => nomatch z)]
  show (if PySem.W.kitMeta "ValueError" = true then PySem.W.subIn K (.ref C) (.type "ValueError") else none) = some true
  rw [if_pos (by decide +kernel)]
  exact hs
theorem all_mk {l : PySem.W.OpenLaw} {w : World} {K : PySem.W.Frag} {h : Heap} {mg : Str → Option Value} {fa CK CT : Addr} {tp : Tok} (X : K.In h) (G : h.Ns mainGlobals mg) (hfa : mg "law" = some (.ref fa))
    {f1 f2 f3 f4 f5 f6 f7 f8 f9 f10 f11 f12 f13 f14 f15 f16 f17 f18 f19 f20 f21 f22 f23 f24 : Addr} {od1 an1 od2 an2 od3 an3 od4 an4 od5 an5 od6 an6 od7 an7 od8 an8 od9 an9 od10 an10 od11 an11 od12 an12 od13 an13 od14 an14 od15 an15 od16 an16 od17 an17 od18 an18 od19 an19 od20 an20 od21 an21 od22 an22 od23 an23 od24 an24 : Option Addr} {sl1 sl2 sl3 sl4 sl5 sl6 sl7 sl8 sl9 sl10 sl11 sl12 sl13 sl14 sl15 sl16 sl17 sl18 sl19 sl20 sl21 sl22 sl23 sl24 : Array (Option Value)} {oc1 kV1 dc1 pm1 cd1 ct1 oc2 kV2 dc2 pm2 cd2 ct2 oc3 kV3 dc3 pm3 cd3 ct3 oc4 kV4 dc4 pm4 cd4 ct4 oc5 kV5 dc5 pm5 cd5 ct5 oc6 kV6 dc6 pm6 cd6 ct6 oc7 kV7 dc7 pm7 cd7 ct7 oc8 kV8 dc8 pm8 cd8 ct8 oc9 kV9 dc9 pm9 cd9 ct9 oc10 kV10 dc10 pm10 cd10 ct10 oc11 kV11 dc11 pm11 cd11 ct11 oc12 kV12 dc12 pm12 cd12 ct12 oc13 kV13 dc13 pm13 cd13 ct13 oc14 kV14 dc14 pm14 cd14 ct14 oc15 kV15 dc15 pm15 cd15 ct15 oc16 kV16 dc16 pm16 cd16 ct16 oc17 kV17 dc17 pm17 cd17 ct17 oc18 kV18 dc18 pm18 cd18 ct18 oc19 kV19 dc19 pm19 cd19 ct19 oc20 kV20 dc20 pm20 cd20 ct20 oc21 kV21 dc21 pm21 cd21 ct21 oc22 kV22 dc22 pm22 cd22 ct22 oc23 kV23 dc23 pm23 cd23 ct23 oc24 kV24 dc24 pm24 cd24 ct24 : Value}
    (a1 : PySem.W.nsIn K mainGlobals "is_letters" = some (some (.ref f1))) (l1 : K.lookup f1 = some ⟨oc1, od1, .func (PySem.W.fnOf "is_letters" "is_letters" (defArgs s_is_letters) (defBody s_is_letters) (defScope s_is_letters) .none kV1 dc1 pm1 an1 cd1 ct1), sl1⟩) (c1 : PySem.W.codeIn K cd1 "is_letters" = true) (k1 : PySem.W.keepIn K (.ref f1) = true)
    (a2 : PySem.W.nsIn K mainGlobals "is_whole" = some (some (.ref f2))) (l2 : K.lookup f2 = some ⟨oc2, od2, .func (PySem.W.fnOf "is_whole" "is_whole" (defArgs s_is_whole) (defBody s_is_whole) (defScope s_is_whole) .none kV2 dc2 pm2 an2 cd2 ct2), sl2⟩) (c2 : PySem.W.codeIn K cd2 "is_whole" = true) (k2 : PySem.W.keepIn K (.ref f2) = true)
    (a3 : PySem.W.nsIn K mainGlobals "is_word" = some (some (.ref f3))) (l3 : K.lookup f3 = some ⟨oc3, od3, .func (PySem.W.fnOf "is_word" "is_word" (defArgs s_is_word) (defBody s_is_word) (defScope s_is_word) .none kV3 dc3 pm3 an3 cd3 ct3), sl3⟩) (c3 : PySem.W.codeIn K cd3 "is_word" = true) (k3 : PySem.W.keepIn K (.ref f3) = true)
    (a4 : PySem.W.nsIn K mainGlobals "is_known" = some (some (.ref f4))) (l4 : K.lookup f4 = some ⟨oc4, od4, .func (PySem.W.fnOf "is_known" "is_known" (defArgs s_is_known) (defBody s_is_known) (defScope s_is_known) .none kV4 dc4 pm4 an4 cd4 ct4), sl4⟩) (c4 : PySem.W.codeIn K cd4 "is_known" = true) (k4 : PySem.W.keepIn K (.ref f4) = true)
    (a5 : PySem.W.nsIn K mainGlobals "refuse_unknown" = some (some (.ref f5))) (l5 : K.lookup f5 = some ⟨oc5, od5, .func (PySem.W.fnOf "refuse_unknown" "refuse_unknown" (defArgs s_refuse_unknown) (defBody s_refuse_unknown) (defScope s_refuse_unknown) .none kV5 dc5 pm5 an5 cd5 ct5), sl5⟩) (c5 : PySem.W.codeIn K cd5 "refuse_unknown" = true) (k5 : PySem.W.keepIn K (.ref f5) = true)
    (a6 : PySem.W.nsIn K mainGlobals "refuse_no_text" = some (some (.ref f6))) (l6 : K.lookup f6 = some ⟨oc6, od6, .func (PySem.W.fnOf "refuse_no_text" "refuse_no_text" (defArgs s_refuse_no_text) (defBody s_refuse_no_text) (defScope s_refuse_no_text) .none kV6 dc6 pm6 an6 cd6 ct6), sl6⟩) (c6 : PySem.W.codeIn K cd6 "refuse_no_text" = true) (k6 : PySem.W.keepIn K (.ref f6) = true)
    (a7 : PySem.W.nsIn K mainGlobals "numbered" = some (some (.ref f7))) (l7 : K.lookup f7 = some ⟨oc7, od7, .func (PySem.W.fnOf "numbered" "numbered" (defArgs s_numbered) (defBody s_numbered) (defScope s_numbered) .none kV7 dc7 pm7 an7 cd7 ct7), sl7⟩) (c7 : PySem.W.codeIn K cd7 "numbered" = true) (k7 : PySem.W.keepIn K (.ref f7) = true)
    (a8 : PySem.W.nsIn K mainGlobals "longest_end" = some (some (.ref f8))) (l8 : K.lookup f8 = some ⟨oc8, od8, .func (PySem.W.fnOf "longest_end" "longest_end" (defArgs s_longest_end) (defBody s_longest_end) (defScope s_longest_end) .none kV8 dc8 pm8 an8 cd8 ct8), sl8⟩) (c8 : PySem.W.codeIn K cd8 "longest_end" = true) (k8 : PySem.W.keepIn K (.ref f8) = true)
    (a9 : PySem.W.nsIn K mainGlobals "read_text" = some (some (.ref f9))) (l9 : K.lookup f9 = some ⟨oc9, od9, .func (PySem.W.fnOf "read_text" "read_text" (defArgs s_read_text) (defBody s_read_text) (defScope s_read_text) .none kV9 dc9 pm9 an9 cd9 ct9), sl9⟩) (c9 : PySem.W.codeIn K cd9 "read_text" = true) (k9 : PySem.W.keepIn K (.ref f9) = true)
    (a10 : PySem.W.nsIn K mainGlobals "new_words" = some (some (.ref f10))) (l10 : K.lookup f10 = some ⟨oc10, od10, .func (PySem.W.fnOf "new_words" "new_words" (defArgs s_new_words) (defBody s_new_words) (defScope s_new_words) .none kV10 dc10 pm10 an10 cd10 ct10), sl10⟩) (c10 : PySem.W.codeIn K cd10 "new_words" = true) (k10 : PySem.W.keepIn K (.ref f10) = true)
    (a11 : PySem.W.nsIn K mainGlobals "cut" = some (some (.ref f11))) (l11 : K.lookup f11 = some ⟨oc11, od11, .func (PySem.W.fnOf "cut" "cut" (defArgs s_cut) (defBody s_cut) (defScope s_cut) .none kV11 dc11 pm11 an11 cd11 ct11), sl11⟩) (c11 : PySem.W.codeIn K cd11 "cut" = true) (k11 : PySem.W.keepIn K (.ref f11) = true)
    (a12 : PySem.W.nsIn K mainGlobals "known_behind" = some (some (.ref f12))) (l12 : K.lookup f12 = some ⟨oc12, od12, .func (PySem.W.fnOf "known_behind" "known_behind" (defArgs s_known_behind) (defBody s_known_behind) (defScope s_known_behind) .none kV12 dc12 pm12 an12 cd12 ct12), sl12⟩) (c12 : PySem.W.codeIn K cd12 "known_behind" = true) (k12 : PySem.W.keepIn K (.ref f12) = true)
    (a13 : PySem.W.nsIn K mainGlobals "pairs" = some (some (.ref f13))) (l13 : K.lookup f13 = some ⟨oc13, od13, .func (PySem.W.fnOf "pairs" "pairs" (defArgs s_pairs) (defBody s_pairs) (defScope s_pairs) .none kV13 dc13 pm13 an13 cd13 ct13), sl13⟩) (c13 : PySem.W.codeIn K cd13 "pairs" = true) (k13 : PySem.W.keepIn K (.ref f13) = true)
    (a14 : PySem.W.nsIn K mainGlobals "is_pair" = some (some (.ref f14))) (l14 : K.lookup f14 = some ⟨oc14, od14, .func (PySem.W.fnOf "is_pair" "is_pair" (defArgs s_is_pair) (defBody s_is_pair) (defScope s_is_pair) .none kV14 dc14 pm14 an14 cd14 ct14), sl14⟩) (c14 : PySem.W.codeIn K cd14 "is_pair" = true) (k14 : PySem.W.keepIn K (.ref f14) = true)
    (a15 : PySem.W.nsIn K mainGlobals "read_pairs" = some (some (.ref f15))) (l15 : K.lookup f15 = some ⟨oc15, od15, .func (PySem.W.fnOf "read_pairs" "read_pairs" (defArgs s_read_pairs) (defBody s_read_pairs) (defScope s_read_pairs) .none kV15 dc15 pm15 an15 cd15 ct15), sl15⟩) (c15 : PySem.W.codeIn K cd15 "read_pairs" = true) (k15 : PySem.W.keepIn K (.ref f15) = true)
    (a16 : PySem.W.nsIn K mainGlobals "_law_bag" = some (some (.ref f16))) (l16 : K.lookup f16 = some ⟨oc16, od16, .func (PySem.W.fnOf "_law_bag" "_law_bag" (defArgs s_law_bag) (defBody s_law_bag) (defScope s_law_bag) .none kV16 dc16 pm16 an16 cd16 ct16), sl16⟩) (c16 : PySem.W.codeIn K cd16 "_law_bag" = true) (k16 : PySem.W.keepIn K (.ref f16) = true)
    (a17 : PySem.W.nsIn K mainGlobals "_law_pick" = some (some (.ref f17))) (l17 : K.lookup f17 = some ⟨oc17, od17, .func (PySem.W.fnOf "_law_pick" "_law_pick" (defArgs s_law_pick) (defBody s_law_pick) (defScope s_law_pick) .none kV17 dc17 pm17 an17 cd17 ct17), sl17⟩) (c17 : PySem.W.codeIn K cd17 "_law_pick" = true) (k17 : PySem.W.keepIn K (.ref f17) = true)
    (a18 : PySem.W.nsIn K mainGlobals "_law_some" = some (some (.ref f18))) (l18 : K.lookup f18 = some ⟨oc18, od18, .func (PySem.W.fnOf "_law_some" "_law_some" (defArgs s_law_some) (defBody s_law_some) (defScope s_law_some) .none kV18 dc18 pm18 an18 cd18 ct18), sl18⟩) (c18 : PySem.W.codeIn K cd18 "_law_some" = true) (k18 : PySem.W.keepIn K (.ref f18) = true)
    (a19 : PySem.W.nsIn K mainGlobals "_law_known" = some (some (.ref f19))) (l19 : K.lookup f19 = some ⟨oc19, od19, .func (PySem.W.fnOf "_law_known" "_law_known" (defArgs s_law_known) (defBody s_law_known) (defScope s_law_known) .none kV19 dc19 pm19 an19 cd19 ct19), sl19⟩) (c19 : PySem.W.codeIn K cd19 "_law_known" = true) (k19 : PySem.W.keepIn K (.ref f19) = true)
    (a20 : PySem.W.nsIn K mainGlobals "_law_text" = some (some (.ref f20))) (l20 : K.lookup f20 = some ⟨oc20, od20, .func (PySem.W.fnOf "_law_text" "_law_text" (defArgs s_law_text) (defBody s_law_text) (defScope s_law_text) .none kV20 dc20 pm20 an20 cd20 ct20), sl20⟩) (c20 : PySem.W.codeIn K cd20 "_law_text" = true) (k20 : PySem.W.keepIn K (.ref f20) = true)
    (a21 : PySem.W.nsIn K mainGlobals "_law_parts_right" = some (some (.ref f21))) (l21 : K.lookup f21 = some ⟨oc21, od21, .func (PySem.W.fnOf "_law_parts_right" "_law_parts_right" (defArgs s_law_parts_right) (defBody s_law_parts_right) (defScope s_law_parts_right) .none kV21 dc21 pm21 an21 cd21 ct21), sl21⟩) (c21 : PySem.W.codeIn K cd21 "_law_parts_right" = true) (k21 : PySem.W.keepIn K (.ref f21) = true)
    (a22 : PySem.W.nsIn K mainGlobals "_law_together_right" = some (some (.ref f22))) (l22 : K.lookup f22 = some ⟨oc22, od22, .func (PySem.W.fnOf "_law_together_right" "_law_together_right" (defArgs s_law_together_right) (defBody s_law_together_right) (defScope s_law_together_right) .none kV22 dc22 pm22 an22 cd22 ct22), sl22⟩) (c22 : PySem.W.codeIn K cd22 "_law_together_right" = true) (k22 : PySem.W.keepIn K (.ref f22) = true)
    (a23 : PySem.W.nsIn K mainGlobals "is_within" = some (some (.ref f23))) (l23 : K.lookup f23 = some ⟨oc23, od23, .func (PySem.W.fnOf "is_within" "is_within" (defArgs s_is_within) (defBody s_is_within) (defScope s_is_within) .none kV23 dc23 pm23 an23 cd23 ct23), sl23⟩) (c23 : PySem.W.codeIn K cd23 "is_within" = true) (k23 : PySem.W.keepIn K (.ref f23) = true)
    (a24 : PySem.W.nsIn K mainGlobals "law" = some (some (.ref f24))) (l24 : K.lookup f24 = some ⟨oc24, od24, .func (PySem.W.fnOf "law" "law" (defArgs s_law) (defBody s_law) (defScope s_law) .none kV24 dc24 pm24 an24 cd24 ct24), sl24⟩) (c24 : PySem.W.codeIn K cd24 "law" = true) (k24 : PySem.W.keepIn K (.ref f24) = true)
    (z1 : PySem.W.nsIn K mainGlobals "isinstance" = some none)
    (z2 : PySem.W.nsIn K mainGlobals "str" = some none)
    (z3 : PySem.W.nsIn K mainGlobals "all" = some none)
    (z4 : PySem.W.nsIn K mainGlobals "len" = some none)
    (z5 : PySem.W.nsIn K mainGlobals "tuple" = some none)
    (z6 : PySem.W.nsIn K mainGlobals "zip" = some none)
    (z7 : PySem.W.nsIn K mainGlobals "int" = some none)
    (z8 : PySem.W.nsIn K mainGlobals "bool" = some none)
    (z9 : PySem.W.nsIn K mainGlobals "list" = some none)
    (z10 : PySem.W.nsIn K mainGlobals "enumerate" = some none)
    (z11 : PySem.W.nsIn K mainGlobals "sorted" = some none)
    (z12 : PySem.W.nsIn K mainGlobals "max" = some none)
    (z13 : PySem.W.nsIn K mainGlobals "range" = some none)
    (mp : PySem.W.nsIn K mainGlobals "MOST_LETTERS" = some (some (.int 2000 tp)))
    (gCK : PySem.W.nsIn K mainGlobals "NoKnown" = some (some (.ref CK))) (kCK : PySem.W.keepIn K (.ref CK) = true) (xCK : PySem.W.excIn K CK [.type "ValueError", .type "Exception", .type "BaseException", .type "object"] "ValueError.__new__" = true) (bCK : PySem.W.subIn K (.ref CK) (.type "BaseException") = some true) (tCK : PySem.W.typeIn K (.ref CK) = some (.type "type"))
    (gCT : PySem.W.nsIn K mainGlobals "NoText" = some (some (.ref CT))) (kCT : PySem.W.keepIn K (.ref CT) = true) (xCT : PySem.W.excIn K CT [.type "ValueError", .type "Exception", .type "BaseException", .type "object"] "ValueError.__new__" = true) (bCT : PySem.W.subIn K (.ref CT) (.type "BaseException") = some true) (tCT : PySem.W.typeIn K (.ref CT) = some (.type "type"))
    :
    ∃ fd : FuncData, (∀ (s : Shared) (v : Value), BindsTo s fd ⟨[v], []⟩ [("script", v)]) ∧ ∀ base : Heap, K.In base → base.Ns mainGlobals mg → FnOk l.prog w K mg base CX0 8 fa fd ["script"] (spLaw K) := by
  have e := hfa.symm.trans (PySem.W.mg_of X G a24)
  cases e
  have F1 := fun_mk (st := s_is_letters) l1 c1 k1
  have F2 := fun_mk (st := s_is_whole) l2 c2 k2
  have F3 := fun_mk (st := s_is_word) l3 c3 k3
  have F4 := fun_mk (st := s_is_known) l4 c4 k4
  have F5 := fun_mk (st := s_refuse_unknown) l5 c5 k5
  have F6 := fun_mk (st := s_refuse_no_text) l6 c6 k6
  have F7 := fun_mk (st := s_numbered) l7 c7 k7
  have F8 := fun_mk (st := s_longest_end) l8 c8 k8
  have F9 := fun_mk (st := s_read_text) l9 c9 k9
  have F10 := fun_mk (st := s_new_words) l10 c10 k10
  have F11 := fun_mk (st := s_cut) l11 c11 k11
  have F12 := fun_mk (st := s_known_behind) l12 c12 k12
  have F13 := fun_mk (st := s_pairs) l13 c13 k13
  have F14 := fun_mk (st := s_is_pair) l14 c14 k14
  have F15 := fun_mk (st := s_read_pairs) l15 c15 k15
  have F16 := fun_mk (st := s_law_bag) l16 c16 k16
  have F17 := fun_mk (st := s_law_pick) l17 c17 k17
  have F18 := fun_mk (st := s_law_some) l18 c18 k18
  have F19 := fun_mk (st := s_law_known) l19 c19 k19
  have F20 := fun_mk (st := s_law_text) l20 c20 k20
  have F21 := fun_mk (st := s_law_parts_right) l21 c21 k21
  have F22 := fun_mk (st := s_law_together_right) l22 c22 k22
  have F23 := fun_mk (st := s_is_within) l23 c23 k23
  have F24 := fun_mk (st := s_law) l24 c24 k24
  have b1 := F1.binds (ps := ["thing"]) fun _ _ _ _ _ _ us hl => match us, hl with | [_], _ => rfl
  have b2 := F2.binds (ps := ["thing"]) fun _ _ _ _ _ _ us hl => match us, hl with | [_], _ => rfl
  have b3 := F3.binds (ps := ["thing"]) fun _ _ _ _ _ _ us hl => match us, hl with | [_], _ => rfl
  have b4 := F4.binds (ps := ["thing"]) fun _ _ _ _ _ _ us hl => match us, hl with | [_], _ => rfl
  have b5 := F5.binds (ps := ["known"]) fun _ _ _ _ _ _ us hl => match us, hl with | [_], _ => rfl
  have b6 := F6.binds (ps := ["text"]) fun _ _ _ _ _ _ us hl => match us, hl with | [_], _ => rfl
  have b7 := F7.binds (ps := ["words"]) fun _ _ _ _ _ _ us hl => match us, hl with | [_], _ => rfl
  have b8 := F8.binds (ps := ["numbers", "text", "at"]) fun _ _ _ _ _ _ us hl => match us, hl with | [_, _, _], _ => rfl
  have b9 := F9.binds (ps := ["known", "text"]) fun _ _ _ _ _ _ us hl => match us, hl with | [_, _], _ => rfl
  have b10 := F10.binds (ps := ["known", "numbers"]) fun _ _ _ _ _ _ us hl => match us, hl with | [_, _], _ => rfl
  have b11 := F11.binds (ps := ["known", "text"]) fun _ _ _ _ _ _ us hl => match us, hl with | [_, _], _ => rfl
  have b12 := F12.binds (ps := ["known", "text"]) fun _ _ _ _ _ _ us hl => match us, hl with | [_, _], _ => rfl
  have b13 := F13.binds (ps := ["known", "text"]) fun _ _ _ _ _ _ us hl => match us, hl with | [_, _], _ => rfl
  have b14 := F14.binds (ps := ["thing", "many"]) fun _ _ _ _ _ _ us hl => match us, hl with | [_, _], _ => rfl
  have b15 := F15.binds (ps := ["known", "row"]) fun _ _ _ _ _ _ us hl => match us, hl with | [_, _], _ => rfl
  have b16 := F16.binds (ps := ["cell"]) fun _ _ _ _ _ _ us hl => match us, hl with | [_], _ => rfl
  have b17 := F17.binds (ps := ["bag", "many"]) fun _ _ _ _ _ _ us hl => match us, hl with | [_, _], _ => rfl
  have b18 := F18.binds (ps := ["bag", "many"]) fun _ _ _ _ _ _ us hl => match us, hl with | [_, _], _ => rfl
  have b19 := F19.binds (ps := ["bag", "kinds"]) fun _ _ _ _ _ _ us hl => match us, hl with | [_, _], _ => rfl
  have b20 := F20.binds (ps := ["bag"]) fun _ _ _ _ _ _ us hl => match us, hl with | [_], _ => rfl
  have b21 := F21.binds (ps := ["known", "text", "at"]) fun _ _ _ _ _ _ us hl => match us, hl with | [_, _, _], _ => rfl
  have b22 := F22.binds (ps := ["known", "one", "other"]) fun _ _ _ _ _ _ us hl => match us, hl with | [_, _, _], _ => rfl
  have b23 := F23.binds (ps := ["thing", "least", "most"]) fun _ _ _ _ _ _ us hl => match us, hl with | [_, _, _], _ => rfl
  have g1 := PySem.W.mg_of X G a1
  have g2 := PySem.W.mg_of X G a2
  have g3 := PySem.W.mg_of X G a3
  have g4 := PySem.W.mg_of X G a4
  have g5 := PySem.W.mg_of X G a5
  have g6 := PySem.W.mg_of X G a6
  have g7 := PySem.W.mg_of X G a7
  have g8 := PySem.W.mg_of X G a8
  have g9 := PySem.W.mg_of X G a9
  have g10 := PySem.W.mg_of X G a10
  have g11 := PySem.W.mg_of X G a11
  have g12 := PySem.W.mg_of X G a12
  have g13 := PySem.W.mg_of X G a13
  have g14 := PySem.W.mg_of X G a14
  have g15 := PySem.W.mg_of X G a15
  have g16 := PySem.W.mg_of X G a16
  have g17 := PySem.W.mg_of X G a17
  have g18 := PySem.W.mg_of X G a18
  have g19 := PySem.W.mg_of X G a19
  have g20 := PySem.W.mg_of X G a20
  have g21 := PySem.W.mg_of X G a21
  have g22 := PySem.W.mg_of X G a22
  have g23 := PySem.W.mg_of X G a23
  have g24 := PySem.W.mg_of X G a24
  have w1 := PySem.W.mg_none_of X G z1
  have w2 := PySem.W.mg_none_of X G z2
  have w3 := PySem.W.mg_none_of X G z3
  have w4 := PySem.W.mg_none_of X G z4
  have w5 := PySem.W.mg_none_of X G z5
  have w6 := PySem.W.mg_none_of X G z6
  have w7 := PySem.W.mg_none_of X G z7
  have w8 := PySem.W.mg_none_of X G z8
  have w9 := PySem.W.mg_none_of X G z9
  have w10 := PySem.W.mg_none_of X G z10
  have w11 := PySem.W.mg_none_of X G z11
  have w12 := PySem.W.mg_none_of X G z12
  have w13 := PySem.W.mg_none_of X G z13
  have hmp := PySem.W.mg_of X G mp
  have TK : ErrC K mg "NoKnown" CK := ⟨PySem.W.mg_of X G gCK, kCK, xCK, bCK, tCK⟩
  have TT : ErrC K mg "NoText" CT := ⟨PySem.W.mg_of X G gCT, kCT, xCT, bCT, tCT⟩
  refine ⟨PySem.W.fnOf "law" "law" (defArgs s_law) (defBody s_law) (defScope s_law) .none kV24 dc24 pm24 an24 cd24 ct24, fun s v => .of_eq rfl, fun base _ _ => ?_⟩
  have E1 := mkCal (P := l.prog) (w := w) (base := base) F1 g1 b1 (ok_letters F1 w1 w2 w3)
  have E2 := mkCal (P := l.prog) (w := w) (base := base) F2 g2 b2 (ok_whole F2 w1 w7 w8)
  have E3 := mkCal F3 g3 b3 (ok_word F3 E1 w4)
  have E7 := mkCal (P := l.prog) (w := w) (base := base) F7 g7 b7 (ok_numbered F7 w4)
  have E4 := mkCal F4 g4 b4 (ok_known F4 E3 E7 w1 w5 w3 w6)
  have E5 := mkCalX F5 g5 b5 (ok_refK F5 E4 TK)
  have E6 := mkCalX F6 g6 b6 (ok_refT F6 E1 TT w4 hmp)
  have E8 := mkCal (P := l.prog) (w := w) (base := base) F8 g8 b8 (ok_longest F8 w4)
  have E9 := mkCalX F9 g9 b9 (ok_read F9 E5 E6 E7 E8 w4)
  have E10 := mkCal (P := l.prog) (w := w) (base := base) F10 g10 b10 (ok_new F10 w4 w9)
  have E11 := mkCalX F11 g11 b11 (ok_cut F11 E9 E10)
  have E12 := mkCalX F12 g12 b12 (ok_behind F12 E9 w5 w11)
  have E13 := mkCalX F13 g13 b13 (ok_pairs F13 E9 E10)
  have E23 := mkCal F23 g23 b23 (ok_within F23 E2)
  have E14 := mkCal F14 g14 b14 (ok_pair F14 E23 E1 w1 w5 w4)
  have E15 := mkCalX F15 g15 b15 (ok_readP F15 E5 E7 E14 w1 w9 w4 w10)
  have E16 : C8.Cal l.prog w K mg base 1 "_law_bag" spBag [] := mkCal F16 g16 b16 (ok_bag F16 w12)
  have E17 : C8.Cal l.prog w K mg base 1 "_law_pick" spPick [] := mkCal F17 g17 b17 (ok_pick F17)
  have E18 := mkCal F18 g18 b18 (ok_some F18 E17 w13)
  have E19 := mkCal F19 g19 b19 (ok_lknown F19 E17 w13 w4 w5 w11)
  have E20 := mkCal F20 g20 b20 (ok_ltext F20 E17 E18 w4)
  have E21 := mkCal F21 g21 b21 (ok_parts F21 ⟨E11, E13, w4⟩)
  have E22 := mkCal F22 g22 b22 (ok_tog F22 ⟨⟨E11, E13, w4⟩, E12, E15, E4, w11, w9⟩)
  exact ok_law F24 ⟨E16, E17, E19, E20, E21, E22, w4⟩
end Lk
open PySem PySem.W PyProof.Rows
set_option maxRecDepth 100000 in
set_option maxHeartbeats 0 in
theorem PySem.Challenge.cw_looplearn_k83_whole_texts_one_behind_the_holds : PySem.Challenge.rw_looplearn_k83_whole_texts_one_behind_the.Holds := by
  w_on; o_law; k_head; (case hw => w_witness2)
  k_fill
  refine L2.walk_of (l := PySem.Challenge.rw_looplearn_k83_whole_texts_one_behind_the) (n := 63) (k := 8) (x := "script") (CX := fun _ => L2.CX0) (sp := fun w => Lk.spLaw _) rfl (by decide) rfl ⟨rfl, by decide, by decide⟩ (fun w h Y => PySem.W.kIn_of Y) ?F (fun _ _ a ns hl _ hS => ⟨a, ns, rfl, hS, hl, fun _ => rfl⟩) (fun _ _ _ _ _ h => h)
  case F =>
    intro w mg fa h KX G hmg
    refine' Lk.all_mk KX G hmg ?a1 ?l1 ?c1 ?k1 ?a2 ?l2 ?c2 ?k2 ?a3 ?l3 ?c3 ?k3 ?a4 ?l4 ?c4 ?k4 ?a5 ?l5 ?c5 ?k5 ?a6 ?l6 ?c6 ?k6 ?a7 ?l7 ?c7 ?k7 ?a8 ?l8 ?c8 ?k8 ?a9 ?l9 ?c9 ?k9 ?a10 ?l10 ?c10 ?k10 ?a11 ?l11 ?c11 ?k11 ?a12 ?l12 ?c12 ?k12 ?a13 ?l13 ?c13 ?k13 ?a14 ?l14 ?c14 ?k14 ?a15 ?l15 ?c15 ?k15 ?a16 ?l16 ?c16 ?k16 ?a17 ?l17 ?c17 ?k17 ?a18 ?l18 ?c18 ?k18 ?a19 ?l19 ?c19 ?k19 ?a20 ?l20 ?c20 ?k20 ?a21 ?l21 ?c21 ?k21 ?a22 ?l22 ?c22 ?k22 ?a23 ?l23 ?c23 ?k23 ?a24 ?l24 ?c24 ?k24 ?z1 ?z2 ?z3 ?z4 ?z5 ?z6 ?z7 ?z8 ?z9 ?z10 ?z11 ?z12 ?z13 ?mp ?gCK ?kCK ?xCK ?bCK ?tCK ?gCT ?kCT ?xCT ?bCT ?tCT
    (case a1 => k_is)
    (case l1 => k_is)
    (case c1 => k_is)
    (case k1 => k_is)
    (case a2 => k_is)
    (case l2 => k_is)
    (case c2 => k_is)
    (case k2 => k_is)
    (case a3 => k_is)
    (case l3 => k_is)
    (case c3 => k_is)
    (case k3 => k_is)
    (case a4 => k_is)
    (case l4 => k_is)
    (case c4 => k_is)
    (case k4 => k_is)
    (case a5 => k_is)
    (case l5 => k_is)
    (case c5 => k_is)
    (case k5 => k_is)
    (case a6 => k_is)
    (case l6 => k_is)
    (case c6 => k_is)
    (case k6 => k_is)
    (case a7 => k_is)
    (case l7 => k_is)
    (case c7 => k_is)
    (case k7 => k_is)
    (case a8 => k_is)
    (case l8 => k_is)
    (case c8 => k_is)
    (case k8 => k_is)
    (case a9 => k_is)
    (case l9 => k_is)
    (case c9 => k_is)
    (case k9 => k_is)
    (case a10 => k_is)
    (case l10 => k_is)
    (case c10 => k_is)
    (case k10 => k_is)
    (case a11 => k_is)
    (case l11 => k_is)
    (case c11 => k_is)
    (case k11 => k_is)
    (case a12 => k_is)
    (case l12 => k_is)
    (case c12 => k_is)
    (case k12 => k_is)
    (case a13 => k_is)
    (case l13 => k_is)
    (case c13 => k_is)
    (case k13 => k_is)
    (case a14 => k_is)
    (case l14 => k_is)
    (case c14 => k_is)
    (case k14 => k_is)
    (case a15 => k_is)
    (case l15 => k_is)
    (case c15 => k_is)
    (case k15 => k_is)
    (case a16 => k_is)
    (case l16 => k_is)
    (case c16 => k_is)
    (case k16 => k_is)
    (case a17 => k_is)
    (case l17 => k_is)
    (case c17 => k_is)
    (case k17 => k_is)
    (case a18 => k_is)
    (case l18 => k_is)
    (case c18 => k_is)
    (case k18 => k_is)
    (case a19 => k_is)
    (case l19 => k_is)
    (case c19 => k_is)
    (case k19 => k_is)
    (case a20 => k_is)
    (case l20 => k_is)
    (case c20 => k_is)
    (case k20 => k_is)
    (case a21 => k_is)
    (case l21 => k_is)
    (case c21 => k_is)
    (case k21 => k_is)
    (case a22 => k_is)
    (case l22 => k_is)
    (case c22 => k_is)
    (case k22 => k_is)
    (case a23 => k_is)
    (case l23 => k_is)
    (case c23 => k_is)
    (case k23 => k_is)
    (case a24 => k_is)
    (case l24 => k_is)
    (case c24 => k_is)
    (case k24 => k_is)
    (case z1 => k_is)
    (case z2 => k_is)
    (case z3 => k_is)
    (case z4 => k_is)
    (case z5 => k_is)
    (case z6 => k_is)
    (case z7 => k_is)
    (case z8 => k_is)
    (case z9 => k_is)
    (case z10 => k_is)
    (case z11 => k_is)
    (case z12 => k_is)
    (case z13 => k_is)
    (case mp => k_is)
    (case gCK => k_is)
    (case kCK => k_is)
    (case xCK => k_exc)
    (case bCK => k_is)
    (case tCK => k_is)
    (case gCT => k_is)
    (case kCT => k_is)
    (case xCT => k_exc)
    (case bCT => k_is)
    (case tCT => k_is)
