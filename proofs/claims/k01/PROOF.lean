import PyProof.Rows.All
import Wide.All
import OpenK.AllK
import Wide.FinOn
import HandS.ForMost
import HandS.More
import HandS.IsInst
import HandS.StrMore
import HandS.Zip
import HandS.Wide
import HandS.Style
import HandS.RaiseMore
import HandS.Codes
import HandS.Flow
import HandS.Conv
import HandS.Walk
import PySem.Challenge.RW_mirrorstair_k01_data_read_and_written
set_option Elab.async false
set_option maxRecDepth 100000
set_option maxHeartbeats 4000000
namespace K1
open PySem L2
def top (i : Nat) : Stmt := PySem.Challenge.pw_mirrorstair_k01_data_read_and_written.main.body.getD i (.Pass ⟨0, 0, 0, 0⟩)
/-! ### texts as lists of signs -/
abbrev tl (x : Str) : List Nat := x.cps.toList
def mk (l : List Nat) : Str := ⟨l.toArray⟩
theorem tl_mk (l : List Nat) : tl (mk l) = l := rfl
theorem mk_tl (x : Str) : mk (tl x) = x := by cases x; rfl
theorem len_mk (l : List Nat) : (mk l).length = l.length := by simp [mk, Str.length]
theorem len_tl (x : Str) : x.length = (tl x).length := by simp [tl, Str.length]
abbrev isLet (c : Nat) : Bool := decide (97 ≤ c) && decide (c ≤ 122)
abbrev isDig (c : Nat) : Bool := decide (48 ≤ c) && decide (c ≤ 57)
def runLen (p : Nat → Bool) : Nat → List Nat → Nat
  | 0, _ => 0
  | _ + 1, [] => 0
  | n + 1, c :: r => if p c = true then runLen p n r + 1 else 0
theorem runLen_le (p : Nat → Bool) : ∀ (n : Nat) (l : List Nat), runLen p n l ≤ n
  | 0, _ => Nat.le_refl _
  | _ + 1, [] => Nat.zero_le _
  | n + 1, c :: r => by
    unfold runLen
    split
    · exact Nat.succ_le_succ (runLen_le p n r)
    · exact Nat.zero_le _
theorem runLen_len (p : Nat → Bool) : ∀ (n : Nat) (l : List Nat), runLen p n l ≤ l.length
  | 0, _ => Nat.zero_le _
  | _ + 1, [] => Nat.zero_le _
  | n + 1, c :: r => by
    unfold runLen
    split
    · exact Nat.succ_le_succ (runLen_len p n r)
    · exact Nat.zero_le _
/-- what may follow a leaf -/
def Stop (p : Nat → Bool) (t : List Nat) : Prop := ∀ c r, t = c :: r → p c = false
theorem runLen_app (p : Nat → Bool) : ∀ (n : Nat) (w t : List Nat), w.all p = true → w.length ≤ n → Stop p t → runLen p n (w ++ t) = w.length
  | 0, [], _, _, _, _ => rfl
  | 0, _ :: _, _, _, h, _ => by simp at h
  | n + 1, [], [], _, _, _ => rfl
  | n + 1, [], c :: r, _, _, h => by
    show (if p c = true then _ else 0) = 0
    rw [h c r rfl]; rfl
  | n + 1, c :: w, t, h1, h2, h3 => by
    rw [List.all_cons, Bool.and_eq_true] at h1
    show (if p c = true then runLen p n (w ++ t) + 1 else 0) = w.length + 1
    rw [if_pos h1.1, runLen_app p n w t h1.2 (Nat.le_of_succ_le_succ h2) h3]
/-- the end of a number that stands at the head, from its beginning; none where it is refused -/
def numLen (l : List Nat) : Except Nat Nat :=
  let s := if l.head? = some 45 then 1 else 0
  if (l.drop s).head? = some 48 then (if 0 < s then .error s else .ok (s + 1))
  else if runLen isDig 40 (l.drop s) = 0 then .error s else .ok (s + runLen isDig 40 (l.drop s))
inductive D where
  | bl (b : Bool) | num (n : Int) | wd (s : Str) | lst (ds : List D)
def yesT : List Nat := [121, 101, 115]
def noT : List Nat := [110, 111]
def leafOf (l : List Nat) : Except Nat (D × Nat) :=
  if runLen isLet 12 l = 0 then
    match numLen l with
    | .error e => .error e
    | .ok n => match intText? (mk (l.take n)) with
      | none => .error 0
      | some i => .ok (.num i, n)
  else
    if l.take (runLen isLet 12 l) = yesT then .ok (.bl true, 3)
    else if l.take (runLen isLet 12 l) = noT then .ok (.bl false, 2)
    else .ok (.wd (mk (l.take (runLen isLet 12 l))), runLen isLet 12 l)
/-! ### the text of a datum -/
def txtN (n : Int) : List Nat := tl (Str.ofString (toString n))
def txtB (b : Bool) : List Nat := if b then yesT else noT
mutual
def said : D → List Nat
  | .bl b => txtB b
  | .num n => txtN n
  | .wd s => tl s
  | .lst ds => 40 :: (sl ds ++ [41])
def sl : List D → List Nat
  | [] => []
  | d :: r => said d ++ sr r
def sr : List D → List Nat
  | [] => []
  | d :: r => 32 :: (said d ++ sr r)
end
/-- a number that may stand -/
def numOk (n : Int) : Bool :=
  decide (n.natAbs.log2 < 1920) && (decide (intText? (mk (txtN n)) = some n) && (decide ((txtN n).length ≤ 41) &&
  (if (txtN n).head? = some 45 then decide ((txtN n).drop 1 ≠ []) && ((txtN n).drop 1).all isDig && decide (((txtN n).drop 1).length ≤ 40) && decide (((txtN n).drop 1).head? ≠ some 48)
  else decide (txtN n = [48]) || (decide (txtN n ≠ []) && (txtN n).all isDig && decide ((txtN n).length ≤ 40) && decide ((txtN n).head? ≠ some 48)))))
def words16 : List Str := [Str.ofString "say", Str.ofString "if", Str.ofString "fun", Str.ofString "let", Str.ofString "hold", Str.ofString "heed", Str.ofString "up", Str.ofString "give", Str.ofString "put",
  Str.ofString "a", Str.ofString "zz", Str.ofString "abcdefghijkl", Str.ofString "yess", Str.ofString "noo", Str.ofString "plus", Str.ofString "x"]
def parts7 : List Str := [Str.ofString "say", Str.ofString "if", Str.ofString "fun", Str.ofString "let", Str.ofString "hold", Str.ofString "heed", Str.ofString "up"]
def wdOk (s : Str) : Bool := decide (tl s ≠ []) && (tl s).all isLet && decide ((tl s).length ≤ 12) && decide (tl s ≠ yesT) && decide (tl s ≠ noT) && decide (s ∈ words16)
mutual
def okD : D → Bool
  | .bl _ => true
  | .num n => numOk n
  | .wd s => wdOk s
  | .lst ds => okL ds
def okL : List D → Bool
  | [] => true
  | d :: r => okD d && okL r
end
mutual
def depth : D → Nat
  | .bl _ => 0
  | .num _ => 0
  | .wd _ => 0
  | .lst ds => depths ds + 1
def depths : List D → Nat
  | [] => 0
  | d :: r => max (depth d) (depths r)
end
theorem okL_app (a b : List D) : okL (a ++ b) = (okL a && okL b) := by
  induction a with
  | nil => rfl
  | cons d r ih => show (okD d && okL (r ++ b)) = ((okD d && okL r) && okL b); rw [ih, Bool.and_assoc]
theorem sr_app (a b : List D) : sr (a ++ b) = sr a ++ sr b := by
  induction a with
  | nil => rfl
  | cons d r ih => show 32 :: (said d ++ sr (r ++ b)) = 32 :: (said d ++ sr r) ++ sr b; rw [ih]; simp
/-! ### leaves -/
def isLeaf : D → Bool
  | .lst _ => false
  | _ => true
/-- what may stand behind a datum -/
def Behind (t : List Nat) : Prop := ∀ c r, t = c :: r → c = 32 ∨ c = 41
theorem Behind.letters {t : List Nat} (h : Behind t) : Stop isLet t := fun c r e => by
  rcases h c r e with rfl | rfl <;> rfl
theorem Behind.digits {t : List Nat} (h : Behind t) : Stop isDig t := fun c r e => by
  rcases h c r e with rfl | rfl <;> rfl
theorem leaf_word {w t : List Nat} (h0 : w ≠ []) (h1 : w.all isLet = true) (h2 : w.length ≤ 12) (ht : Behind t) :
    leafOf (w ++ t) = if w = yesT then .ok (.bl true, 3) else if w = noT then .ok (.bl false, 2) else .ok (.wd (mk w), w.length) := by
  have e := runLen_app isLet 12 w t h1 h2 ht.letters
  have n0 : ¬ w.length = 0 := fun z => h0 (List.length_eq_zero_iff.mp z)
  unfold leafOf
  rw [e, if_neg n0, List.take_left]
theorem leaf_ok {d : D} (hl : isLeaf d = true) (ok : okD d = true) {t : List Nat} (ht : Behind t) : leafOf (said d ++ t) = .ok (d, (said d).length) := by
  cases d with
  | lst ds => exact nomatch hl
  | bl b =>
    cases b
    · exact (leaf_word (w := noT) (by decide) (by decide) (by decide) ht).trans rfl
    · exact (leaf_word (w := yesT) (by decide) (by decide) (by decide) ht).trans rfl
  | wd s =>
    have ok : wdOk s = true := ok
    unfold wdOk at ok
    simp only [Bool.and_eq_true, decide_eq_true_eq] at ok
    obtain ⟨⟨⟨⟨⟨a, b⟩, c⟩, e⟩, f⟩, _⟩ := ok
    show leafOf (tl s ++ t) = .ok (.wd s, (tl s).length)
    rw [leaf_word a b c ht, if_neg e, if_neg f, mk_tl]
  | num n =>
    have ok : numOk n = true := ok
    unfold numOk at ok
    simp only [Bool.and_eq_true, decide_eq_true_eq] at ok
    obtain ⟨_, hi, _, ok⟩ := ok
    show leafOf (txtN n ++ t) = .ok (.num n, (txtN n).length)
    have key : runLen isLet 12 (txtN n ++ t) = 0 ∧ numLen (txtN n ++ t) = .ok (txtN n).length := by
      by_cases hm : (txtN n).head? = some 45
      · rw [if_pos hm] at ok
        simp only [Bool.and_eq_true, decide_eq_true_eq] at ok
        obtain ⟨⟨⟨h0, h1⟩, h2⟩, h3⟩ := ok
        cases ht' : txtN n with
        | nil => rw [ht'] at hm; exact nomatch hm
        | cons c r =>
          rw [ht'] at hm h0 h1 h2 h3
          have ec : c = 45 := by simpa using hm
          subst ec
          have h0 : r ≠ [] := h0
          have h1 : r.all isDig = true := h1
          have h2 : r.length ≤ 40 := h2
          have h3 : r.head? ≠ some 48 := h3
          refine ⟨rfl, ?_⟩
          have e := runLen_app isDig 40 r t h1 h2 ht.digits
          have hh : (r ++ t).head? ≠ some 48 := by
            cases r with
            | nil => exact absurd rfl h0
            | cons x y => simpa using h3
          have e2 : runLen isDig 40 (r ++ t) ≠ 0 := by
            rw [e]; exact fun z => h0 (List.length_eq_zero_iff.mp z)
          show (if (r ++ t).head? = some 48 then _ else if runLen isDig 40 (r ++ t) = 0 then Except.error 1 else Except.ok (1 + runLen isDig 40 (r ++ t))) = _
          rw [if_neg hh, if_neg e2, e]
          show Except.ok (1 + r.length) = Except.ok (r.length + 1)
          rw [Nat.add_comm]
      · rw [if_neg hm] at ok
        simp only [Bool.and_eq_true, Bool.or_eq_true, decide_eq_true_eq] at ok
        rcases ok with h | ⟨⟨⟨h0, h1⟩, h2⟩, h3⟩
        · rw [h]; exact ⟨rfl, rfl⟩
        · cases ht' : txtN n with
          | nil => exact absurd ht' h0
          | cons c r =>
            rw [ht'] at hm h1 h2 h3
            have hd : isDig c = true := by rw [List.all_cons, Bool.and_eq_true] at h1; exact h1.1
            have hd' : 48 ≤ c ∧ c ≤ 57 := by simpa [isDig] using hd
            have hc : isLet c = false := by
              unfold isLet
              rw [decide_eq_false (by omega : ¬ 97 ≤ c)]; rfl
            have e := runLen_app isDig 40 (c :: r) t h1 h2 ht.digits
            refine ⟨?_, ?_⟩
            · show (if isLet c = true then _ else 0) = 0
              rw [hc]; rfl
            · have a1 : ¬ ((c :: r) ++ t).head? = some 45 := by simpa using hm
              have a2 : ¬ ((c :: r) ++ t).head? = some 48 := by simpa using h3
              unfold numLen
              simp only [if_neg a1, List.drop_zero, if_neg a2, e]
              simp
    unfold leafOf
    rw [key.1, if_pos rfl, key.2]
    simp only [List.take_left, hi]
/-- a leaf's text begins neither with a bracket nor a blank -/
theorem leaf_head {d : D} (hl : isLeaf d = true) (ok : okD d = true) : ∃ c r, said d = c :: r ∧ c ≠ 40 ∧ c ≠ 41 ∧ c ≠ 32 := by
  cases d with
  | lst ds => exact nomatch hl
  | bl b => cases b <;> exact ⟨_, _, rfl, by decide, by decide, by decide⟩
  | wd s =>
    have ok : wdOk s = true := ok
    unfold wdOk at ok
    simp only [Bool.and_eq_true, decide_eq_true_eq] at ok
    obtain ⟨⟨⟨⟨⟨a, b⟩, c⟩, e⟩, f⟩, _⟩ := ok
    cases h : tl s with
    | nil => exact absurd h a
    | cons c r =>
      rw [h, List.all_cons, Bool.and_eq_true] at b
      have q : 97 ≤ c ∧ c ≤ 122 := by simpa [isLet] using b.1
      exact ⟨c, r, h, by omega, by omega, by omega⟩
  | num n =>
    have ok : numOk n = true := ok
    unfold numOk at ok
    simp only [Bool.and_eq_true, decide_eq_true_eq] at ok
    obtain ⟨_, hi, _, ok⟩ := ok
    cases h : txtN n with
    | nil => rw [h] at ok; exact nomatch ok
    | cons c r =>
      rw [h] at ok
      refine ⟨c, r, h, ?_⟩
      by_cases hm : c = 45
      · subst hm; decide
      · have a1 : ¬ (c :: r).head? = some 45 := by simpa using hm
        rw [if_neg a1] at ok
        simp only [Bool.and_eq_true, Bool.or_eq_true, decide_eq_true_eq] at ok
        rcases ok with h | ⟨⟨⟨h0, h1⟩, h2⟩, h3⟩
        · have e : c = 48 := by simpa using (List.cons.inj h).1
          subst e; decide
        · rw [List.all_cons, Bool.and_eq_true] at h1
          have q : 48 ≤ c ∧ c ≤ 57 := by simpa [isDig] using h1.1
          exact ⟨by omega, by omega, by omega⟩
theorem said_head {d : D} (ok : okD d = true) : ∃ c r, said d = c :: r ∧ c ≠ 41 ∧ c ≠ 32 := by
  cases d with
  | lst ds => exact ⟨40, _, rfl, by decide, by decide⟩
  | bl b => obtain ⟨c, r, a, _, b, e⟩ := leaf_head (d := .bl b) rfl ok; exact ⟨c, r, a, b, e⟩
  | wd s => obtain ⟨c, r, a, _, b, e⟩ := leaf_head (d := .wd s) rfl ok; exact ⟨c, r, a, b, e⟩
  | num n => obtain ⟨c, r, a, _, b, e⟩ := leaf_head (d := .num n) rfl ok; exact ⟨c, r, a, b, e⟩
/-! ### values in the heap -/
def valOf : D → V
  | .bl b => .bl b
  | .num n => .int n
  | .wd s => .str s
  | .lst _ => .non
mutual
def Rep (H : Hp) : D → V → Prop
  | .bl b, v => v = .bl b
  | .num n, v => v = .int n
  | .wd s, v => v = .str s
  | .lst ds, v => ∃ p xs, v = .ref p ∧ H p = some (.tup xs) ∧ Reps H ds xs
def Reps (H : Hp) : List D → List V → Prop
  | [], xs => xs = []
  | d :: ds, xs => ∃ x r, xs = x :: r ∧ Rep H d x ∧ Reps H ds r
end
/-- tuples stay -/
def Tups (H H' : Hp) : Prop := ∀ b xs, H b = some (.tup xs) → H' b = some (.tup xs)
theorem Tups.refl (H : Hp) : Tups H H := fun _ _ h => h
theorem Tups.trans {A B C : Hp} (h : Tups A B) (g : Tups B C) : Tups A C := fun b xs e => g b xs (h b xs e)
theorem Tups.of {H H' : Hp} (h : Same H H') : Tups H H' := fun _ _ e => h _ _ e
theorem Tups.new {H : Hp} {p : Addr} (h : H p = none) (o : HO) : Tups H (upd H p o) := fun b xs e => by rw [upd_ne (ne_of_none e h)]; exact e
theorem Tups.lst {H : Hp} {p : Addr} {ys : List V} (h : H p = some (.lst ys)) (o : HO) : Tups H (upd H p o) := fun b xs e => by
  rw [upd_ne (ne_of e h (by intro z; cases z))]; exact e
theorem same_new {H : Hp} {p : Addr} (h : H p = none) (o : HO) : Same H (upd H p o) := fun b u q => by rw [upd_ne (ne_of_none q h)]; exact q
mutual
theorem Rep.mono {H H' : Hp} (t : Tups H H') : ∀ {d : D} {v : V}, Rep H d v → Rep H' d v
  | .bl _, _, h => h
  | .num _, _, h => h
  | .wd _, _, h => h
  | .lst _, _, h => by
    obtain ⟨p, xs, e, h, r⟩ := h
    exact ⟨p, xs, e, t _ _ h, Reps.mono t r⟩
theorem Reps.mono {H H' : Hp} (t : Tups H H') : ∀ {ds : List D} {xs : List V}, Reps H ds xs → Reps H' ds xs
  | [], _, h => h
  | _ :: _, _, h => by
    obtain ⟨x, r, e, a, b⟩ := h
    exact ⟨x, r, e, Rep.mono t a, Reps.mono t b⟩
end
theorem Reps.length {H : Hp} : ∀ {ds : List D} {xs : List V}, Reps H ds xs → xs.length = ds.length
  | [], _, h => by cases h; rfl
  | _ :: _, _, h => by
    obtain ⟨x, r, rfl, a, b⟩ := h
    rw [List.length_cons, List.length_cons, Reps.length b]
theorem Reps.snoc {H : Hp} {d : D} {v : V} (q : Rep H d v) : ∀ {ds : List D} {xs : List V}, Reps H ds xs → Reps H (ds ++ [d]) (xs ++ [v])
  | [], _, h => by cases h; exact ⟨v, [], rfl, q, rfl⟩
  | _ :: _, _, h => by
    obtain ⟨x, r, rfl, a, b⟩ := h
    exact ⟨x, r ++ [v], rfl, a, Reps.snoc q b⟩
theorem Reps.get {H : Hp} : ∀ {ds : List D} {xs : List V} {i : Nat} {x : V}, Reps H ds xs → xs[i]? = some x → ∃ d, ds[i]? = some d ∧ Rep H d x
  | [], _, _, _, h, e => by cases h; simp at e
  | d :: _, _, 0, _, h, e => by
    obtain ⟨x, r, rfl, a, b⟩ := h
    cases (show some x = some _ from e); exact ⟨d, rfl, a⟩
  | _ :: _, _, i + 1, _, h, e => by
    obtain ⟨x, r, rfl, a, b⟩ := h
    exact Reps.get (i := i) b e
theorem Rep.leaf {H : Hp} {d : D} (hl : isLeaf d = true) {v : V} (h : Rep H d v) : v = valOf d := by
  cases d <;> first | exact h | exact nomatch hl
theorem Rep.ofLeaf {H : Hp} {d : D} (hl : isLeaf d = true) : Rep H d (valOf d) := by
  cases d <;> first | rfl | exact nomatch hl
end K1
namespace K1
open PySem L2
section
variable {P : Program} {w : World} {K : PySem.W.Frag} {mg : Str → Option Value} {base : Heap} {f : Addr} {fd : FuncData}
def slotI (σ : St) (i : Nat) : Int := match σ[i]? with
  | some (some (.int n)) => n
  | _ => 0
/-! ### run_end -/
abbrev sRun : Stmt := top 12
theorem scRun : FnScope ["text", "at", "most", "low", "high", "end"] ["text", "at", "most", "low", "high"] (defScope sRun) := ⟨rfl, rfl, rfl, by decide +kernel, rfl, by decide +kernel, by decide +kernel⟩
def spRun : Sp := fun vs H Q _ => ∃ (z : Str) (at_ most : Nat) (lo hi : Nat), vs = [.str z, .int at_, .int most, .str ⟨#[lo]⟩, .str ⟨#[hi]⟩] ∧ z.length ≤ sizeLine ∧
  Q (.int ((at_ + runLen (fun c => decide (lo ≤ c) && decide (c ≤ hi)) most ((tl z).drop at_) : Nat) : Int)) H
theorem ok_run (F : Fun K "run_end" "run_end" sRun f fd) (ml : mg "len" = none) : FnOk P w K mg base CX0 1 f fd ["text", "at", "most", "low", "high"] spRun := by
  refine F.ok scRun (fun vs H Q E h => ?_) (fun cdv A outer s H vs Q E hr h => ?_)
  · obtain ⟨z, a, m, lo, hi, rfl, _⟩ := h
    rfl
  obtain ⟨z, a, m, lo, hi, rfl, hz, q⟩ := h
  refine ⟨_, pss_cons (ps_set (i := 5) scRun.nd rfl (.inl rfl) (pv 1))
    (pss_cons (ps_while PassesOwn.never (PW.pt (pw_and (pt_cmpR op_lt (pv 5) (pe_callB call_len_str rfl ml PySem.boot_len (pa_cons (pv 0) pa_nil)) (nomark _))
        (pw_and (pt_cmpR op_lt (pv 5) (pe_op op_add (pv 1) (pv 2)) (nomark _))
        (pw_and1 (pt_chain op_le_str op_le_str (pv 3) (pe_item_str (pv 0) (pv 5) (fun _ _ => rfl)) (pv 4))))))
      (pss_one (ps_aug (i := 5) scRun.nd rfl (.inl rfl) pe_int ip_add)))
    (pss_one (ps_ret (pv 5)))), ?_⟩
  refine ⟨_, rfl, ?_⟩
  let p : Nat → Bool := fun c => decide (lo ≤ c) && decide (c ≤ hi)
  let W : Nat → St → Hp → Prop := fun n σ H' => ∃ k : Nat, k ≤ m ∧ n = m - k ∧ σ = [some (.str z), some (.int a), some (.int m), some (.str ⟨#[lo]⟩), some (.str ⟨#[hi]⟩), some (.int ((a + k : Nat) : Int))] ∧ H' = H ∧
      k + runLen p (m - k) ((tl z).drop (a + k)) = runLen p m ((tl z).drop a)
  refine ⟨W, ⟨m, 0, Nat.zero_le _, rfl, rfl, rfl, by simp⟩, ?_⟩
  rintro n σ H' ⟨k, hk, rfl, rfl, rfl, e⟩
  have over : runLen p (m - k) ((tl z).drop (a + k)) = 0 → Q (V.int ((a + k : Nat) : Int)) H' := fun h0 => by
    rw [h0, Nat.add_zero] at e
    rw [e]; exact q
  refine ⟨_, rfl, _, rfl, z, rfl, hz, _, _, rfl, rfl, _, rfl, ?_⟩
  refine ite2 (fun c => ?_) (fun c => ?_)
  · have c1 : ((a + k : Nat) : Int) < (z.length : Int) := of_decide_eq_true c
    have c1' : a + k < (tl z).length := by rw [← len_tl]; omega
    refine ⟨_, rfl, _, rfl, _, rfl, _, _, rfl, rfl, _, _, rfl, rfl, _, rfl, ?_⟩
    refine ite2 (fun c => ?_) (fun c => ?_)
    · have c2 : ((a + k : Nat) : Int) < (a : Int) + (m : Int) := of_decide_eq_true c
      have ek : m - k = (m - (k + 1)) + 1 := by omega
      have eg : z.cps[(((a + k : Nat) : Int)).toNat]? = some (tl z)[a + k] := by
        rw [Int.toNat_natCast, ← Array.getElem?_toList]
        exact List.getElem?_eq_getElem c1'
      have ed : (tl z).drop (a + k) = (tl z)[a + k] :: (tl z).drop (a + (k + 1)) := List.drop_eq_getElem_cons c1'
      have hl63 : z.length < 2 ^ 63 := Nat.lt_of_le_of_lt hz line63
      refine ⟨_, rfl, _, rfl, _, rfl, z, _, _, rfl, rfl, by omega, by omega, c1, eg, ?_⟩
      refine ⟨_, _, rfl, rfl, _, rfl, ?_⟩
      rw [ed, ek] at e over
      have le1 : ∀ x y : Nat, (!decide ([y] < [x])) = decide (x ≤ y) := fun x y => by
        by_cases h : x ≤ y
        · rw [decide_eq_true h, decide_eq_false (by intro z; cases z with | rel h => omega | cons h => cases h)]; rfl
        · have hlt : [y] < [x] := List.Lex.rel (by omega)
          rw [decide_eq_false h, decide_eq_true hlt]; rfl
      refine ite2 (fun c => ?_) (fun c => ?_)
      · have c3 : lo ≤ (tl z)[a + k] := of_decide_eq_true ((le1 _ _).symm.trans c)
        refine ⟨_, rfl, _, _, rfl, rfl, _, rfl, ?_⟩
        refine ite2 (fun c => ?_) (fun c => ?_)
        · have c4 : (tl z)[a + k] ≤ hi := of_decide_eq_true ((le1 _ _).symm.trans c)
          have hp : p (tl z)[a + k] = true := by
            show (decide _ && decide _) = true
            rw [decide_eq_true c3, decide_eq_true c4]; rfl
          refine ⟨fun σ' H' => ∃ m', m' < m - k ∧ W m' σ' H', fun _ _ h => h, ?_⟩
          refine ⟨_, rfl, _, _, rfl, rfl, ?_⟩
          refine ⟨m - (k + 1), by omega, k + 1, by omega, rfl, rfl, rfl, ?_⟩
          have e' : k + (if p (tl z)[a + k] = true then runLen p (m - (k + 1)) ((tl z).drop (a + (k + 1))) + 1 else 0) = runLen p m ((tl z).drop a) := e
          rw [if_pos hp] at e'
          omega
        · have c4 : ¬ (tl z)[a + k] ≤ hi := of_decide_eq_false ((le1 _ _).symm.trans (Bool.eq_false_iff.mpr c))
          refine ⟨_, rfl, over ?_⟩
          show (if p (tl z)[a + k] = true then _ else 0) = 0
          rw [if_neg]
          show ¬ (decide _ && decide _) = true
          rw [decide_eq_false c4, Bool.and_false]; exact Bool.false_ne_true
      · have c3 : ¬ lo ≤ (tl z)[a + k] := of_decide_eq_false ((le1 _ _).symm.trans (Bool.eq_false_iff.mpr c))
        refine ⟨_, rfl, iteF ?_⟩
        refine ⟨_, rfl, over ?_⟩
        show (if p (tl z)[a + k] = true then _ else 0) = 0
        rw [if_neg]
        show ¬ (decide _ && decide _) = true
        rw [decide_eq_false c3, Bool.false_and]; exact Bool.false_ne_true
    · have c2 : ¬ ((a + k : Nat) : Int) < (a : Int) + (m : Int) := of_decide_eq_false (Bool.eq_false_iff.mpr c)
      have ek : m - k = 0 := by omega
      refine iteF ⟨_, rfl, over ?_⟩
      rw [ek]; rfl
  · have c1 : ¬ ((a + k : Nat) : Int) < (z.length : Int) := of_decide_eq_false (Bool.eq_false_iff.mpr c)
    refine iteF ⟨_, rfl, over ?_⟩
    rw [List.drop_eq_nil_of_le (by rw [← len_tl]; omega)]
    cases m - k <;> rfl
/-! ### startswith a sign at a place -/
theorem sw (z : Str) (c at_ : Nat) : Txt.startswith3 z ⟨#[c]⟩ (at_ : Int) = decide (((tl z).drop at_).head? = some c) := by
  have hl : z.length = (tl z).length := len_tl z
  have ef : PySem.fromIndex z.length (at_ : Int) = at_ := by unfold PySem.fromIndex; rw [if_neg (by omega)]; omega
  have e1 : (⟨#[c]⟩ : Str).length = 1 := rfl
  unfold Txt.startswith3 Builtin.Str.subAt
  rw [ef, e1]
  by_cases h : at_ < (tl z).length
  · have ed : (tl z).drop at_ = (tl z)[at_] :: (tl z).drop (at_ + 1) := List.drop_eq_getElem_cons h
    have ex : z.cps.extract at_ (at_ + 1) = #[(tl z)[at_]] := by
      apply Array.ext'
      rw [Array.toList_extract]
      show List.extract (tl z) at_ (at_ + 1) = [(tl z)[at_]]
      rw [List.extract_eq_take_drop, ed]
      simp
    rw [ed, ex, decide_eq_true (by omega : at_ + 1 ≤ z.length), Bool.true_and]
    show (#[(tl z)[at_]] == #[c]) = decide (some (tl z)[at_] = some c)
    by_cases e : (tl z)[at_] = c
    · rw [e]; simp
    · rw [decide_eq_false (fun q => e (Option.some.inj q))]
      exact beq_eq_false_iff_ne.mpr (fun q => e (by simpa using q))
  · rw [decide_eq_false (by omega : ¬ at_ + 1 ≤ z.length), List.drop_eq_nil_of_le (by omega), Bool.false_and]; rfl
/-! ### number_end -/
abbrev sNum : Stmt := top 13
theorem scNum : FnScope ["text", "at", "start", "end"] ["text", "at"] (defScope sNum) := ⟨rfl, rfl, rfl, by decide +kernel, rfl, by decide +kernel, by decide +kernel⟩
def spNum : Sp := fun vs H Q _ => ∃ (z : Str) (at_ n : Nat), vs = [.str z, .int at_] ∧ z.length ≤ sizeLine ∧ numLen ((tl z).drop at_) = .ok n ∧ Q (.int ((at_ + n : Nat) : Int)) H
variable {g1 : Addr} {gd1 : FuncData}
theorem ok_num (F : Fun K "number_end" "number_end" sNum f fd) (G1 : FnOk P w K mg base CX0 1 g1 gd1 ["text", "at", "most", "low", "high"] spRun) (b1 : Binds K gd1 ["text", "at", "most", "low", "high"] []) (k1 : PySem.W.keepIn K (.ref g1) = true) (m1 : mg "run_end" = some (.ref g1))
    {tf : Tok} (mf : mg "FIGURES" = some (.int 40 tf)) : FnOk P w K mg base CX0 2 f fd ["text", "at"] spNum := by
  refine F.ok scNum (fun vs H Q E h => ?_) (fun cdv A outer s H vs Q E hr h => ?_)
  · obtain ⟨z, a, n, rfl, _⟩ := h
    rfl
  obtain ⟨z, a, n, rfl, hz, hn, q⟩ := h
  refine ⟨_, pss_cons (ps_set (i := 2) scNum.nd rfl (.inl rfl) (pv 1))
    (C8.pss_cut (ps_if (pt_val (pe_bm PySem.F.plainAttrs_str PySem.F.slot_str_startswith PySem.F.type_str_startswith mt_startswith3 (pv 0) (pa_cons pe_str (pa_cons (pv 1) pa_nil))))
        (pss_one (ps_set (i := 2) scNum.nd rfl (.inl rfl) (pe_op op_add (pv 1) pe_int))) pss_nil)
    (pss_cons (ps_if (pt_val (pe_bm PySem.F.plainAttrs_str PySem.F.slot_str_startswith PySem.F.type_str_startswith mt_startswith3 (pv 0) (pa_cons pe_str (pa_cons (pv 2) pa_nil))))
        (pss_cons (ps_if (pt_cmpR op_gt (pv 2) (pv 1) (nomark _)) (pss_one ps_never) pss_nil) (pss_one (ps_ret (pe_op op_add (pv 2) pe_int)))) pss_nil)
    (pss_cons (ps_set (i := 3) scNum.nd rfl (.inl rfl) (pe_call G1 hr rfl m1 k1 b1 .nil pass0 (pa_cons (pv 0) (pa_cons (pv 2) (pa_cons (pe_glob (v := .int 40) rfl mf ⟨_, rfl⟩) (pa_cons pe_str (pa_cons pe_str pa_nil)))))))
    (pss_cons (ps_if (pt_cmpR op_eq (pv 3) (pv 2) (nomark _)) (pss_one ps_never) pss_nil)
    (pss_one (ps_ret (pv 3))))))), ?_⟩
  have s45 : (Str.ofString "-") = ⟨#[45]⟩ := by decide +kernel
  have s48 : (Str.ofString "0") = ⟨#[48]⟩ := by decide +kernel
  have s57 : (Str.ofString "9") = ⟨#[57]⟩ := by decide +kernel
  rw [s45, s48, s57]
  have ex : ∃ s : Nat, s = if ((tl z).drop a).head? = some 45 then 1 else 0 := ⟨_, rfl⟩
  obtain ⟨st, hst⟩ := ex
  have hn' : (if (((tl z).drop a).drop st).head? = some 48 then (if 0 < st then Except.error st else .ok (st + 1))
    else if runLen isDig 40 (((tl z).drop a).drop st) = 0 then .error st else .ok (st + runLen isDig 40 (((tl z).drop a).drop st))) = .ok n := by
    rw [hst]; exact hn
  rw [List.drop_drop] at hn'
  refine ⟨_, rfl, ?_⟩
  refine ⟨fun σ H' => H' = H ∧ σ = [some (.str z), some (.int a), some (.int ((a + st : Nat) : Int)), none], ?_, ?_⟩
  · refine ⟨_, rfl, rfl, _, rfl, z, _, (a : Int), rfl, rfl, _, rfl, ?_⟩
    rw [sw]
    refine ite2 (fun c => ?_) (fun c => ?_)
    · have c := of_decide_eq_true c
      rw [if_pos c] at hst
      refine ⟨_, rfl, _, _, rfl, rfl, rfl, ?_⟩
      rw [hst]; rfl
    · have c := of_decide_eq_false (Bool.eq_false_iff.mpr c)
      rw [if_neg c] at hst
      refine ⟨rfl, ?_⟩
      rw [hst]; rfl
  rintro σ H' ⟨rfl, rfl⟩
  refine ⟨_, rfl, rfl, _, rfl, z, _, ((a + st : Nat) : Int), rfl, rfl, _, rfl, ?_⟩
  rw [sw]
  refine ite2 (fun c => ?_) (fun c => ?_)
  · have c := of_decide_eq_true c
    rw [if_pos c] at hn'
    refine ⟨_, rfl, _, rfl, _, _, rfl, rfl, _, rfl, ?_⟩
    refine ite2 (fun c' => ?_) (fun c' => ?_)
    · have c' := of_decide_eq_true c'
      rw [if_pos (by omega)] at hn'
      exact nomatch hn'
    · have c' := of_decide_eq_false (Bool.eq_false_iff.mpr c')
      rw [if_neg (by omega)] at hn'
      cases hn'
      exact ⟨_, rfl, _, _, rfl, rfl, q⟩
  · have c := of_decide_eq_false (Bool.eq_false_iff.mpr c)
    rw [if_neg c] at hn'
    refine ⟨_, rfl, _, rfl, z, a + st, 40, 48, 57, rfl, hz, ?_⟩
    refine ⟨_, rfl, _, rfl, rfl, _, rfl, ?_⟩
    have hd : (fun c => decide (48 ≤ c) && decide (c ≤ 57)) = isDig := rfl
    rw [hd]
    refine ite2 (fun c' => ?_) (fun c' => ?_)
    · have c' := V.int.inj (of_decide_eq_true c')
      rw [if_pos (by omega)] at hn'
      exact nomatch hn'
    · have c' := of_decide_eq_false (Bool.eq_false_iff.mpr c')
      have c'' : ¬ runLen isDig 40 ((tl z).drop (a + st)) = 0 := fun z0 => c' (by rw [z0]; rfl)
      rw [if_neg c''] at hn'
      cases hn'
      refine ⟨_, rfl, ?_⟩
      rw [← Nat.add_assoc] at q
      exact q
end
end K1
namespace K1
open PySem L2
theorem numLen_le {l : List Nat} {n : Nat} (h : numLen l = .ok n) : n ≤ l.length ∧ n ≤ 41 := by
  unfold numLen at h
  by_cases h1 : l.head? = some 45
  · simp only [if_pos h1] at h
    have hl : 1 ≤ l.length := by cases l with
      | nil => exact nomatch h1
      | cons _ _ => simp
    split at h
    · cases h
    · split at h
      · cases h
      · cases h
        have a := runLen_len isDig 40 (l.drop 1)
        have b := runLen_le isDig 40 (l.drop 1)
        rw [List.length_drop] at a
        omega
  · simp only [if_neg h1, List.drop_zero] at h
    split at h
    · rename_i h2
      have hl : 1 ≤ l.length := by cases l with
        | nil => exact nomatch h2
        | cons _ _ => simp
      cases h
      omega
    · split at h
      · cases h
      · cases h
        have a := runLen_len isDig 40 l
        have b := runLen_le isDig 40 l
        omega
theorem cut_at {z : Str} {a n : Nat} (ha : a ≤ (tl z).length) : cutS z (some (a : Int)) (some ((a + n : Nat) : Int)) = mk (((tl z).drop a).take n) := by
  unfold cutS mk
  rw [HT.sIx_nat, HT.sIx_nat, len_tl z]
  congr 2
  rw [Nat.min_eq_left ha]
  apply List.take_eq_take_iff.mpr
  rw [List.length_drop]
  have key : ∀ L : Nat, a ≤ L → min (min (a + n) L - a) (L - a) = min n (L - a) := fun L h => by omega
  exact key _ ha
theorem mk_inj {a b : List Nat} (h : mk a = mk b) : a = b := by
  have := congrArg tl h
  exact this
section
variable {P : Program} {w : World} {K : PySem.W.Frag} {mg : Str → Option Value} {base : Heap} {f : Addr} {fd : FuncData}
abbrev sLeaf : Stmt := top 14
theorem scLeaf : FnScope ["text", "at", "end", "word"] ["text", "at"] (defScope sLeaf) := ⟨rfl, rfl, rfl, by decide +kernel, rfl, by decide +kernel, by decide +kernel⟩
def spLeaf : Sp := fun vs H Q _ => ∃ (z : Str) (at_ n : Nat) (d : D), vs = [.str z, .int at_] ∧ z.length ≤ sizeLine ∧ at_ ≤ z.length ∧ leafOf ((tl z).drop at_) = .ok (d, n) ∧
  ∀ p, H p = none → Q (.ref p) (upd H p (.tup [valOf d, .int ((at_ + n : Nat) : Int)]))
variable {g1 g2 : Addr} {gd1 gd2 : FuncData}
theorem ok_leaf (F : Fun K "read_leaf" "read_leaf" sLeaf f fd) (G1 : FnOk P w K mg base CX0 1 g1 gd1 ["text", "at", "most", "low", "high"] spRun) (b1 : Binds K gd1 ["text", "at", "most", "low", "high"] []) (k1 : PySem.W.keepIn K (.ref g1) = true) (m1 : mg "run_end" = some (.ref g1))
    (G2 : FnOk P w K mg base CX0 2 g2 gd2 ["text", "at"] spNum) (b2 : Binds K gd2 ["text", "at"] []) (k2 : PySem.W.keepIn K (.ref g2) = true) (m2 : mg "number_end" = some (.ref g2))
    {tf : Tok} (mf : mg "LETTERS" = some (.int 12 tf)) (mi : mg "int" = none) : FnOk P w K mg base CX0 3 f fd ["text", "at"] spLeaf := by
  refine F.ok scLeaf (fun vs H Q E h => ?_) (fun cdv A outer s H vs Q E hr h => ?_)
  · obtain ⟨z, a, n, d, rfl, _⟩ := h
    rfl
  obtain ⟨z, a, n, d, rfl, hz, ha, hn, q⟩ := h
  refine ⟨_, pss_cons (ps_set (i := 2) scLeaf.nd rfl (.inl rfl) (pe_call G1 (hr.mono (by decide)) rfl m1 k1 b1 .nil pass0 (pa_cons (pv 0) (pa_cons (pv 1) (pa_cons (pe_glob (v := .int 12) rfl mf ⟨_, rfl⟩) (pa_cons pe_str (pa_cons pe_str pa_nil)))))))
    (pss_cons (ps_if (pt_cmpR op_eq (pv 2) (pv 1) (nomark _))
      (pss_cons (ps_set (i := 2) scLeaf.nd rfl (.inl rfl) (pe_call G2 hr rfl m2 k2 b2 .nil pass0 (pa_cons (pv 0) (pa_cons (pv 1) pa_nil))))
        (pss_one (ps_ret (pe_tup (pa_cons (pe_callTy call_int_str (by rfl) mi (by decide +kernel) (pa_cons (pe_slice sl_str (pv 0) (po_some (pv 1)) (po_some (pv 2))) pa_nil)) (pa_cons (pv 2) pa_nil)))))) pss_nil)
    (pss_cons (ps_set (i := 3) scLeaf.nd rfl (.inl rfl) (pe_slice sl_str (pv 0) (po_some (pv 1)) (po_some (pv 2))))
    (pss_cons (ps_if (PW.pt (pw_or (pt_cmpR op_eq (pv 3) pe_str (nomark _)) (pw_or1 (pt_cmpR op_eq (pv 3) pe_str (nomark _)))))
      (pss_one (ps_ret (pe_tup (pa_cons (pe_cmpR op_eq (pv 3) pe_str (nomark _)) (pa_cons (pv 2) pa_nil))))) pss_nil)
    (pss_one (ps_ret (pe_tup (pa_cons (pv 3) (pa_cons (pv 2) pa_nil)))))))), ?_⟩
  have sa : (Str.ofString "a") = ⟨#[97]⟩ := by decide +kernel
  have sz : (Str.ofString "z") = ⟨#[122]⟩ := by decide +kernel
  have sy : (Str.ofString "yes") = mk yesT := by decide +kernel
  have sn : (Str.ofString "no") = mk noT := by decide +kernel
  rw [sa, sz, sy, sn]
  have ha' : a ≤ (tl z).length := by rw [← len_tl]; exact ha
  unfold leafOf at hn
  refine ⟨_, rfl, _, rfl, z, a, 12, 97, 122, rfl, hz, ?_⟩
  have hd : (fun c => decide (97 ≤ c) && decide (c ≤ 122)) = isLet := rfl
  rw [hd]
  refine ⟨_, rfl, _, rfl, rfl, _, rfl, ?_⟩
  refine ite2 (fun c => ?_) (fun c => ?_)
  · have c0 : runLen isLet 12 ((tl z).drop a) = 0 := by have := V.int.inj (of_decide_eq_true c); omega
    rw [if_pos c0] at hn
    split at hn
    · cases hn
    · rename_i m hm
      split at hn
      · cases hn
      · rename_i i hi
        cases hn
        refine ⟨_, rfl, _, rfl, z, a, n, rfl, hz, hm, ?_⟩
        refine ⟨_, rfl, _, rfl, _, rfl, _, rfl, _, rfl, z, rfl, hz, ?_⟩
        have hl := numLen_le hm
        refine ⟨_, i, rfl, (by rw [cut_at ha']; exact hi), (by rw [cut_at ha', len_mk, List.length_take]; omega), ?_⟩
        exact ⟨_, rfl, (by show 2 ≤ sizeLine; decide), fun p hp => q p hp⟩
  · have c0 : ¬ runLen isLet 12 ((tl z).drop a) = 0 := fun z0 => of_decide_eq_false (Bool.eq_false_iff.mpr c) (by rw [z0]; rfl)
    rw [if_neg c0] at hn
    refine ⟨_, rfl, _, rfl, _, rfl, _, rfl, _, rfl, z, rfl, hz, ?_⟩
    rw [cut_at ha']
    have hle := runLen_len isLet 12 ((tl z).drop a)
    refine ⟨_, rfl, rfl, _, rfl, ?_⟩
    by_cases h1 : ((tl z).drop a).take (runLen isLet 12 ((tl z).drop a)) = yesT
    · have hr3 : runLen isLet 12 ((tl z).drop a) = 3 := by
        have := congrArg List.length h1
        rw [List.length_take] at this
        have e3 : yesT.length = 3 := rfl
        rw [e3] at this
        omega
      rw [if_pos h1] at hn
      cases hn
      rw [h1, decide_eq_true rfl]
      refine iteT (iteT ?_)
      refine ⟨_, rfl, rfl, _, rfl, (by show 2 ≤ sizeLine; decide), fun p hp => ?_⟩
      have q' := q p hp
      rw [hr3]
      exact q'
    · rw [if_neg h1] at hn
      rw [decide_eq_false (fun e => h1 (mk_inj (V.str.inj e)))]
      refine iteF ⟨_, rfl, rfl, _, rfl, ?_⟩
      by_cases h2 : ((tl z).drop a).take (runLen isLet 12 ((tl z).drop a)) = noT
      · have hr2 : runLen isLet 12 ((tl z).drop a) = 2 := by
          have := congrArg List.length h2
          rw [List.length_take] at this
          have e3 : noT.length = 2 := rfl
          rw [e3] at this
          omega
        rw [if_pos h2] at hn
        cases hn
        rw [h2, decide_eq_true rfl]
        refine iteT ?_
        refine ⟨_, rfl, rfl, _, rfl, (by show 2 ≤ sizeLine; decide), fun p hp => ?_⟩
        have q' := q p hp
        rw [hr2]
        exact q'
      · rw [if_neg h2] at hn
        cases hn
        rw [decide_eq_false (fun e => h2 (mk_inj (V.str.inj e)))]
        refine iteF ?_
        exact ⟨_, rfl, _, rfl, (by show 2 ≤ sizeLine; decide), fun p hp => q p hp⟩
end
end K1
namespace K1
open PySem L2
/-! ### what waits while a text is read: of each open list what is done and what is to come, the innermost first -/
abbrev Frm := List D × List D
def tailT : List Frm → List Nat
  | [] => []
  | fr :: fs => sr fr.2 ++ 41 :: tailT fs
def plug : List Frm → D → D
  | [], e => e
  | fr :: fs, e => plug fs (.lst (fr.1 ++ e :: fr.2))
def Stk (H0 H : Hp) (a : Nat) : List Addr → List Frm → Prop
  | [], [] => True
  | r :: rs, fr :: fs => (∃ xs, H r = some (.lst xs) ∧ Reps H fr.1 xs) ∧ fr.1.length ≤ a ∧ okL fr.2 = true ∧ H0 r = none ∧ r ∉ rs ∧ Stk H0 H a rs fs
  | _, _ => False
theorem Stk.mono {H0 H H' : Hp} {a a' : Nat} (t : Tups H H') (ha : a ≤ a') : ∀ {rs : List Addr} {fs : List Frm}, (∀ r ∈ rs, H' r = H r) → Stk H0 H a rs fs → Stk H0 H' a' rs fs
  | [], [], _, h => h
  | r :: rs, fr :: fs, k, h => by
    obtain ⟨⟨xs, e, q⟩, l, o, n, d, s⟩ := h
    exact ⟨⟨xs, by rw [k r (by simp)]; exact e, q.mono t⟩, by omega, o, n, d, Stk.mono t ha (fun r' h' => k r' (by simp [h'])) s⟩
  | [], _ :: _, _, h => h
  | _ :: _, [], _, h => h
theorem Stk.lst {H0 H : Hp} {a : Nat} : ∀ {rs : List Addr} {fs : List Frm}, Stk H0 H a rs fs → ∀ r ∈ rs, ∃ xs, H r = some (.lst xs)
  | [], [], _, _, h => nomatch h
  | r :: rs, fr :: fs, h, r', h' => by
    obtain ⟨⟨xs, e, q⟩, l, o, n, d, s⟩ := h
    rcases List.mem_cons.mp h' with rfl | h'
    · exact ⟨xs, e⟩
    · exact Stk.lst s r' h'
  | [], _ :: _, h, _, _ => h.elim
  | _ :: _, [], h, _, _ => h.elim
theorem same_upd {H H' : Hp} (s : Same H H') {p : Addr} (h : H p = none) (o : HO) : Same H (upd H' p o) := fun b u q => by
  rw [upd_ne (ne_of_none q h)]; exact s b u q
theorem behind_tail : ∀ fs : List Frm, Behind (tailT fs)
  | [] => fun c r e => nomatch e
  | fr :: fs => fun c r e => by
    obtain ⟨dn, todo⟩ := fr
    cases todo with
    | nil =>
      have e : 41 :: tailT fs = c :: r := e
      exact .inr (List.cons.inj e).1.symm
    | cons d ds =>
      have e : 32 :: (said d ++ sr ds) ++ 41 :: tailT fs = c :: r := e
      exact .inl (List.cons.inj e).1.symm
section
variable {P : Program} {w : World} {K : PySem.W.Frag} {mg : Str → Option Value} {base : Heap} {f : Addr} {fd : FuncData}
abbrev sParts : Stmt := top 15
theorem scParts : FnScope ["text", "around", "at", "datum"] ["text"] (defScope sParts) := ⟨rfl, rfl, rfl, by decide +kernel, rfl, by decide +kernel, by decide +kernel⟩
def spParts : Sp := fun vs H Q _ => ∃ (z : Str) (d : D), vs = [.str z] ∧ z.length ≤ sizeLine ∧ tl z = said d ∧ okD d = true ∧
  ∀ p v H', Same H H' → Rep H' d v → H' p = some (.tup [v, .int z.length]) → Q (.ref p) H'
/-- about to read e -/
def WB (z : Str) (d : D) (H : Hp) (n : Nat) (σ : St) (H' : Hp) : Prop := ∃ (fs : List Frm) (e : D) (rs : List Addr) (L : Addr) (a : Nat) (dv : Option V),
  n = z.length - a ∧ a ≤ z.length ∧ σ = [some (.str z), some (.ref L), some (.int (a : Int)), dv] ∧ H' L = some (.lst (rs.reverse.map V.ref)) ∧ H L = none ∧ L ∉ rs ∧ rs.length ≤ a ∧ Stk H H' a rs fs ∧
  okD e = true ∧ (tl z).drop a = said e ++ tailT fs ∧ plug fs e = d ∧ Same H H'
/-- behind a datum, within a list -/
def WM (z : Str) (d : D) (H : Hp) (n : Nat) (σ : St) (H' : Hp) : Prop := ∃ (fs : List Frm) (dn todo : List D) (r : Addr) (rs : List Addr) (L : Addr) (a : Nat) (dv : Option V),
  n = z.length - a ∧ a ≤ z.length ∧ σ = [some (.str z), some (.ref L), some (.int (a : Int)), dv] ∧ H' L = some (.lst ((r :: rs).reverse.map V.ref)) ∧ H L = none ∧ L ∉ (r :: rs) ∧ (r :: rs).length ≤ a ∧ Stk H H' a (r :: rs) ((dn, todo) :: fs) ∧
  (tl z).drop a = sr todo ++ 41 :: tailT fs ∧ plug fs (.lst (dn ++ todo)) = d ∧ Same H H'
theorem rev_refs (r : Addr) (rs : List Addr) : ((r :: rs).reverse.map V.ref) = rs.reverse.map V.ref ++ [V.ref r] := by simp
/-- within a list, another datum to come -/
def WS (z : Str) (d : D) (H : Hp) (n : Nat) (σ : St) (H' : Hp) : Prop := ∃ (fs : List Frm) (dn : List D) (e : D) (todo : List D) (r : Addr) (rs : List Addr) (L : Addr) (a : Nat) (dv : Option V),
  n = z.length - a ∧ a ≤ z.length ∧ σ = [some (.str z), some (.ref L), some (.int (a : Int)), dv] ∧ H' L = some (.lst ((r :: rs).reverse.map V.ref)) ∧ H L = none ∧ L ∉ (r :: rs) ∧ (r :: rs).length ≤ a ∧ Stk H H' a (r :: rs) ((dn, e :: todo) :: fs) ∧
  (tl z).drop a = sr (e :: todo) ++ 41 :: tailT fs ∧ plug fs (.lst (dn ++ e :: todo)) = d ∧ Same H H'
/-- a datum is put to the innermost open list -/
theorem WM.put {z : Str} {d : D} {H H' : Hp} {fr : Frm} {fs : List Frm} {e : D} {v : V} {r : Addr} {rs : List Addr} {L : Addr} {a a' : Nat} {xs : List V} (ha : a < a') (hz : a' ≤ z.length)
    (hL : H' L = some (.lst ((r :: rs).reverse.map V.ref))) (h0 : H L = none) (hn : L ∉ r :: rs) (hl : (r :: rs).length ≤ a') (st : Stk H H' a (r :: rs) (fr :: fs)) (hr : H' r = some (.lst xs))
    (ht : (tl z).drop a' = tailT (fr :: fs)) (hp : plug (fr :: fs) e = d) (sm : Same H H') (rv : Rep H' e v) :
    WM z d H (z.length - a') [some (.str z), some (.ref L), some (.int (a' : Int)), some v] (upd H' r (.lst (xs ++ [v]))) := by
  obtain ⟨⟨ys, e1, q⟩, l, o, n, dd, s⟩ := st
  rw [hr] at e1
  cases e1
  have tt : Tups H' (upd H' r (.lst (xs ++ [v]))) := Tups.lst hr _
  refine ⟨fs, fr.1 ++ [e], fr.2, r, rs, L, a', some v, rfl, hz, rfl, ?_, h0, hn, hl, ⟨⟨xs ++ [v], upd_same, Reps.snoc (rv.mono tt) (q.mono tt)⟩, ?_, o, n, dd, ?_⟩, ht, ?_, same_upd sm n _⟩
  · rw [upd_ne (fun z => hn (by simp [z]))]; exact hL
  · show (fr.1 ++ [e]).length ≤ a'
    rw [List.length_append]
    show fr.1.length + 1 ≤ a'
    omega
  · exact Stk.mono tt (by omega) (fun r' h' => upd_ne (fun z => dd (z ▸ h'))) s
  · rw [List.append_assoc]; exact hp
variable {g1 : Addr} {gd1 : FuncData}
set_option maxHeartbeats 8000000 in
theorem ok_parts (F : Fun K "read_parts" "read_parts" sParts f fd) (G1 : FnOk P w K mg base CX0 3 g1 gd1 ["text", "at"] spLeaf) (b1 : Binds K gd1 ["text", "at"] []) (k1 : PySem.W.keepIn K (.ref g1) = true) (m1 : mg "read_leaf" = some (.ref g1))
    (mt : mg "tuple" = none) : FnOk P w K mg base CX0 4 f fd ["text"] spParts := by
  refine F.ok scParts (fun vs H Q E h => ?_) (fun cdv A outer s H vs Q E hr h => ?_)
  · obtain ⟨z, d, rfl, _⟩ := h
    rfl
  obtain ⟨z, d, rfl, hz, hd, hok, q⟩ := h
  refine ⟨_, pss_cons (ps_set (i := 1) scParts.nd rfl (.inl rfl) (pe_lst pa_nil))
    (pss_cons (ps_set (i := 2) scParts.nd rfl (.inl rfl) pe_int)
    (pss_one (ps_while PassesOwn.never (pt_val pe_bl)
      (C8.pss_cut (ps_if (pt_val (pe_bm PySem.F.plainAttrs_str PySem.F.slot_str_startswith PySem.F.type_str_startswith mt_startswith3 (pv 0) (pa_cons pe_str (pa_cons (pv 2) pa_nil))))
          (pss_cons (ps_expr (pe_bm PySem.F.plainAttrs_list PySem.F.slot_list_append PySem.F.type_list_append mt_append (pv 1) (pa_cons (pe_lst pa_nil) pa_nil)))
            (pss_cons (ps_aug (i := 2) scParts.nd rfl (.inl rfl) pe_int ip_add)
            (pss_one (ps_if (pt_not (pt_val (pe_bm PySem.F.plainAttrs_str PySem.F.slot_str_startswith PySem.F.type_str_startswith mt_startswith3 (pv 0) (pa_cons pe_str (pa_cons (pv 2) pa_nil))))) (pss_one ps_continue) pss_nil))))
          (pss_cons (ps_asg (pe_call G1 hr rfl m1 k1 b1 .nil pass0 (pa_cons (pv 0) (pa_cons (pv 2) pa_nil))) (pg_tup (by rfl) (pgs_cons (pg_name (i := 3) scParts.nd rfl (.inl rfl)) (pgs_cons (pg_name (i := 2) scParts.nd rfl (.inl rfl)) pgs_nil))))
            (pss_cons (ps_if (pt_not (pt_truth (pv 1) (by intro _; rfl))) (pss_one (ps_ret (pe_tup (pa_cons (pv 3) (pa_cons (pv 2) pa_nil))))) pss_nil)
            (pss_one (ps_expr (pe_bm PySem.F.plainAttrs_list PySem.F.slot_list_append PySem.F.type_list_append mt_append (pe_ix ix_list (pv 1) (pe_un un_neg pe_int) (fun _ _ => rfl)) (pa_cons (pv 3) pa_nil)))))))
        (C8.pss_cut (ps_while PassesOwn.never (pt_val (pe_bm PySem.F.plainAttrs_str PySem.F.slot_str_startswith PySem.F.type_str_startswith mt_startswith3 (pv 0) (pa_cons pe_str (pa_cons (pv 2) pa_nil))))
            (pss_cons (ps_set (i := 3) scParts.nd rfl (.inl rfl) (pe_callTy call_tuple_of rfl mt (by decide +kernel) (pa_cons (pe_bm0 PySem.F.plainAttrs_list PySem.F.slot_list_pop PySem.F.type_list_pop mt_pop (pv 1)) pa_nil)))
            (pss_cons (ps_aug (i := 2) scParts.nd rfl (.inl rfl) pe_int ip_add)
            (pss_cons (ps_if (pt_not (pt_truth (pv 1) (by intro _; rfl))) (pss_one (ps_ret (pe_tup (pa_cons (pv 3) (pa_cons (pv 2) pa_nil))))) pss_nil)
            (pss_one (ps_expr (pe_bm PySem.F.plainAttrs_list PySem.F.slot_list_append PySem.F.type_list_append mt_append (pe_ix ix_list (pv 1) (pe_un un_neg pe_int) (fun _ _ => rfl)) (pa_cons (pv 3) pa_nil))))))))
          (pss_cons (ps_if (pt_not (pt_val (pe_bm PySem.F.plainAttrs_str PySem.F.slot_str_startswith PySem.F.type_str_startswith mt_startswith3 (pv 0) (pa_cons pe_str (pa_cons (pv 2) pa_nil))))) (pss_one ps_never) pss_nil)
            (pss_one (ps_aug (i := 2) scParts.nd rfl (.inl rfl) pe_int ip_add)))))))), ?_⟩
  have s40 : (Str.ofString "(") = ⟨#[40]⟩ := by decide +kernel
  have s41 : (Str.ofString ")") = ⟨#[41]⟩ := by decide +kernel
  have s32 : (Str.ofString " ") = ⟨#[32]⟩ := by decide +kernel
  rw [s40, s41, s32]
  have hd0 : (tl z).length = z.length := (len_tl z).symm
  refine ⟨(by show 0 ≤ sizeLine; decide), fun L hL => ?_⟩
  refine ⟨WB z d H, ⟨z.length, [], d, [], L, 0, none, rfl, Nat.zero_le _, rfl, upd_same, hL, by simp, Nat.le_refl _, trivial, hok, by simp [tailT, hd], rfl, same_new hL _⟩, ?_⟩
  rintro n σ H' ⟨fs, e, rs, L, a, dv, rfl, ha, rfl, hLl, hL0, hLn, hrl, stk, oke, htx, hpl, sm⟩
  refine ⟨_, rfl, iteT ?_⟩
  refine ⟨fun σ' H' => ∃ m', m' < z.length - a ∧ WB z d H m' σ' H', fun _ _ h => h, ?_⟩
  have hlen : (said e).length + (tailT fs).length = z.length - a := by
    have := congrArg List.length htx
    rw [List.length_drop, List.length_append, hd0] at this
    exact this.symm
  refine ⟨fun σ' H' => ∃ m', m' < z.length - a ∧ WM z d H m' σ' H', ?_, ?_⟩
  · refine ⟨_, rfl, rfl, _, rfl, z, _, (a : Int), rfl, rfl, _, rfl, ?_⟩
    rw [sw, htx]
    by_cases hlf : isLeaf e = true
    · obtain ⟨c, r0, hc, c40, c41, c32⟩ := leaf_head hlf oke
      have hne : ¬ ((said e ++ tailT fs).head? = some 40) := by rw [hc]; intro h; exact c40 (by simpa using h)
      rw [decide_eq_false hne]
      refine iteF ?_
      have hlo : leafOf ((tl z).drop a) = .ok (e, (said e).length) := by rw [htx]; exact leaf_ok hlf oke (behind_tail fs)
      have hpos : 0 < (said e).length := by rw [hc]; simp
      refine ⟨_, rfl, _, rfl, z, a, _, e, rfl, hz, ha, hlo, fun p hp => ?_⟩
      refine ⟨p, _, rfl, SqT.of upd_same, rfl, _, _, rfl, _, _, rfl, rfl, ?_⟩
      have hL1 : upd H' p (.tup [valOf e, .int ((a + (said e).length : Nat) : Int)]) L = some (.lst (rs.reverse.map V.ref)) := by rw [upd_ne (ne_of_none hLl hp)]; exact hLl
      have hdrop : (tl z).drop (a + (said e).length) = tailT fs := by rw [← List.drop_drop, htx, List.drop_left]
      have hle : a + (said e).length ≤ z.length := by omega
      have tp : Tups H' (upd H' p (.tup [valOf e, .int ((a + (said e).length : Nat) : Int)])) := Tups.new hp _
      have sp : Same H (upd H' p (.tup [valOf e, .int ((a + (said e).length : Nat) : Int)])) := sm.trans (same_new hp _)
      refine ⟨_, rfl, _, .inl ⟨_, SqL.of hL1, rfl⟩, ?_⟩
      cases rs with
      | nil =>
        cases fs with
        | cons _ _ => exact stk.elim
        | nil =>
          refine iteT ?_
          refine ⟨_, rfl, _, rfl, (by show 2 ≤ sizeLine; decide), fun p2 hp2 => ?_⟩
          have e1 : a + (said e).length = z.length := by
            have e2 : (tailT []).length = 0 := rfl
            omega
          cases hpl
          refine q p2 (valOf e) _ (sp.trans (same_new hp2 _)) (Rep.ofLeaf hlf) ?_
          rw [upd_same, e1]
          all_goals rfl
      | cons r rs =>
        cases fs with
        | nil => exact stk.elim
        | cons fr fs =>
          have stk1 : Stk H (upd H' p (.tup [valOf e, .int ((a + (said e).length : Nat) : Int)])) a (r :: rs) (fr :: fs) := stk.mono tp (Nat.le_refl _) (fun r' h' => by
            obtain ⟨xs, hx⟩ := stk.lst r' h'
            exact upd_ne (ne_of_none hx hp))
          have stk2 := stk1
          obtain ⟨⟨xs, hxr, hrp⟩, hfl, _⟩ := stk2
          have e0 : (!(!(List.map V.ref (r :: rs).reverse).isEmpty)) = false := by rw [rev_refs]; simp
          rw [e0]
          refine iteF ?_
          refine ⟨_, rfl, _, rfl, L, _, _, .ref r, rfl, rfl, SqL.of hL1, (by rw [rev_refs]; exact atI_last _ _), ?_⟩
          refine ⟨.inl ⟨rfl, _, SqL.of hxr⟩, _, rfl, r, xs, _, rfl, rfl, hxr, ?_, ?_⟩
          · rw [hrp.length]; omega
          · exact ⟨_, by omega, WM.put (by omega) hle hL1 hL0 hLn (by omega) stk1 hxr hdrop hpl sp (Rep.ofLeaf hlf)⟩
    · cases e with
      | bl b => exact absurd rfl hlf
      | num b => exact absurd rfl hlf
      | wd b => exact absurd rfl hlf
      | lst ds =>
        refine iteT ?_
        refine ⟨_, rfl, .inl ⟨rfl, _, SqL.of hLl⟩, (by show 0 ≤ sizeLine; decide), fun r hr0 => ?_⟩
        have hrL : L ≠ r := ne_of_none hLl hr0
        have hpos : 1 ≤ z.length - a := by
          have e2 : (said (.lst ds)).length = (sl ds ++ [41]).length + 1 := rfl
          omega
        refine ⟨L, _, _, rfl, rfl, (upd_ne hrL).trans hLl, (by rw [List.length_map, List.length_reverse]; omega), ?_⟩
        refine ⟨_, rfl, _, _, rfl, rfl, ?_⟩
        refine ⟨_, rfl, rfl, _, rfl, z, _, ((a + 1 : Nat) : Int), rfl, rfl, _, rfl, ?_⟩
        have hdrop : (tl z).drop (a + 1) = (sl ds ++ [41]) ++ tailT fs := by rw [← List.drop_drop, htx]; rfl
        rw [sw, hdrop]
        have hLr : (upd (upd H' r (.lst [])) L (.lst (List.map V.ref rs.reverse ++ [V.ref r]))) L = some (.lst ((r :: rs).reverse.map V.ref)) := by rw [upd_same, rev_refs]
        have hrr : (upd (upd H' r (.lst [])) L (.lst (List.map V.ref rs.reverse ++ [V.ref r]))) r = some (.lst []) := by rw [upd_ne (Ne.symm hrL), upd_same]
        have tp : Tups H' (upd (upd H' r (.lst [])) L (.lst (List.map V.ref rs.reverse ++ [V.ref r]))) := (Tups.new hr0 _).trans (Tups.lst ((upd_ne hrL).trans hLl) _)
        have h0r : H r = none := sm.free hr0
        have sp : Same H (upd (upd H' r (.lst [])) L (.lst (List.map V.ref rs.reverse ++ [V.ref r]))) := same_upd (same_upd sm h0r _) hL0 _
        have hnr : r ∉ rs := fun hm => by
          obtain ⟨xs, hx⟩ := stk.lst r hm
          rw [hr0] at hx; exact nomatch hx
        have hLn' : L ∉ r :: rs := fun hm => by
          rcases List.mem_cons.mp hm with h | h
          · exact hrL h
          · exact hLn h
        have stk1 : Stk H (upd (upd H' r (.lst [])) L (.lst (List.map V.ref rs.reverse ++ [V.ref r]))) (a + 1) rs fs := stk.mono tp (by omega) (fun r' h' => by
          obtain ⟨xs, hx⟩ := stk.lst r' h'
          have hne : r' ≠ L := fun z => hLn (by rw [← z]; exact h')
          rw [upd_ne hne, upd_ne (ne_of_none hx hr0)])
        have hok' : okL ds = true := oke
        cases ds with
        | nil =>
          refine iteF ?_
          exact ⟨z.length - (a + 1), by omega, fs, [], [], r, rs, L, a + 1, _, rfl, by omega, rfl, hLr, hL0, hLn', by simp; omega, ⟨⟨[], hrr, rfl⟩, Nat.zero_le _, rfl, h0r, hnr, stk1⟩, hdrop, hpl, sp⟩
        | cons e1 r1 =>
          have hok1 : okD e1 = true ∧ okL r1 = true := by
            have : (okD e1 && okL r1) = true := hok'
            rwa [Bool.and_eq_true] at this
          obtain ⟨c, r0, hc, c41, c32⟩ := said_head hok1.1
          have hne : ¬ (((sl (e1 :: r1) ++ [41]) ++ tailT fs).head? = some 41) := by
            show ¬ ((((said e1 ++ sr r1) ++ [41]) ++ tailT fs).head? = some 41)
            rw [hc]; intro h; exact c41 (by simpa using h)
          rw [decide_eq_false hne]
          refine iteT ?_
          refine ⟨z.length - (a + 1), by omega, ([], r1) :: fs, e1, r :: rs, L, a + 1, _, rfl, by omega, rfl, hLr, hL0, hLn', by simp; omega, ⟨⟨[], hrr, rfl⟩, Nat.zero_le _, hok1.2, h0r, hnr, stk1⟩, hok1.1, ?_, hpl, sp⟩
          rw [hdrop]
          show ((said e1 ++ sr r1) ++ [41]) ++ tailT fs = said e1 ++ (sr r1 ++ 41 :: tailT fs)
          simp
  · rintro σ1 H1 ⟨n1, hn1, hWM⟩
    refine ⟨fun σ' H' => ∃ m', m' < z.length - a ∧ WS z d H m' σ' H', ?_, ?_⟩
    · refine ⟨fun m σ' H' => m < z.length - a ∧ WM z d H m σ' H', ⟨n1, hn1, hWM⟩, ?_⟩
      rintro n2 σ2 H2 ⟨hn2, fs, dn, todo, r, rs, L, a2, dv, rfl, ha2, rfl, hLl, hL0, hLn, hrl, stk, htx2, hpl, sm⟩
      refine ⟨_, rfl, rfl, _, rfl, z, _, (a2 : Int), rfl, rfl, _, rfl, ?_⟩
      rw [sw, htx2]
      cases todo with
      | cons e todo =>
        refine iteF ?_
        exact ⟨_, hn2, fs, dn, e, todo, r, rs, L, a2, dv, rfl, ha2, rfl, hLl, hL0, hLn, hrl, stk, htx2, hpl, sm⟩
      | nil =>
        refine iteT ?_
        refine ⟨fun σ' H' => ∃ m', m' < z.length - a2 ∧ m' < z.length - a ∧ WM z d H m' σ' H', fun _ _ h => h, ?_⟩
        have hlen2 : 1 + (tailT fs).length = z.length - a2 := by
          have := congrArg List.length htx2
          rw [List.length_drop, hd0] at this
          rw [this]
          show 1 + (tailT fs).length = (41 :: tailT fs).length
          rw [List.length_cons, Nat.add_comm]
        obtain ⟨⟨xs, hxr, hrp⟩, hfl, hok1, h0r, hnr, stk'⟩ := stk
        have hLr : L ≠ r := fun z => hLn (by simp [z])
        have hLn2 : L ∉ rs := fun z => hLn (by simp [z])
        refine ⟨_, rfl, .inl ⟨rfl, _, SqL.of hLl⟩, L, _, .ref r, rfl, rfl, hLl, (by rw [rev_refs]; simp), ?_⟩
        have edl : ((r :: rs).reverse.map V.ref).dropLast = rs.reverse.map V.ref := by rw [rev_refs, List.dropLast_concat]
        rw [edl]
        have hr1 : upd H2 L (.lst (rs.reverse.map V.ref)) r = some (.lst xs) := by rw [upd_ne (Ne.symm hLr)]; exact hxr
        refine ⟨r, xs, rfl, .inl ⟨SqL.of hr1, fun t ht => ?_⟩⟩
        refine ⟨_, rfl, _, _, rfl, rfl, ?_⟩
        have htL : L ≠ t := fun z => by rw [← z, upd_same] at ht; exact nomatch ht
        have hL3 : upd (upd H2 L (.lst (rs.reverse.map V.ref))) t (.tup xs) L = some (.lst (rs.reverse.map V.ref)) := by rw [upd_ne htL, upd_same]
        have tp : Tups H2 (upd (upd H2 L (.lst (rs.reverse.map V.ref))) t (.tup xs)) := (Tups.lst hLl _).trans (Tups.new ht _)
        have sp : Same H (upd (upd H2 L (.lst (rs.reverse.map V.ref))) t (.tup xs)) := (same_upd sm hL0 _).trans (same_new ht _)
        have rep : Rep (upd (upd H2 L (.lst (rs.reverse.map V.ref))) t (.tup xs)) (.lst dn) (.ref t) := ⟨t, xs, rfl, upd_same, hrp.mono tp⟩
        have hdrop : (tl z).drop (a2 + 1) = tailT fs := by rw [← List.drop_drop, htx2]; rfl
        have stk3 : Stk H (upd (upd H2 L (.lst (rs.reverse.map V.ref))) t (.tup xs)) a2 rs fs := stk'.mono tp (Nat.le_refl _) (fun r' h' => by
          obtain ⟨ys, hy⟩ := stk'.lst r' h'
          have hne : r' ≠ L := fun z => hLn2 (by rw [← z]; exact h')
          have hy' : upd H2 L (.lst (rs.reverse.map V.ref)) r' = some (.lst ys) := by rw [upd_ne hne]; exact hy
          rw [upd_ne (ne_of_none hy' ht), upd_ne hne])
        rw [List.append_nil] at hpl
        refine ⟨_, rfl, _, .inl ⟨_, SqL.of hL3, rfl⟩, ?_⟩
        cases rs with
        | nil =>
          cases fs with
          | cons _ _ => exact stk'.elim
          | nil =>
            refine iteT ?_
            refine ⟨_, rfl, _, rfl, (by show 2 ≤ sizeLine; decide), fun p2 hp2 => ?_⟩
            have e1 : a2 + 1 = z.length := by
              have e2 : (tailT []).length = 0 := rfl
              omega
            have hpl' : D.lst dn = d := hpl
            subst hpl'
            refine q p2 (.ref t) _ (sp.trans (same_new hp2 _)) (rep.mono (Tups.new hp2 _)) ?_
            rw [upd_same, ← e1]
            all_goals rfl
        | cons r2 rs2 =>
          cases fs with
          | nil => exact stk'.elim
          | cons fr fs =>
            have stk4 := stk3
            obtain ⟨⟨ys, hyr, hyp⟩, hfl2, _⟩ := stk4
            have e0 : (!(!(List.map V.ref (r2 :: rs2).reverse).isEmpty)) = false := by rw [rev_refs]; simp
            rw [e0]
            refine iteF ?_
            refine ⟨_, rfl, _, rfl, L, _, _, .ref r2, rfl, rfl, SqL.of hL3, (by rw [rev_refs]; exact atI_last _ _), ?_⟩
            refine ⟨.inl ⟨rfl, _, SqL.of hyr⟩, _, rfl, r2, ys, _, rfl, rfl, hyr, ?_, ?_⟩
            · rw [hyp.length]; omega
            · refine ⟨z.length - (a2 + 1), by omega, by omega, WM.put (a := a2) (a' := a2 + 1) (by omega) (by omega) hL3 hL0 hLn2 ?_ stk3 hyr hdrop hpl sp rep⟩
              have : (r :: r2 :: rs2).length = (r2 :: rs2).length + 1 := rfl
              omega
    · rintro σ2 H2 ⟨n2, hn2, fs, dn, e, todo, r, rs, L, a2, dv, rfl, ha2, rfl, hLl, hL0, hLn, hrl, stk, htx2, hpl, sm⟩
      refine ⟨_, rfl, rfl, _, rfl, z, _, (a2 : Int), rfl, rfl, _, rfl, ?_⟩
      rw [sw, htx2]
      refine iteF ?_
      refine ⟨_, rfl, _, _, rfl, rfl, ?_⟩
      have hlen2 : 1 ≤ z.length - a2 := by
        have := congrArg List.length htx2
        rw [List.length_drop, hd0, List.length_append, List.length_cons] at this
        omega
      obtain ⟨hx, hfl, hok1, h0r, hnr, stk'⟩ := stk
      have hok2 : okD e = true ∧ okL todo = true := by
        have : (okD e && okL todo) = true := hok1
        rwa [Bool.and_eq_true] at this
      refine ⟨z.length - (a2 + 1), by omega, (dn, todo) :: fs, e, r :: rs, L, a2 + 1, dv, rfl, by omega, rfl, hLl, hL0, hLn, by omega, ?_, hok2.1, ?_, hpl, sm⟩
      · have hfl' : dn.length ≤ a2 := hfl
        exact ⟨hx, Nat.le_succ_of_le hfl', hok2.2, h0r, hnr, stk'.mono (Tups.refl _) (by omega) (fun _ _ => rfl)⟩
      · rw [← List.drop_drop, htx2]
        show (said e ++ sr todo) ++ 41 :: tailT fs = said e ++ (sr todo ++ 41 :: tailT fs)
        simp
end
end K1
namespace K1
open PySem L2
def tyName : D → String
  | .bl _ => "bool"
  | .num _ => "int"
  | .wd _ => "str"
  | .lst _ => "tuple"
theorem Rep.ty {K : PySem.W.Frag} {H : Hp} {d : D} {v : V} (h : Rep H d v) : TyX K H v (.type (tyName d)) := by
  cases d with
  | bl b => cases (show v = .bl b from h); exact .base (.bl b)
  | num b => cases (show v = .int b from h); exact .base (.int b)
  | wd b => cases (show v = .str b from h); exact .base (.str b)
  | lst ds =>
    obtain ⟨p, xs, rfl, e, _⟩ := h
    exact .base (.tup e)
def isWd : D → Bool
  | .wd _ => true
  | _ => false
def isLs : D → Bool
  | .lst _ => true
  | _ => false
def isBl : D → Bool
  | .bl _ => true
  | _ => false
def isNum : D → Bool
  | .num _ => true
  | _ => false
theorem kit_str {K : PySem.W.Frag} (d : D) : PySem.W.kitOne K (.type (tyName d)) (.type "str") = some (isWd d) := by
  cases d with
  | bl _ => exact kit_ty (show kitB "bool" "str" = some false by decide +kernel)
  | num _ => exact kit_ty (show kitB "int" "str" = some false by decide +kernel)
  | wd _ => exact kit_ty (show kitB "str" "str" = some true by decide +kernel)
  | lst _ => exact kit_ty (show kitB "tuple" "str" = some false by decide +kernel)
theorem kit_tuple {K : PySem.W.Frag} (d : D) : PySem.W.kitOne K (.type (tyName d)) (.type "tuple") = some (isLs d) := by
  cases d with
  | bl _ => exact kit_ty (show kitB "bool" "tuple" = some false by decide +kernel)
  | num _ => exact kit_ty (show kitB "int" "tuple" = some false by decide +kernel)
  | wd _ => exact kit_ty (show kitB "str" "tuple" = some false by decide +kernel)
  | lst _ => exact kit_ty (show kitB "tuple" "tuple" = some true by decide +kernel)
theorem kit_bool {K : PySem.W.Frag} (d : D) : PySem.W.kitOne K (.type (tyName d)) (.type "bool") = some (isBl d) := by
  cases d with
  | bl _ => exact kit_ty (show kitB "bool" "bool" = some true by decide +kernel)
  | num _ => exact kit_ty (show kitB "int" "bool" = some false by decide +kernel)
  | wd _ => exact kit_ty (show kitB "str" "bool" = some false by decide +kernel)
  | lst _ => exact kit_ty (show kitB "tuple" "bool" = some false by decide +kernel)
theorem kit_int {K : PySem.W.Frag} (d : D) : PySem.W.kitOne K (.type (tyName d)) (.type "int") = some (isBl d || isNum d) := by
  cases d with
  | bl _ => exact kit_ty (show kitB "bool" "int" = some true by decide +kernel)
  | num _ => exact kit_ty (show kitB "int" "int" = some true by decide +kernel)
  | wd _ => exact kit_ty (show kitB "str" "int" = some false by decide +kernel)
  | lst _ => exact kit_ty (show kitB "tuple" "int" = some false by decide +kernel)
theorem kit_list {K : PySem.W.Frag} (d : D) : PySem.W.kitOne K (.type (tyName d)) (.type "list") = some (false) := by
  cases d with
  | bl _ => exact kit_ty (show kitB "bool" "list" = some false by decide +kernel)
  | num _ => exact kit_ty (show kitB "int" "list" = some false by decide +kernel)
  | wd _ => exact kit_ty (show kitB "str" "list" = some false by decide +kernel)
  | lst _ => exact kit_ty (show kitB "tuple" "list" = some false by decide +kernel)
section
variable {X : Cx}
/-- x is True, x is False, whatever x is -/
theorem op_isT : OpR X (compareOp .Is) (fun x y H Q => ∃ b, y = .bl b ∧ Q (.bl (decide (x = .bl b))) H) := by
  intro pins s σ H x y v u Q I rx ry h
  obtain ⟨b, rfl, q⟩ := h
  cases (show u = Value.bool b from ry)
  have no : ∀ c, plainIs v (.bool b) = true → v ≠ .bool b → x ≠ .bl b → c = v → wpAny (model X.prog X.w) X.A (compareOp .Is v (.bool b)) (EP X pins σ Q) X.xe s := fun c h1 h2 h3 _ => by
    rw [decide_eq_false h3] at q
    exact wpAny_is_other h1 h2 ⟨.bl false, H, I, rfl, q⟩
  cases x with
  | bl c =>
    cases (show v = Value.bool c from rx)
    by_cases e : c = b
    · subst e
      exact wpAny_is_self rfl ⟨.bl true, H, I, rfl, by simpa using q⟩
    · exact no _ rfl (fun z => e (Value.bool.inj z)) (fun z => e (V.bl.inj z)) rfl
  | non => cases (show v = Value.none from rx); exact no _ rfl (fun z => nomatch z) (fun z => nomatch z) rfl
  | int i => obtain ⟨t, rfl⟩ := rx; exact no _ rfl (fun z => nomatch z) (fun z => nomatch z) rfl
  | str i => obtain ⟨t, rfl⟩ := rx; exact no _ rfl (fun z => nomatch z) (fun z => nomatch z) rfl
  | byt i => obtain ⟨t, rfl⟩ := rx; exact no _ rfl (fun z => nomatch z) (fun z => nomatch z) rfl
  | flt i => obtain ⟨t, rfl⟩ := rx; exact no _ rfl (fun z => nomatch z) (fun z => nomatch z) rfl
  | ref i => cases (show v = Value.ref i from rx); exact no _ rfl (fun z => nomatch z) (fun z => nomatch z) rfl
  | ty i => cases (show v = Value.type i from rx); exact no _ rfl (fun z => nomatch z) (fun z => nomatch z) rfl
theorem call_str_any : CallR X (.type "str") (fun xs H Q => (∃ i, xs = [.int i] ∧ i.natAbs.log2 < 1920 ∧ Q (.str (Str.ofString (toString i))) H) ∨ ∃ a, xs = [.str a] ∧ Q (.str a) H) := by
  intro pins s σ H xs us Q I r h
  rcases h with h | h
  · exact call_str_int pins s σ H xs us Q I r h
  · exact SkE.call_str_str pins s σ H xs us Q I r h
end
section
variable {P : Program} {w : World} {K : PySem.W.Frag} {mg : Str → Option Value} {base : Heap} {f : Addr} {fd : FuncData}
/-! ### is_word, is_list -/
abbrev sIsW : Stmt := top 6
abbrev sIsL : Stmt := top 7
theorem scIsW : FnScope ["value"] ["value"] (defScope sIsW) := ⟨rfl, rfl, rfl, by decide +kernel, rfl, by decide +kernel, by decide +kernel⟩
theorem scIsL : FnScope ["value"] ["value"] (defScope sIsL) := ⟨rfl, rfl, rfl, by decide +kernel, rfl, by decide +kernel, by decide +kernel⟩
def spIsW : Sp := fun vs H Q _ => ∃ (d : D) (v : V), vs = [v] ∧ Rep H d v ∧ Q (.bl (isWd d)) H
def spIsL : Sp := fun vs H Q _ => ∃ (d : D) (v : V), vs = [v] ∧ Rep H d v ∧ Q (.bl (isLs d)) H
theorem ok_isW (F : Fun K "is_word" "is_word" sIsW f fd) (mi : mg "isinstance" = none) (ms : mg "str" = none) : FnOk P w K mg base CX0 1 f fd ["value"] spIsW := by
  refine F.ok scIsW (fun vs H Q E h => ?_) (fun cdv A outer s H vs Q E hr h => ?_)
  · obtain ⟨d, v, rfl, _⟩ := h
    rfl
  obtain ⟨d, v, rfl, rp, q⟩ := h
  refine ⟨_, pss_one (ps_ret (pe_callB call_isi rfl mi (by decide +kernel) (pa_cons (pv 0) (pa_cons (pe_bltn (v := .ty "str") rfl ms (by decide +kernel) rfl) pa_nil)))), ?_⟩
  exact ⟨_, rfl, _, _, _, _, _, rfl, .ty "str", rp.ty, kit_str d, q⟩
theorem ok_isL (F : Fun K "is_list" "is_list" sIsL f fd) (mi : mg "isinstance" = none) (ms : mg "tuple" = none) : FnOk P w K mg base CX0 1 f fd ["value"] spIsL := by
  refine F.ok scIsL (fun vs H Q E h => ?_) (fun cdv A outer s H vs Q E hr h => ?_)
  · obtain ⟨d, v, rfl, _⟩ := h
    rfl
  obtain ⟨d, v, rfl, rp, q⟩ := h
  refine ⟨_, pss_one (ps_ret (pe_callB call_isi rfl mi (by decide +kernel) (pa_cons (pv 0) (pa_cons (pe_bltn (v := .ty "tuple") rfl ms (by decide +kernel) rfl) pa_nil)))), ?_⟩
  exact ⟨_, rfl, _, _, _, _, _, rfl, .ty "tuple", rp.ty, kit_tuple d, q⟩
/-! ### read_data -/
abbrev sRead : Stmt := top 16
theorem scRead : FnScope ["text", "datum", "end"] ["text"] (defScope sRead) := ⟨rfl, rfl, rfl, by decide +kernel, rfl, by decide +kernel, by decide +kernel⟩
def spRead : Sp := fun vs H Q _ => ∃ (z : Str) (d : D), vs = [.str z] ∧ z.length ≤ sizeLine ∧ tl z = said d ∧ okD d = true ∧ ∀ v H', Same H H' → Rep H' d v → Q v H'
variable {g1 : Addr} {gd1 : FuncData}
theorem ok_read (F : Fun K "read_data" "read_data" sRead f fd) (G1 : FnOk P w K mg base CX0 4 g1 gd1 ["text"] spParts) (b1 : Binds K gd1 ["text"] []) (k1 : PySem.W.keepIn K (.ref g1) = true) (m1 : mg "read_parts" = some (.ref g1))
    (mi : mg "isinstance" = none) (ms : mg "str" = none) (ml : mg "len" = none) : FnOk P w K mg base CX0 5 f fd ["text"] spRead := by
  refine F.ok scRead (fun vs H Q E h => ?_) (fun cdv A outer s H vs Q E hr h => ?_)
  · obtain ⟨d, v, rfl, _⟩ := h
    rfl
  obtain ⟨z, d, rfl, hz, hd, hok, q⟩ := h
  refine ⟨_, pss_cons (ps_if (pt_not (pt_val (pe_callB call_isi rfl mi (by decide +kernel) (pa_cons (pv 0) (pa_cons (pe_bltn (v := .ty "str") rfl ms (by decide +kernel) rfl) pa_nil))))) (pss_one ps_never) pss_nil)
    (pss_cons (ps_asg (pe_call G1 hr rfl m1 k1 b1 .nil pass0 (pa_cons (pv 0) pa_nil)) (pg_tup (by rfl) (pgs_cons (pg_name (i := 1) scRead.nd rfl (.inl rfl)) (pgs_cons (pg_name (i := 2) scRead.nd rfl (.inl rfl)) pgs_nil))))
    (pss_cons (ps_if (pt_cmpR op_ne (pv 2) (pe_callB call_len_str rfl ml PySem.boot_len (pa_cons (pv 0) pa_nil)) (nomark _)) (pss_one ps_never) pss_nil)
    (pss_one (ps_ret (pv 1))))), ?_⟩
  refine ⟨_, rfl, _, _, _, _, true, rfl, .ty "str", .base (.str z), kit_ty (show kitB "str" "str" = some true by decide +kernel), _, rfl, iteF ?_⟩
  refine ⟨_, rfl, z, d, rfl, hz, hd, hok, fun p v H' sm rp hp => ?_⟩
  refine ⟨p, _, rfl, SqT.of hp, rfl, _, _, rfl, _, _, rfl, rfl, ?_⟩
  refine ⟨_, rfl, _, rfl, z, rfl, hz, rfl, _, rfl, ?_⟩
  refine iteNS rfl ?_
  exact ⟨_, rfl, q v H' sm rp⟩
/-! ### leaf_text -/
abbrev sLtx : Stmt := top 17
theorem scLtx : FnScope ["value"] ["value"] (defScope sLtx) := ⟨rfl, rfl, rfl, by decide +kernel, rfl, by decide +kernel, by decide +kernel⟩
def spLtx : Sp := fun vs H Q _ => ∃ (d : D), vs = [valOf d] ∧ isLeaf d = true ∧ okD d = true ∧ Q (.str (mk (said d))) H
theorem ok_ltx (F : Fun K "leaf_text" "leaf_text" sLtx f fd) (mi : mg "isinstance" = none) (ms : mg "str" = none) {CF CB : Addr} (mF : mg "Fun" = some (.ref CF)) (mB : mg "Built" = some (.ref CB))
    (i1 : PySem.W.kitOne K (.type "int") (.ref CF) = some false) (i2 : PySem.W.kitOne K (.type "str") (.ref CF) = some false) (i3 : PySem.W.kitOne K (.type "int") (.ref CB) = some false) (i4 : PySem.W.kitOne K (.type "str") (.ref CB) = some false) :
    FnOk P w K mg base CX0 1 f fd ["value"] spLtx := by
  refine F.ok scLtx (fun vs H Q E h => ?_) (fun cdv A outer s H vs Q E hr h => ?_)
  · obtain ⟨d, rfl, _⟩ := h
    rfl
  obtain ⟨d, rfl, hl, ok, q⟩ := h
  refine ⟨_, pss_cons (ps_if (pt_cmpR op_isT (pv 0) pe_bl (nomark _)) (pss_one (ps_ret pe_str)) pss_nil)
    (pss_cons (ps_if (pt_cmpR op_isT (pv 0) pe_bl (nomark _)) (pss_one (ps_ret pe_str)) pss_nil)
    (pss_cons (ps_if (pt_val (pe_callB call_isi rfl mi (by decide +kernel) (pa_cons (pv 0) (pa_cons (pe_glob (v := .ref CF) rfl mF rfl) pa_nil)))) (pss_one ps_never) pss_nil)
    (pss_cons (ps_if (pt_val (pe_callB call_isi rfl mi (by decide +kernel) (pa_cons (pv 0) (pa_cons (pe_glob (v := .ref CB) rfl mB rfl) pa_nil)))) (pss_one ps_never) pss_nil)
    (pss_one (ps_ret (pe_callTy call_str_any rfl ms (by decide +kernel) (pa_cons (pv 0) pa_nil))))))), ?_⟩
  refine ⟨_, rfl, _, rfl, _, rfl, ?_⟩
  cases d with
  | lst _ => exact nomatch hl
  | bl b =>
    cases b with
    | true =>
      refine iteT ?_
      have e : (Str.ofString "yes") = mk yesT := by decide +kernel
      rw [e]; exact q
    | false =>
      refine iteF ?_
      refine ⟨_, rfl, _, rfl, _, rfl, iteT ?_⟩
      have e : (Str.ofString "no") = mk noT := by decide +kernel
      rw [e]; exact q
  | num n =>
    have hlog : n.natAbs.log2 < 1920 := by
      have ok : numOk n = true := ok
      unfold numOk at ok
      simp only [Bool.and_eq_true, decide_eq_true_eq] at ok
      exact ok.1
    refine iteF ⟨_, rfl, _, rfl, _, rfl, iteF ?_⟩
    refine ⟨_, rfl, _, _, _, _, _, rfl, .own CF, .base (.int n), i1, _, rfl, iteF ?_⟩
    refine ⟨_, rfl, _, _, _, _, _, rfl, .own CB, .base (.int n), i3, _, rfl, iteF ?_⟩
    refine ⟨_, rfl, .inl ⟨n, rfl, hlog, ?_⟩⟩
    have e : mk (said (.num n)) = Str.ofString (toString n) := mk_tl _
    rw [← e]; exact q
  | wd n =>
    refine iteF ⟨_, rfl, _, rfl, _, rfl, iteF ?_⟩
    refine ⟨_, rfl, _, _, _, _, _, rfl, .own CF, .base (.str n), i2, _, rfl, iteF ?_⟩
    refine ⟨_, rfl, _, _, _, _, _, rfl, .own CB, .base (.str n), i4, _, rfl, iteF ?_⟩
    refine ⟨_, rfl, .inr ⟨n, rfl, ?_⟩⟩
    have e : mk (said (.wd n)) = n := mk_tl _
    rw [← e]; exact q
end
end K1
namespace K1
open PySem L2
theorem okL_get : ∀ {ds : List D} {i : Nat} {d : D}, okL ds = true → ds[i]? = some d → okD d = true
  | [], _, _, _, e => by simp at e
  | e :: r, 0, d, h, q => by
    have h : (okD e && okL r) = true := h
    rw [Bool.and_eq_true] at h
    cases (show some e = some d from q); exact h.1
  | e :: r, i + 1, d, h, q => by
    have h : (okD e && okL r) = true := h
    rw [Bool.and_eq_true] at h
    exact okL_get (i := i) h.2 q
/-! ### what is left to be written -/
abbrev It := Sum (List Nat) D
def outI : It → List Nat
  | .inl t => t
  | .inr d => said d
def outT : List It → List Nat
  | [] => []
  | i :: r => outI i ++ outT r
theorem outT_app (a b : List It) : outT (a ++ b) = outT a ++ outT b := by
  induction a with
  | nil => rfl
  | cons i r ih => show outI i ++ outT (r ++ b) = (outI i ++ outT r) ++ outT b; rw [ih, List.append_assoc]
mutual
def wt : D → Nat
  | .bl _ => 1
  | .num _ => 1
  | .wd _ => 1
  | .lst ds => wts ds + 2
def wts : List D → Nat
  | [] => 0
  | d :: r => wt d + 1 + wts r
end
def wtI : It → Nat
  | .inl _ => 1
  | .inr d => wt d
def wtT : List It → Nat
  | [] => 0
  | i :: r => wtI i + wtT r
theorem wtT_app (a b : List It) : wtT (a ++ b) = wtT a + wtT b := by
  induction a with
  | nil => simp [wtT]
  | cons i r ih => show wtI i + wtT (r ++ b) = (wtI i + wtT r) + wtT b; rw [ih, Nat.add_assoc]
theorem wt_pos (d : D) : 1 ≤ wt d := by
  cases d <;> simp [wt]
theorem wtI_pos (i : It) : 1 ≤ wtI i := by
  cases i with
  | inl t => exact Nat.le_refl _
  | inr d => exact wt_pos d
theorem len_wt (l : List It) : l.length ≤ wtT l := by
  induction l with
  | nil => exact Nat.le_refl _
  | cons i r ih => have := wtI_pos i; show r.length + 1 ≤ wtI i + wtT r; omega
def srI : List D → List It
  | [] => []
  | d :: r => .inl [32] :: .inr d :: srI r
def slI : List D → List It
  | [] => []
  | d :: r => .inr d :: srI r
theorem out_srI (ds : List D) : outT (srI ds) = sr ds := by
  induction ds with
  | nil => rfl
  | cons d r ih => show [32] ++ (said d ++ outT (srI r)) = 32 :: (said d ++ sr r); rw [ih]; rfl
theorem out_slI (ds : List D) : outT (slI ds) = sl ds := by
  cases ds with
  | nil => rfl
  | cons d r => show said d ++ outT (srI r) = said d ++ sr r; rw [out_srI]
theorem wt_srI (ds : List D) : wtT (srI ds) = wts ds := by
  induction ds with
  | nil => rfl
  | cons d r ih => show 1 + (wt d + wtT (srI r)) = wt d + 1 + wts r; rw [ih]; omega
theorem wt_slI (ds : List D) : wtT (slI ds) ≤ wts ds := by
  cases ds with
  | nil => exact Nat.le_refl _
  | cons d r => show wt d + wtT (srI r) ≤ wt d + 1 + wts r; rw [wt_srI]; omega
mutual
theorem wt_said : ∀ d : D, okD d = true → wt d ≤ 2 * (said d).length
  | .bl b, ok => by obtain ⟨c, r, h, _⟩ := leaf_head (d := .bl b) rfl ok; rw [h]; simp [wt]; omega
  | .num b, ok => by obtain ⟨c, r, h, _⟩ := leaf_head (d := .num b) rfl ok; rw [h]; simp [wt]; omega
  | .wd b, ok => by obtain ⟨c, r, h, _⟩ := leaf_head (d := .wd b) rfl ok; rw [h]; simp [wt]; omega
  | .lst ds, ok => by
    have h := wts_said ds ok
    show wts ds + 2 ≤ 2 * ((sl ds ++ [41]).length + 1)
    cases ds with
    | nil => simp [wts]; omega
    | cons d r =>
      have e : (sr (d :: r)).length = (sl (d :: r)).length + 1 := rfl
      rw [List.length_append]
      show wts (d :: r) + 2 ≤ 2 * ((sl (d :: r)).length + 1 + 1)
      omega
theorem wts_said : ∀ ds : List D, okL ds = true → wts ds ≤ 2 * (sr ds).length
  | [], _ => Nat.zero_le _
  | d :: r, ok => by
    have ok' : (okD d && okL r) = true := ok
    rw [Bool.and_eq_true] at ok'
    have h1 := wt_said d ok'.1
    have h2 := wts_said r ok'.2
    have e : (sr (d :: r)).length = (said d).length + (sr r).length + 1 := by
      show (32 :: (said d ++ sr r)).length = _
      rw [List.length_cons, List.length_append]
    show wt d + 1 + wts r ≤ _
    omega
end
/-- an item in the heap -/
def IRep (H : Hp) : It → V → Prop
  | .inl t, v => ∃ p, v = .ref p ∧ H p = some (.tup [.bl true, .str (mk t)])
  | .inr d, v => ∃ p x, v = .ref p ∧ H p = some (.tup [.bl false, x]) ∧ Rep H d x ∧ okD d = true
def IReps (H : Hp) : List It → List V → Prop
  | [], ws => ws = []
  | i :: r, ws => ∃ x ws', ws = x :: ws' ∧ IRep H i x ∧ IReps H r ws'
theorem IRep.mono {H H' : Hp} (t : Tups H H') {i : It} {v : V} (h : IRep H i v) : IRep H' i v := by
  cases i with
  | inl x => obtain ⟨p, rfl, e⟩ := h; exact ⟨p, rfl, t _ _ e⟩
  | inr d => obtain ⟨p, x, rfl, e, r, o⟩ := h; exact ⟨p, x, rfl, t _ _ e, r.mono t, o⟩
theorem IReps.mono {H H' : Hp} (t : Tups H H') : ∀ {l : List It} {ws : List V}, IReps H l ws → IReps H' l ws
  | [], _, h => h
  | _ :: _, _, h => by
    obtain ⟨x, ws', e, a, b⟩ := h
    exact ⟨x, ws', e, a.mono t, IReps.mono t b⟩
theorem IReps.length {H : Hp} : ∀ {l : List It} {ws : List V}, IReps H l ws → ws.length = l.length
  | [], _, h => by cases h; rfl
  | _ :: _, _, h => by
    obtain ⟨x, ws', rfl, a, b⟩ := h
    rw [List.length_cons, List.length_cons, IReps.length b]
def flat : List (List Nat) → List Nat
  | [] => []
  | t :: r => t ++ flat r
theorem flat_snoc (a : List (List Nat)) (t : List Nat) : flat (a ++ [t]) = flat a ++ t := by
  induction a with
  | nil => show t ++ [] = t; simp
  | cons x r ih => show x ++ flat (r ++ [t]) = (x ++ flat r) ++ t; rw [ih, List.append_assoc]
theorem join_flat (ps : List (List Nat)) : Txt.join (mk []) (ps.map mk) = mk (flat ps) := by
  rw [TL.join_eq]
  apply TL.ext_tl
  rw [TL.tl_join]
  show TL.joinL [] ((ps.map mk).map TL.tl) = flat ps
  induction ps with
  | nil => rfl
  | cons x r ih =>
    cases r with
    | nil => show x = x ++ []; simp
    | cons y r => show x ++ ([] ++ TL.joinL [] (((y :: r).map mk).map TL.tl)) = x ++ flat (y :: r); rw [ih]; rfl
theorem sum_flat (ps : List (List Nat)) : ((ps.map mk).map (·.length)).sum = (flat ps).length := by
  induction ps with
  | nil => rfl
  | cons x r ih =>
    show (mk x).length + ((r.map mk).map (·.length)).sum = (x ++ flat r).length
    rw [ih, List.length_append, len_mk]
def chunk (ds : List D) (i : Nat) : List It := if ds.length - i = 0 then slI ds else srI (ds.drop (ds.length - i))
theorem len_srI (ds : List D) : (srI ds).length = 2 * ds.length := by
  induction ds with
  | nil => rfl
  | cons d r ih => show (srI r).length + 1 + 1 = 2 * (r.length + 1); omega
theorem len_chunk (ds : List D) (i : Nat) : (chunk ds i).length ≤ 2 * ds.length := by
  unfold chunk
  split
  · cases ds with
    | nil => exact Nat.le_refl _
    | cons d r =>
      show (srI r).length + 1 ≤ 2 * (r.length + 1)
      rw [len_srI]; omega
  · rw [len_srI, List.length_drop]; omega
theorem len_wts : ∀ ds : List D, ds.length ≤ wts ds
  | [] => Nat.le_refl _
  | d :: r => by have := len_wts r; show r.length + 1 ≤ wt d + 1 + wts r; omega
section
variable {P : Program} {w : World} {K : PySem.W.Frag} {mg : Str → Option Value} {base : Heap} {f : Addr} {fd : FuncData}
abbrev sDt : Stmt := top 18
theorem scDt : FnScope ["value", "pieces", "left", "ready", "one", "at"] ["value"] (defScope sDt) := ⟨rfl, rfl, rfl, by decide +kernel, rfl, by decide +kernel, by decide +kernel⟩
def spDt : Sp := fun vs H Q _ => ∃ (d : D) (v : V), vs = [v] ∧ Rep H d v ∧ okD d = true ∧ (said d).length ≤ 200000 ∧ ∀ H', Same H H' → Q (.str (mk (said d))) H'
def sV (ps : List (List Nat)) : List V := (ps.map mk).map V.str
theorem sV_snoc (ps : List (List Nat)) (t : List Nat) : sV ps ++ [V.str (mk t)] = sV (ps ++ [t]) := by simp [sV]
theorem sV_len (ps : List (List Nat)) : (sV ps).length = ps.length := by simp [sV]
def WD (v : V) (d : D) (H : Hp) (n : Nat) (σ : St) (H' : Hp) : Prop := ∃ (its : List It) (ws : List V) (ps : List (List Nat)) (Lp Lf : Addr) (r3 r4 r5 : Option V),
  n = wtT its ∧ ps.length + wtT its ≤ wt d ∧ σ = [some v, some (.ref Lp), some (.ref Lf), r3, r4, r5] ∧ H' Lp = some (.lst (sV ps)) ∧ H' Lf = some (.lst ws.reverse) ∧ Lp ≠ Lf ∧ H Lp = none ∧ H Lf = none ∧
  IReps H' its ws ∧ flat ps ++ outT its = said d ∧ Same H H'
variable {g1 g2 : Addr} {gd1 gd2 : FuncData}
set_option maxHeartbeats 8000000 in
theorem ok_dt (F : Fun K "data_text" "data_text" sDt f fd) (G1 : FnOk P w K mg base CX0 1 g1 gd1 ["value"] spIsL) (b1 : Binds K gd1 ["value"] []) (k1 : PySem.W.keepIn K (.ref g1) = true) (m1 : mg "is_list" = some (.ref g1))
    (G2 : FnOk P w K mg base CX0 1 g2 gd2 ["value"] spLtx) (b2 : Binds K gd2 ["value"] []) (k2 : PySem.W.keepIn K (.ref g2) = true) (m2 : mg "leaf_text" = some (.ref g2))
    (mr : mg "range" = none) (ml : mg "len" = none) : FnOk P w K mg base CX0 2 f fd ["value"] spDt := by
  refine F.ok scDt (fun vs H Q E h => ?_) (fun cdv A outer s H vs Q E hr h => ?_)
  · obtain ⟨d, v, rfl, _⟩ := h
    rfl
  obtain ⟨d, v, rfl, rp, hok, hsz, q⟩ := h
  refine ⟨_, pss_cons (ps_set (i := 1) scDt.nd rfl (.inl rfl) (pe_lst pa_nil))
    (pss_cons (ps_set (i := 2) scDt.nd rfl (.inl rfl) (pe_lst (pa_cons (pe_tup (pa_cons pe_bl (pa_cons (pv 0) pa_nil))) pa_nil)))
    (pss_cons (ps_while PassesOwn.never (pt_truth (pv 2) (by intro _; rfl))
      (pss_cons (ps_asg (pe_bm0 PySem.F.plainAttrs_list PySem.F.slot_list_pop PySem.F.type_list_pop mt_pop (pv 2)) (pg_tup (by rfl) (pgs_cons (pg_name (i := 3) scDt.nd rfl (.inl rfl)) (pgs_cons (pg_name (i := 4) scDt.nd rfl (.inl rfl)) pgs_nil))))
      (pss_one (ps_if (pt_val (pv 3))
        (pss_one (ps_expr (pe_bm PySem.F.plainAttrs_list PySem.F.slot_list_append PySem.F.type_list_append mt_append (pv 1) (pa_cons (pv 4) pa_nil))))
        (pss_one (ps_if (pt_val (pe_call G1 hr rfl m1 k1 b1 .nil pass0 (pa_cons (pv 4) pa_nil)))
          (pss_cons (ps_expr (pe_bm PySem.F.plainAttrs_list PySem.F.slot_list_append PySem.F.type_list_append mt_append (pv 1) (pa_cons pe_str pa_nil)))
          (pss_cons (ps_expr (pe_bm PySem.F.plainAttrs_list PySem.F.slot_list_append PySem.F.type_list_append mt_append (pv 2) (pa_cons (pe_tup (pa_cons pe_bl (pa_cons pe_str pa_nil))) pa_nil)))
          (pss_one (ps_for PassesOwn.never rfl (pi_range3 rfl mr (pa_cons (pe_op op_sub (pe_callB call_len_seq rfl ml PySem.boot_len (pa_cons (pv 4) pa_nil)) pe_int) (pa_cons (pe_un un_neg pe_int) (pa_cons (pe_un un_neg pe_int) pa_nil)))) (pg_name (i := 5) scDt.nd rfl (.inl rfl))
            (pss_cons (ps_expr (pe_bm PySem.F.plainAttrs_list PySem.F.slot_list_append PySem.F.type_list_append mt_append (pv 2) (pa_cons (pe_tup (pa_cons pe_bl (pa_cons (pe_ix ix_tup (pv 4) (pv 5) (fun _ _ => rfl)) pa_nil))) pa_nil)))
            (pss_one (ps_if (pt_cmpR op_gt (pv 5) pe_int (nomark _))
              (pss_one (ps_expr (pe_bm PySem.F.plainAttrs_list PySem.F.slot_list_append PySem.F.type_list_append mt_append (pv 2) (pa_cons (pe_tup (pa_cons pe_bl (pa_cons pe_str pa_nil))) pa_nil)))) pss_nil)))))))
          (pss_one (ps_expr (pe_bm PySem.F.plainAttrs_list PySem.F.slot_list_append PySem.F.type_list_append mt_append (pv 1) (pa_cons (pe_call G2 hr rfl m2 k2 b2 .nil pass0 (pa_cons (pv 4) pa_nil)) pa_nil))))))))))
    (pss_one (ps_ret (pe_join pe_str (pv 1)))))), ?_⟩
  have s40 : (Str.ofString "(") = mk [40] := by decide +kernel
  have s41 : (Str.ofString ")") = mk [41] := by decide +kernel
  have s32 : (Str.ofString " ") = mk [32] := by decide +kernel
  have s0 : (Str.ofString "") = mk [] := by decide +kernel
  rw [s40, s41, s32, s0]
  have hw := wt_said d hok
  have esz := sizeLine_eq
  refine ⟨(by show 0 ≤ sizeLine; decide), fun Lp hLp => ?_⟩
  refine ⟨_, rfl, (by show 2 ≤ sizeLine; decide), fun p0 hp0 => ?_⟩
  refine ⟨(by show 1 ≤ sizeLine; decide), fun Lf hLf => ?_⟩
  have e1 : upd (upd H Lp (.lst [])) p0 (.tup [.bl false, v]) Lp = some (.lst []) := by rw [upd_ne (ne_of_none upd_same hp0), upd_same]
  have hp0H : H p0 = none := (same_new hLp _).free hp0
  have hLfH : H Lf = none := ((same_new hLp _).trans (same_new hp0 _)).free hLf
  have sm0 : Same H (upd (upd (upd H Lp (.lst [])) p0 (.tup [.bl false, v])) Lf (.lst [.ref p0])) := ((same_new hLp _).trans (same_new hp0 _)).trans (same_new hLf _)
  refine ⟨WD v d H, ⟨_, [.inr d], [.ref p0], [], Lp, Lf, none, none, none, rfl, ?_, rfl, ?_, upd_same, ne_of_none e1 hLf, hLp, hLfH, ?_, ?_, sm0⟩, ?_⟩
  · show 0 + (wt d + 0) ≤ wt d
    omega
  · rw [upd_ne (ne_of_none e1 hLf)]; exact e1
  · refine ⟨.ref p0, [], rfl, ⟨p0, v, rfl, ?_, rp.mono (Tups.of sm0), hok⟩, rfl⟩
    rw [upd_ne (ne_of_none upd_same hLf), upd_same]
  · show [] ++ (said d ++ []) = said d
    simp
  clear e1 hp0H hLfH sm0 hp0 hLp hLf
  rintro n σ H' ⟨its, ws, ps, Lp, Lf, r3, r4, r5, rfl, hwt, rfl, hLp, hLf, hne, hLp0, hLf0, hit, hout, sm⟩
  refine ⟨_, rfl, _, .inl ⟨_, SqL.of hLf, rfl⟩, ?_⟩
  cases its with
  | nil =>
    cases hit
    refine iteF ?_
    have hfl : flat ps = said d := by
      have : flat ps ++ [] = said d := hout
      rwa [List.append_nil] at this
    refine ⟨⟨_, rfl⟩, _, rfl, mk [], Lp, ps.map mk, rfl, rfl, .inl (SqL.of hLp), ?_, ?_⟩
    · rw [sum_flat, hfl]
      have : (mk []).length = 0 := rfl
      rw [this]
      omega
    · rw [join_flat, hfl]; exact q H' sm
  | cons it its =>
    obtain ⟨x, ws', rfl, hx, hit⟩ := hit
    have e0 : (!(x :: ws').reverse.isEmpty) = true := by simp
    rw [e0]
    refine iteT ?_
    refine ⟨fun σ' H' => ∃ m', m' < wtT (it :: its) ∧ WD v d H m' σ' H', fun _ _ h => h, ?_⟩
    have erv : (x :: ws').reverse = ws'.reverse ++ [x] := List.reverse_cons
    rw [erv] at hLf
    refine ⟨_, rfl, .inl ⟨rfl, _, SqL.of hLf⟩, Lf, _, x, rfl, rfl, hLf, (by simp), ?_⟩
    rw [List.dropLast_concat]
    have tp : Tups H' (upd H' Lf (.lst ws'.reverse)) := Tups.lst hLf _
    have sp : Same H (upd H' Lf (.lst ws'.reverse)) := same_upd sm hLf0 _
    have hLp1 : upd H' Lf (.lst ws'.reverse) Lp = some (.lst (sV ps)) := by rw [upd_ne hne]; exact hLp
    have hit1 := hit.mono tp
    have hwt' : ps.length + (wtI it + wtT its) ≤ wt d := hwt
    have hit0 := len_wt its
    cases it with
    | inl t =>
      obtain ⟨p, rfl, hp⟩ := hx
      refine ⟨p, _, rfl, SqT.of (tp _ _ hp), rfl, _, _, rfl, _, _, rfl, rfl, ?_⟩
      refine ⟨_, rfl, _, rfl, iteT ?_⟩
      have hwt' : ps.length + (1 + wtT its) ≤ wt d := hwt
      refine ⟨_, rfl, .inl ⟨rfl, _, SqL.of hLp1⟩, _, rfl, Lp, _, _, rfl, rfl, hLp1, (by rw [sV_len]; omega), ?_⟩
      rw [sV_snoc]
      refine ⟨wtT its, ?_, its, ws', ps ++ [t], Lp, Lf, _, _, _, rfl, ?_, rfl, upd_same, ?_, hne, hLp0, hLf0, hit1.mono (Tups.lst hLp1 _), ?_, same_upd sp hLp0 _⟩
      · show wtT its < 1 + wtT its
        omega
      · rw [List.length_append]
        show ps.length + 1 + wtT its ≤ wt d
        omega
      · rw [upd_ne (Ne.symm hne), upd_same]
      · rw [flat_snoc, List.append_assoc]; exact hout
    | inr e =>
      obtain ⟨p, y, rfl, hp, hy, hoke⟩ := hx
      refine ⟨p, _, rfl, SqT.of (tp _ _ hp), rfl, _, _, rfl, _, _, rfl, rfl, ?_⟩
      refine ⟨_, rfl, _, rfl, iteF ?_⟩
      refine ⟨_, rfl, e, y, rfl, hy.mono tp, _, rfl, ?_⟩
      have hout' : flat ps ++ (said e ++ outT its) = said d := hout
      have hwe : ps.length + (wt e + wtT its) ≤ wt d := hwt
      have hwp := wt_pos e
      by_cases hlf : isLeaf e = true
      · have hls : isLs e = false := by cases e <;> first | rfl | exact nomatch hlf
        rw [hls]
        refine iteF ?_
        cases (hy.leaf hlf)
        refine ⟨_, rfl, .inl ⟨rfl, _, SqL.of hLp1⟩, _, rfl, e, rfl, hlf, hoke, ?_⟩
        refine ⟨Lp, _, _, rfl, rfl, hLp1, (by rw [sV_len]; omega), ?_⟩
        rw [sV_snoc]
        refine ⟨wtT its, ?_, its, ws', ps ++ [said e], Lp, Lf, _, _, _, rfl, ?_, rfl, upd_same, ?_, hne, hLp0, hLf0, hit1.mono (Tups.lst hLp1 _), ?_, same_upd sp hLp0 _⟩
        · show wtT its < wt e + wtT its
          omega
        · rw [List.length_append]
          show ps.length + 1 + wtT its ≤ wt d
          omega
        · rw [upd_ne (Ne.symm hne), upd_same]
        · rw [flat_snoc, List.append_assoc]; exact hout'
      · cases e with
        | bl _ => exact absurd rfl hlf
        | num _ => exact absurd rfl hlf
        | wd _ => exact absurd rfl hlf
        | lst ds =>
          refine iteT ?_
          obtain ⟨tp_, ys, rfl, htup, hreps⟩ := hy
          have hokd : okL ds = true := hoke
          have hyl : ys.length = ds.length := hreps.length
          have hwd : ps.length + (wts ds + 2 + wtT its) ≤ wt d := hwe
          have hlw := len_wts ds
          refine ⟨_, rfl, .inl ⟨rfl, _, SqL.of hLp1⟩, Lp, _, _, rfl, rfl, hLp1, (by rw [sV_len]; omega), ?_⟩
          rw [sV_snoc]
          have hLf2 : upd (upd H' Lf (.lst ws'.reverse)) Lp (.lst (sV (ps ++ [[40]]))) Lf = some (.lst ws'.reverse) := by rw [upd_ne (Ne.symm hne), upd_same]
          have tp2 : Tups H' (upd (upd H' Lf (.lst ws'.reverse)) Lp (.lst (sV (ps ++ [[40]])))) := tp.trans (Tups.lst hLp1 _)
          have sp2 : Same H (upd (upd H' Lf (.lst ws'.reverse)) Lp (.lst (sV (ps ++ [[40]])))) := same_upd sp hLp0 _
          refine ⟨_, rfl, .inl ⟨rfl, _, SqL.of hLf2⟩, (by show 2 ≤ sizeLine; decide), fun p1 hp1 => ?_⟩
          have hLf3 : upd (upd (upd H' Lf (.lst ws'.reverse)) Lp (.lst (sV (ps ++ [[40]])))) p1 (.tup [.bl true, .str (mk [41])]) Lf = some (.lst ws'.reverse) := by rw [upd_ne (ne_of_none hLf2 hp1)]; exact hLf2
          refine ⟨Lf, _, _, rfl, rfl, hLf3, (by rw [List.length_reverse, hit.length]; omega), ?_⟩
          rw [← List.reverse_cons]
          have hLp3 : upd (upd (upd H' Lf (.lst ws'.reverse)) Lp (.lst (sV (ps ++ [[40]])))) p1 (.tup [.bl true, .str (mk [41])]) Lp = some (.lst (sV (ps ++ [[40]]))) := by rw [upd_ne (ne_of_none upd_same hp1), upd_same]
          generalize hH3 : upd (upd (upd H' Lf (.lst ws'.reverse)) Lp (.lst (sV (ps ++ [[40]])))) p1 (.tup [.bl true, .str (mk [41])]) = H3 at hLf3 hLp3
          have tp3 : Tups H' H3 := by rw [← hH3]; exact tp2.trans (Tups.new hp1 _)
          have sp3 : Same H H3 := by rw [← hH3]; exact sp2.trans (same_new hp1 _)
          have hp13 : H3 p1 = some (.tup [.bl true, .str (mk [41])]) := by rw [← hH3]; exact upd_same
          have tp4 : Tups H3 (upd H3 Lf (.lst (V.ref p1 :: ws').reverse)) := Tups.lst hLf3 _
          have htup4 := tp4 _ _ (tp3 _ _ htup)
          refine ⟨_, rfl, tp_, ys, rfl, .inr (SqT.of htup4), _, _, rfl, rfl, _, rfl, _, rfl, _, _, _, _, rfl, RgC.neg (by omega) (by rw [hyl]; omega) (by omega) (by omega), ?_⟩
          have en : ((ys.length : Int) - 1 - -1).toNat = ds.length := by rw [hyl]; omega
          rw [en]
          refine for_rangeC (fun i σ' H'' => ∃ (ws'' : List V) (q5 : Option V), σ' = [some v, some (.ref Lp), some (.ref Lf), some (.bl false), some (.ref tp_), q5] ∧ H'' Lp = some (.lst (sV (ps ++ [[40]]))) ∧ H'' Lf = some (.lst ws''.reverse) ∧
            IReps H'' (chunk ds i ++ .inl [41] :: its) ws'' ∧ Same H H'' ∧ Tups H' H'') ?_ ?_ ?_
          · refine ⟨V.ref p1 :: ws', _, rfl, ?_, upd_same, ?_, same_upd sp3 hLf0 _, tp3.trans tp4⟩
            · rw [upd_ne hne]; exact hLp3
            · have ec : chunk ds 0 = [] := by
                unfold chunk
                rw [Nat.sub_zero, List.drop_length]
                split
                · rename_i h0
                  rw [List.length_eq_zero_iff.mp h0]; rfl
                · rfl
              rw [ec]
              exact ⟨_, _, rfl, ⟨p1, rfl, tp4 _ _ hp13⟩, hit.mono (tp3.trans tp4)⟩
          · rintro i σ' H'' hi ⟨ws'', q5, rfl, hLp', hLf', hit', sm', tp'⟩
            obtain ⟨k, hk⟩ : ∃ k : Nat, k + 1 + i = ds.length := ⟨ds.length - 1 - i, by omega⟩
            have eat : (ys.length : Int) - 1 + ((i : Nat) : Int) * -1 = (k : Int) := by rw [hyl]; omega
            rw [eat]
            have hkl : k < ys.length := by omega
            have hgk : ys[k]? = some ys[k] := List.getElem?_eq_getElem hkl
            obtain ⟨dk, hdk, hrk⟩ := hreps.get hgk
            have hokk : okD dk = true := okL_get hokd hdk
            have hL := hit'.length
            have hlen : ws''.length < sizeLine - 1 := by
              rw [hit'.length, List.length_append, List.length_cons]
              have := len_chunk ds i
              omega
            refine ⟨_, rfl, .inl ⟨rfl, _, SqL.of hLf'⟩, ?_⟩
            refine ⟨_, rfl, _, rfl, tp_, ys, _, _, rfl, rfl, SqT.of (tp' _ _ htup), atI_nat hgk, (by show 2 ≤ sizeLine; decide), fun p2 hp2 => ?_⟩
            have hLf5 : upd H'' p2 (.tup [.bl false, ys[k]]) Lf = some (.lst ws''.reverse) := by rw [upd_ne (ne_of_none hLf' hp2)]; exact hLf'
            have hLp5 : upd H'' p2 (.tup [.bl false, ys[k]]) Lp = some (.lst (sV (ps ++ [[40]]))) := by rw [upd_ne (ne_of_none hLp' hp2)]; exact hLp'
            refine ⟨Lf, _, _, rfl, rfl, hLf5, (by rw [List.length_reverse]; omega), ?_⟩
            rw [← List.reverse_cons]
            have tp5 : Tups H'' (upd (upd H'' p2 (.tup [.bl false, ys[k]])) Lf (.lst (V.ref p2 :: ws'').reverse)) := (Tups.new hp2 _).trans (Tups.lst hLf5 _)
            have sp5 : Same H (upd (upd H'' p2 (.tup [.bl false, ys[k]])) Lf (.lst (V.ref p2 :: ws'').reverse)) := same_upd (sm'.trans (same_new hp2 _)) hLf0 _
            have hp25 : upd (upd H'' p2 (.tup [.bl false, ys[k]])) Lf (.lst (V.ref p2 :: ws'').reverse) p2 = some (.tup [.bl false, ys[k]]) := by
              rw [upd_ne (ne_of (upd_same : upd H'' p2 (.tup [.bl false, ys[k]]) p2 = _) hLf5 (by intro z; cases z)), upd_same]
            have hLp6 : upd (upd H'' p2 (.tup [.bl false, ys[k]])) Lf (.lst (V.ref p2 :: ws'').reverse) Lp = some (.lst (sV (ps ++ [[40]]))) := by rw [upd_ne hne]; exact hLp5
            have hLf6 : upd (upd H'' p2 (.tup [.bl false, ys[k]])) Lf (.lst (V.ref p2 :: ws'').reverse) Lf = some (.lst (V.ref p2 :: ws'').reverse) := upd_same
            have irep : IReps (upd (upd H'' p2 (.tup [.bl false, ys[k]])) Lf (.lst (V.ref p2 :: ws'').reverse)) (.inr dk :: (chunk ds i ++ .inl [41] :: its)) (V.ref p2 :: ws'') :=
              ⟨_, _, rfl, ⟨p2, _, rfl, hp25, hrk.mono (tp'.trans tp5), hokk⟩, hit'.mono tp5⟩
            have ech : chunk ds i = srI (ds.drop (k + 1)) := by
              unfold chunk
              rw [if_neg (by omega)]
              congr 2
              omega
            have ecut : ds.drop k = dk :: ds.drop (k + 1) := by
              have hkd : k < ds.length := by omega
              rw [List.drop_eq_getElem_cons hkd]
              congr 1
              have := List.getElem?_eq_getElem hkd
              rw [hdk] at this
              exact (Option.some.inj this).symm
            refine ⟨_, rfl, _, _, rfl, rfl, _, rfl, ?_⟩
            refine ite2 (fun c => ?_) (fun c => ?_)
            · have c' : (0 : Int) < (k : Int) := of_decide_eq_true c
              refine ⟨_, rfl, .inl ⟨rfl, _, SqL.of hLf6⟩, (by show 2 ≤ sizeLine; decide), fun p3 hp3 => ?_⟩
              generalize hH6 : upd (upd H'' p2 (.tup [.bl false, ys[k]])) Lf (.lst (V.ref p2 :: ws'').reverse) = H6 at tp5 sp5 hLp6 hLf6 irep hp3
              have hLf7 : upd H6 p3 (.tup [.bl true, .str (mk [32])]) Lf = some (.lst (V.ref p2 :: ws'').reverse) := by rw [upd_ne (ne_of_none hLf6 hp3)]; exact hLf6
              have hLp7 : upd H6 p3 (.tup [.bl true, .str (mk [32])]) Lp = some (.lst (sV (ps ++ [[40]]))) := by rw [upd_ne (ne_of_none hLp6 hp3)]; exact hLp6
              refine ⟨Lf, _, _, rfl, rfl, hLf7, (by rw [List.length_reverse, List.length_cons]; omega), ?_⟩
              rw [← List.reverse_cons]
              have tp7 : Tups H6 (upd (upd H6 p3 (.tup [.bl true, .str (mk [32])])) Lf (.lst (V.ref p3 :: V.ref p2 :: ws'').reverse)) := (Tups.new hp3 _).trans (Tups.lst hLf7 _)
              refine ⟨V.ref p3 :: V.ref p2 :: ws'', _, rfl, ?_, upd_same, ?_, same_upd (sp5.trans (same_new hp3 _)) hLf0 _, tp'.trans (tp5.trans tp7)⟩
              · rw [upd_ne hne]; exact hLp7
              · have e2 : chunk ds (i + 1) = .inl [32] :: .inr dk :: chunk ds i := by
                  rw [ech]
                  unfold chunk
                  rw [if_neg (by omega)]
                  have : ds.length - (i + 1) = k := by omega
                  rw [this, ecut]; rfl
                rw [e2]
                refine ⟨_, _, rfl, ⟨p3, rfl, ?_⟩, irep.mono tp7⟩
                rw [upd_ne (ne_of (upd_same : upd H6 p3 (.tup [.bl true, .str (mk [32])]) p3 = _) hLf7 (by intro z; cases z)), upd_same]
            · have c' : ¬ (0 : Int) < (k : Int) := of_decide_eq_false (Bool.eq_false_iff.mpr c)
              have k0 : k = 0 := by omega
              refine ⟨V.ref p2 :: ws'', _, rfl, hLp6, hLf6, ?_, sp5, tp'.trans tp5⟩
              have e2 : chunk ds (i + 1) = .inr dk :: chunk ds i := by
                rw [ech]
                unfold chunk
                rw [if_pos (by omega)]
                subst k0
                rw [List.drop_zero] at ecut
                rw [ecut]; rfl
              rw [e2]
              exact irep
          · rintro σ' H'' ⟨ws'', q5, rfl, hLp', hLf', hit', sm', tp'⟩
            have e3 : chunk ds ds.length = slI ds := by
              unfold chunk
              rw [Nat.sub_self, if_pos rfl]
            rw [e3] at hit'
            have e4 : wtT (slI ds ++ .inl [41] :: its) = wtT (slI ds) + (1 + wtT its) := wtT_app _ _
            have e5 := wt_slI ds
            refine ⟨wtT (slI ds ++ .inl [41] :: its), ?_, slI ds ++ .inl [41] :: its, ws'', ps ++ [[40]], Lp, Lf, _, _, _, rfl, ?_, rfl, hLp', hLf', hne, hLp0, hLf0, hit', ?_, sm'⟩
            · rw [e4]
              show _ < (wts ds + 2) + wtT its
              omega
            · rw [e4, List.length_append]
              show ps.length + 1 + _ ≤ _
              omega
            · rw [outT_app, out_slI, flat_snoc, ← hout', List.append_assoc]
              show flat ps ++ ([40] ++ (sl ds ++ ([41] ++ outT its))) = flat ps ++ ((40 :: (sl ds ++ [41])) ++ outT its)
              simp
end
end K1
namespace K1
open PySem L2
def nameK : Str := Str.ofString "name"
def fixedK : Str := Str.ofString "fixed"
def putK_ : Str := Str.ofString "put"
def kindD : D → Str
  | .wd _ => nameK
  | .lst (.wd s :: _) => if parts7.contains s then s else putK_
  | .lst (_ :: _) => putK_
  | _ => fixedK
mutual
def toPy : D → PyData
  | .bl b => .bool b
  | .num n => .int n
  | .wd s => .str s
  | .lst ds => .tuple (toPys ds)
def toPys : List D → List PyData
  | [] => []
  | d :: r => toPy d :: toPys r
end
mutual
theorem Rep.dp {K : PySem.W.Frag} {H : Hp} : ∀ {d : D} {v : V}, Rep H d v → Dp K H v (toPy d)
  | .bl _, _, h => by cases h; exact .bl _
  | .num _, _, h => by cases h; exact .int _
  | .wd _, _, h => by cases h; exact .str _
  | .lst _, _, h => by
    obtain ⟨p, xs, rfl, e, r⟩ := h
    exact .tup (SqT.of e) (Reps.dp r)
theorem Reps.dp {K : PySem.W.Frag} {H : Hp} : ∀ {ds : List D} {xs : List V}, Reps H ds xs → DpAll K H xs (toPys ds)
  | [], _, h => by cases h; exact .nil
  | _ :: _, _, h => by
    obtain ⟨x, r, rfl, a, b⟩ := h
    exact .cons (Rep.dp a) (Reps.dp b)
end
mutual
theorem lay_of : ∀ {d : D}, okD d = true → (toPy d).canLay0 = true
  | .bl _, _ => rfl
  | .num _, _ => rfl
  | .wd s, ok => by
    have ok : wdOk s = true := ok
    unfold wdOk at ok
    simp only [Bool.and_eq_true, decide_eq_true_eq] at ok
    obtain ⟨⟨⟨⟨⟨a, b⟩, c⟩, e⟩, f⟩, _⟩ := ok
    show PyData.strOk s = true
    unfold PyData.strOk
    rw [← Array.all_toList, List.all_eq_true]
    intro c hc
    have q := List.all_eq_true.mp b c hc
    have q' : 97 ≤ c ∧ c ≤ 122 := by simpa [isLet] using q
    exact decide_eq_true (by omega)
  | .lst _, ok => lays_of (ds := _) ok
theorem lays_of : ∀ {ds : List D}, okL ds = true → PyData.canLayAll0 (toPys ds) = true
  | [], _ => rfl
  | d :: r, ok => by
    have ok : (okD d && okL r) = true := ok
    rw [Bool.and_eq_true] at ok
    show ((toPy d).canLay0 && PyData.canLayAll0 (toPys r)) = true
    rw [lay_of ok.1, lays_of ok.2]; rfl
end
theorem wd_of {d : D} (h : isWd d = true) : ∃ s, d = .wd s := by
  cases d with
  | wd s => exact ⟨s, rfl⟩
  | bl _ => exact Bool.noConfusion h
  | num _ => exact Bool.noConfusion h
  | lst _ => exact Bool.noConfusion h
theorem ls_of {d : D} (h : isLs d = true) : ∃ ds, d = .lst ds := by
  cases d with
  | lst s => exact ⟨s, rfl⟩
  | bl _ => exact Bool.noConfusion h
  | num _ => exact Bool.noConfusion h
  | wd _ => exact Bool.noConfusion h
theorem wd_in {s : Str} (ok : okD (.wd s) = true) : s ∈ words16 := by
  have ok : wdOk s = true := ok
  unfold wdOk at ok
  simp only [Bool.and_eq_true, decide_eq_true_eq] at ok
  exact ok.2
section
variable {X : Cx}
theorem op_eqN (hu : X.A.units + 8 < cLine) : OpR X (compareOp .Eq) (fun x y H Q => ∃ d e, Dp X.K H x d ∧ Dp X.K H y e ∧ d.canLay0 = true ∧ e.canLay0 = true ∧ e.depth ≤ 8 ∧ Q (.bl (PyData.eqv d e)) H) := by
  intro pins s σ H x y v u Q I rx ry h
  obtain ⟨d, e, hd, he, sd, se, le, q⟩ := h
  obtain ⟨as, r1⟩ := Dp.reads I d x v hd rx
  obtain ⟨bs, r2⟩ := Dp.reads I e y u he ry
  exact SeqAt.compareEq_reads r1 r2 sd se (by have : min d.depth e.depth ≤ e.depth := Nat.min_le_right _ _; omega) ⟨.bl _, H, I, rfl, q⟩
end
section
variable {P : Program} {w : World} {K : PySem.W.Frag} {mg : Str → Option Value} {base : Heap} {f : Addr} {fd : FuncData}
/-! ### kind_of -/
abbrev sKind : Stmt := top 19
theorem scKind : FnScope ["value"] ["value"] (defScope sKind) := ⟨rfl, rfl, rfl, by decide +kernel, rfl, by decide +kernel, by decide +kernel⟩
def spKind : Sp := fun vs H Q _ => ∃ (d : D) (v : V), vs = [v] ∧ Rep H d v ∧ okD d = true ∧ Q (.str (kindD d)) H
variable {g1 g2 : Addr} {gd1 gd2 : FuncData}
theorem ok_kind (F : Fun K "kind_of" "kind_of" sKind f fd) (G1 : FnOk P w K mg base CX0 1 g1 gd1 ["value"] spIsL) (b1 : Binds K gd1 ["value"] []) (k1 : PySem.W.keepIn K (.ref g1) = true) (m1 : mg "is_list" = some (.ref g1))
    (G2 : FnOk P w K mg base CX0 1 g2 gd2 ["value"] spIsW) (b2 : Binds K gd2 ["value"] []) (k2 : PySem.W.keepIn K (.ref g2) = true) (m2 : mg "is_word" = some (.ref g2))
    {dP : Addr} {es : Array DictEntry} {nP : Nat} (mP : mg "PARTS" = some (.ref dP)) (KD : KDict K w dP es nP) (hP : ∀ s ∈ words16, ∃ r, PySem.W.nsIn K dP s = some r ∧ r.isSome = parts7.contains s) :
    FnOk P w K mg base CX0 2 f fd ["value"] spKind := by
  refine F.ok scKind (fun vs H Q E h => ?_) (fun cdv A outer s H vs Q E hr h => ?_)
  · obtain ⟨d, v, rfl, _⟩ := h
    rfl
  obtain ⟨d, v, rfl, rp, ok, q⟩ := h
  refine ⟨_, pss_cons (ps_if (pt_val (pe_call G2 hr rfl m2 k2 b2 .nil pass0 (pa_cons (pv 0) pa_nil))) (pss_one (ps_ret pe_str)) pss_nil)
    (pss_cons (ps_if (PW.pt (pw_or (pt_not (pt_val (pe_call G1 hr rfl m1 k1 b1 .nil pass0 (pa_cons (pv 0) pa_nil)))) (pw_or1 (pt_not (pt_truth (pv 0) (by intro _; rfl)))))) (pss_one (ps_ret pe_str)) pss_nil)
    (pss_cons (ps_if (PW.pt (pw_and (pt_val (pe_call G2 hr rfl m2 k2 b2 .nil pass0 (pa_cons (pe_ix ix_tup (pv 0) pe_int (fun _ _ => rfl)) pa_nil)))
        (pw_and1 (pt_cmpR (op_in_kd KD) (pe_ix ix_tup (pv 0) pe_int (fun _ _ => rfl)) (pe_glob (v := .ref dP) rfl mP rfl) (by rfl)))))
      (pss_one (ps_ret (pe_ix ix_tup (pv 0) pe_int (fun _ _ => rfl)))) pss_nil)
    (pss_one (ps_ret pe_str)))), ?_⟩
  refine ⟨_, rfl, d, v, rfl, rp, _, rfl, ?_⟩
  by_cases hw : isWd d = true
  · obtain ⟨s, rfl⟩ := wd_of hw
    refine iteT ?_
    exact q
  rw [Bool.eq_false_iff.mpr hw]
  refine iteF ?_
  refine ⟨_, rfl, d, v, rfl, rp, _, rfl, ?_⟩
  by_cases hl : isLs d = true
  · obtain ⟨ds, rfl⟩ := ls_of hl
    refine iteF ?_
    obtain ⟨p, xs, rfl, hp, hreps⟩ := rp
    refine ⟨_, rfl, _, .inr (.inl ⟨_, SqT.of hp, rfl⟩), ?_⟩
    cases ds with
    | nil =>
      cases hreps
      refine iteT ?_
      exact q
    | cons e r =>
      obtain ⟨x, r', rfl, hx, hr'⟩ := hreps
      have ok' : (okD e && okL r) = true := ok
      rw [Bool.and_eq_true] at ok'
      refine iteF ?_
      refine ⟨_, rfl, p, _, _, x, rfl, rfl, SqT.of hp, atI_nat (j := 0) rfl, e, x, rfl, hx, _, rfl, ?_⟩
      cases e with
      | wd s =>
        cases hx
        refine iteT ?_
        obtain ⟨ro, hro, hso⟩ := hP s (wd_in ok'.1)
        refine ⟨_, rfl, p, _, _, .str s, rfl, rfl, SqT.of hp, atI_nat (j := 0) rfl, s, ro, rfl, rfl, hro, _, rfl, ?_⟩
        rw [hso]
        have q' : Q (.str (if parts7.contains s then s else putK_)) H := q
        refine ite2 (fun c => ?_) (fun c => ?_)
        · rw [if_pos c] at q'
          exact ⟨_, rfl, p, _, _, _, rfl, rfl, SqT.of hp, atI_nat (j := 0) rfl, q'⟩
        · rw [if_neg c] at q'
          exact q'
      | bl _ => exact iteF (iteF q)
      | num _ => exact iteF (iteF q)
      | lst _ => exact iteF (iteF q)
  · rw [Bool.eq_false_iff.mpr hl]
    refine iteT (iteT ?_)
    cases d with
    | bl _ => exact q
    | num _ => exact q
    | wd _ => exact absurd rfl hw
    | lst _ => exact absurd rfl hl
end
end K1
namespace K1
open PySem L2
theorem parts7_in : ∀ s ∈ words16, inV (.str s) (parts7.map V.str) = parts7.contains s := by decide +kernel
section
variable {P : Program} {w : World} {K : PySem.W.Frag} {mg : Str → Option Value} {base : Heap} {f : Addr} {fd : FuncData}
/-! ### _law_kind -/
abbrev sLK : Stmt := top 27
theorem scLK : FnScope ["_law_thing"] ["_law_thing"] (defScope sLK) := ⟨rfl, rfl, rfl, by decide +kernel, rfl, by decide +kernel, by decide +kernel⟩
def spLK : Sp := fun vs H Q _ => ∃ (d : D) (v : V), vs = [v] ∧ Rep H d v ∧ okD d = true ∧ ∀ H', Same H H' → Q (.str (kindD d)) H'
theorem ok_lk (F : Fun K "_law_kind" "_law_kind" sLK f fd) (mi : mg "isinstance" = none) (ms : mg "str" = none) (mt : mg "tuple" = none) : FnOk P w K mg base CX0 1 f fd ["_law_thing"] spLK := by
  refine F.ok scLK (fun vs H Q E h => ?_) (fun cdv A outer s H vs Q E hr h => ?_)
  · obtain ⟨d, v, rfl, _⟩ := h
    rfl
  obtain ⟨d, v, rfl, rp, ok, q⟩ := h
  have hu : (A.deeper (PyProof.Rows.envOfC "_law_kind" (defScope sLK) s.heap.objs.size f cdv)).units + 8 < cLine := Nat.lt_of_le_of_lt (Nat.add_le_add_left (by decide) _) hr.units
  refine ⟨_, pss_cons (ps_if (pt_val (pe_callB call_isi rfl mi (by decide +kernel) (pa_cons (pv 0) (pa_cons (pe_bltn (v := .ty "str") rfl ms (by decide +kernel) rfl) pa_nil)))) (pss_one (ps_ret pe_str)) pss_nil)
    (pss_cons (ps_if (PW.pt (pw_or (pt_not (pt_val (pe_callB call_isi rfl mi (by decide +kernel) (pa_cons (pv 0) (pa_cons (pe_bltn (v := .ty "tuple") rfl mt (by decide +kernel) rfl) pa_nil)))))
        (pw_or1 (pt_cmpR (op_eqN hu) (pv 0) (pe_tup pa_nil) (nomark _))))) (pss_one (ps_ret pe_str)) pss_nil)
    (pss_cons (ps_if (PW.pt (pw_and (pt_val (pe_callB call_isi rfl mi (by decide +kernel) (pa_cons (pe_ix ix_tup (pv 0) pe_int (fun _ _ => rfl)) (pa_cons (pe_bltn (v := .ty "str") rfl ms (by decide +kernel) rfl) pa_nil))))
        (pw_and1 (pt_cmpR op_in_seq (pe_ix ix_tup (pv 0) pe_int (fun _ _ => rfl)) (pe_tup (pa_cons pe_str (pa_cons pe_str (pa_cons pe_str (pa_cons pe_str (pa_cons pe_str (pa_cons pe_str (pa_cons pe_str pa_nil)))))))) (by rfl)))))
      (pss_one (ps_ret (pe_ix ix_tup (pv 0) pe_int (fun _ _ => rfl)))) pss_nil)
    (pss_one (ps_ret pe_str)))), ?_⟩
  refine ⟨_, rfl, _, _, _, _, _, rfl, .ty "str", rp.ty, kit_str d, _, rfl, ?_⟩
  by_cases hw : isWd d = true
  · obtain ⟨s, rfl⟩ := wd_of hw
    refine iteT ?_
    exact q H (Same.refl _)
  rw [Bool.eq_false_iff.mpr hw]
  refine iteF ?_
  refine ⟨_, rfl, _, _, _, _, _, rfl, .ty "tuple", rp.ty, kit_tuple d, _, rfl, ?_⟩
  by_cases hl : isLs d = true
  · obtain ⟨ds, rfl⟩ := ls_of hl
    refine iteF ?_
    have lay := lay_of ok
    have dpd := rp.dp (K := K)
    obtain ⟨p, xs, rfl, hp, hreps⟩ := rp
    refine ⟨_, rfl, (by show 0 ≤ sizeLine; decide), fun p0 hp0 => ?_⟩
    have rp' : Rep (upd H p0 (.tup [])) (.lst ds) (.ref p) := ⟨p, xs, rfl, (Tups.new hp0 _) _ _ hp, hreps.mono (Tups.new hp0 _)⟩
    have hp' : upd H p0 (.tup []) p = some (.tup xs) := (Tups.new hp0 _) _ _ hp
    have hreps' := hreps.mono (Tups.new hp0 (.tup []))
    have sm' : Same H (upd H p0 (.tup [])) := same_new hp0 _
    refine ⟨_, .tuple [], rp'.dp, .tup (SqT.of upd_same) .nil, lay, rfl, (by decide), _, rfl, ?_⟩
    cases ds with
    | nil =>
      refine iteT ?_
      exact q _ sm'
    | cons e r =>
      obtain ⟨x, r', rfl, hx, hr'⟩ := hreps'
      have ok' : (okD e && okL r) = true := ok
      rw [Bool.and_eq_true] at ok'
      refine iteF ?_
      refine ⟨_, rfl, p, _, _, x, rfl, rfl, SqT.of hp', atI_nat (j := 0) rfl, _, _, _, _, _, rfl, .ty "str", hx.ty, kit_str e, _, rfl, ?_⟩
      cases e with
      | wd s =>
        cases hx
        refine iteT ?_
        refine ⟨_, rfl, p, _, _, .str s, rfl, rfl, SqT.of hp', atI_nat (j := 0) rfl, (by show 7 ≤ sizeLine; decide), fun p1 hp1 => ?_⟩
        refine ⟨p1, parts7.map V.str, rfl, .inr (SqT.of upd_same), rfl, rfl, _, rfl, ?_⟩
        have hs := parts7_in s (wd_in ok'.1)
        have sm2 : Same H (upd (upd H p0 (.tup [])) p1 (.tup (parts7.map V.str))) := sm'.trans (same_new hp1 _)
        have q' : Q (.str (if parts7.contains s then s else putK_)) _ := q _ sm2
        have e0 : (if false = true then !inV (V.str s) (parts7.map V.str) else inV (V.str s) (parts7.map V.str)) = parts7.contains s := hs
        rw [e0]
        refine ite2 (fun c => ?_) (fun c => ?_)
        · rw [if_pos c] at q'
          exact ⟨_, rfl, p, _, _, _, rfl, rfl, SqT.of ((Tups.new hp1 _) _ _ hp'), atI_nat (j := 0) rfl, q'⟩
        · rw [if_neg c] at q'
          exact q'
      | bl _ => exact iteF (iteF (q _ sm'))
      | num _ => exact iteF (iteF (q _ sm'))
      | lst _ => exact iteF (iteF (q _ sm'))
  · rw [Bool.eq_false_iff.mpr hl]
    refine iteT (iteT ?_)
    cases d with
    | bl _ => exact q H (Same.refl _)
    | num _ => exact q H (Same.refl _)
    | wd _ => exact absurd rfl hw
    | lst _ => exact absurd rfl hl
/-! ### _law_leaf_text -/
abbrev sLT : Stmt := top 25
theorem scLT : FnScope ["_law_item"] ["_law_item"] (defScope sLT) := ⟨rfl, rfl, rfl, by decide +kernel, rfl, by decide +kernel, by decide +kernel⟩
def spLT : Sp := fun vs H Q _ => ∃ (d : D), vs = [valOf d] ∧ isLeaf d = true ∧ okD d = true ∧ ∀ H', Same H H' → Q (.str (mk (said d))) H'
theorem ok_lt (F : Fun K "_law_leaf_text" "_law_leaf_text" sLT f fd) (mi : mg "isinstance" = none) (ms : mg "str" = none) (ml : mg "list" = none) (mb : mg "bool" = none) (mn : mg "int" = none) : FnOk P w K mg base CX0 1 f fd ["_law_item"] spLT := by
  refine F.ok scLT (fun vs H Q E h => ?_) (fun cdv A outer s H vs Q E hr h => ?_)
  · obtain ⟨d, rfl, _⟩ := h
    rfl
  obtain ⟨d, rfl, hlf, ok, q⟩ := h
  refine ⟨_, pss_cons (ps_if (pt_val (pe_callB call_isi rfl mi (by decide +kernel) (pa_cons (pv 0) (pa_cons (pe_bltn (v := .ty "list") rfl ml (by decide +kernel) rfl) pa_nil)))) (pss_cons ps_never (pss_one ps_never)) pss_nil)
    (pss_cons (ps_if (pt_val (pe_callB call_isi rfl mi (by decide +kernel) (pa_cons (pv 0) (pa_cons (pe_bltn (v := .ty "bool") rfl mb (by decide +kernel) rfl) pa_nil))))
      (pss_one (ps_ret (pe_ix ix_list (pe_lst (pa_cons pe_str (pa_cons pe_str pa_nil))) (pe_callTy call_int1 rfl mn (by decide +kernel) (pa_cons (pv 0) pa_nil)) (fun _ _ => rfl)))) pss_nil)
    (pss_one (ps_ret (pe_callTy call_str_any rfl ms (by decide +kernel) (pa_cons (pv 0) pa_nil))))), ?_⟩
  refine ⟨_, rfl, _, _, _, _, _, rfl, .ty "list", (Rep.ofLeaf (H := H) hlf).ty, kit_list d, _, rfl, iteF ?_⟩
  refine ⟨_, rfl, _, _, _, _, _, rfl, .ty "bool", (Rep.ofLeaf (H := H) hlf).ty, kit_bool d, _, rfl, ?_⟩
  cases d with
  | lst _ => exact Bool.noConfusion hlf
  | bl b =>
    refine iteT ?_
    refine ⟨(by show 2 ≤ sizeLine; decide), fun p hp => ?_⟩
    refine ⟨_, rfl, .inr ⟨b, rfl, ?_⟩⟩
    cases b with
    | true =>
      have e : (Str.ofString "yes") = mk yesT := by decide +kernel
      refine ⟨p, _, _, _, rfl, rfl, SqL.of upd_same, atI_nat (j := 1) rfl, ?_⟩
      rw [e]; exact q _ (same_new hp _)
    | false =>
      have e : (Str.ofString "no") = mk noT := by decide +kernel
      refine ⟨p, _, _, _, rfl, rfl, SqL.of upd_same, atI_nat (j := 0) rfl, ?_⟩
      rw [e]; exact q _ (same_new hp _)
  | num n =>
    have hlog : n.natAbs.log2 < 1920 := by
      have ok : numOk n = true := ok
      unfold numOk at ok
      simp only [Bool.and_eq_true, decide_eq_true_eq] at ok
      exact ok.1
    refine iteF ⟨_, rfl, .inl ⟨n, rfl, hlog, ?_⟩⟩
    have e : mk (said (.num n)) = Str.ofString (toString n) := mk_tl _
    rw [← e]; exact q H (Same.refl _)
  | wd n =>
    refine iteF ⟨_, rfl, .inr ⟨n, rfl, ?_⟩⟩
    have e : mk (said (.wd n)) = n := mk_tl _
    rw [← e]; exact q H (Same.refl _)
end
end K1
namespace K1
open PySem L2
/-- nothing is asked of a promise that can't be asked -/
theorem ok_no {P : Program} {w : World} {K : PySem.W.Frag} {mg : Str → Option Value} {base : Heap} {f : Addr} {fd : FuncData} {ps : List Str} {sp : Sp} {k : Nat} (no : ∀ vs H Q E, ¬ sp vs H Q E) : FnOk P w K mg base CX0 k f fd ps sp :=
  ⟨fun vs H Q E h => absurd h (no vs H Q E), fun _ _ _ H _ _ vs Q E _ _ _ _ h => absurd h (no vs H Q E)⟩
theorem mk_app (a b : List Nat) : mk a ++ mk b = mk (a ++ b) := by
  apply TL.ext_tl
  rw [TL.tl_append]
  rfl
theorem joinL_said (ds : List D) : TL.joinL [32] (ds.map said) = sl ds := by
  cases ds with
  | nil => rfl
  | cons d r =>
    show TL.joinL [32] (said d :: r.map said) = said d ++ sr r
    induction r generalizing d with
    | nil => show said d = said d ++ []; simp
    | cons e r ih =>
      show said d ++ ([32] ++ TL.joinL [32] (said e :: r.map said)) = said d ++ (32 :: (said e ++ sr r))
      rw [ih e]; rfl
theorem join_said (ds : List D) : Txt.join (mk [32]) (ds.map fun d => mk (said d)) = mk (sl ds) := by
  rw [TL.join_eq]
  apply TL.ext_tl
  rw [TL.tl_join, List.map_map]
  exact joinL_said ds
theorem sum_said (ds : List D) : ((ds.map fun d => mk (said d)).map (·.length)).sum + ds.length = (sr ds).length := by
  induction ds with
  | nil => rfl
  | cons d r ih =>
    show (mk (said d)).length + ((r.map fun d => mk (said d)).map (·.length)).sum + (r.length + 1) = (32 :: (said d ++ sr r)).length
    rw [len_mk, List.length_cons, List.length_append]
    omega
theorem sr_sl (ds : List D) : (sr ds).length ≤ (sl ds).length + 1 := by
  cases ds with
  | nil => exact Nat.zero_le _
  | cons d r => exact Nat.le_refl _
theorem sl_get : ∀ {ds : List D} {i : Nat} {d : D}, ds[i]? = some d → (said d).length < (sr ds).length
  | [], _, _, h => by simp at h
  | e :: r, 0, d, h => by
    cases (show some e = some d from h)
    show (said e).length < (32 :: (said e ++ sr r)).length
    rw [List.length_cons, List.length_append]; omega
  | e :: r, i + 1, d, h => by
    have := sl_get (ds := r) (i := i) h
    show (said d).length < (32 :: (said e ++ sr r)).length
    rw [List.length_cons, List.length_append]; omega
theorem depth_get : ∀ {ds : List D} {i : Nat} {d : D}, ds[i]? = some d → depth d ≤ depths ds
  | [], _, _, h => by simp at h
  | e :: r, 0, d, h => by
    cases (show some e = some d from h)
    exact Nat.le_max_left _ _
  | e :: r, i + 1, d, h => Nat.le_trans (depth_get (ds := r) (i := i) h) (Nat.le_max_right _ _)
section
variable {P : Program} {w : World} {K : PySem.W.Frag} {mg : Str → Option Value} {base : Heap} {f : Addr} {fd : FuncData}
/-! ### _law_said -/
abbrev sSaid : Stmt := top 26
theorem scSaid : FnScope ["_law_item", "_law_part"] ["_law_item"] (defScope sSaid) := ⟨rfl, rfl, rfl, by decide +kernel, rfl, by decide +kernel, by decide +kernel⟩
def spSaid (n : Nat) : Sp := fun vs H Q _ => ∃ (d : D) (v : V), vs = [v] ∧ Rep H d v ∧ okD d = true ∧ depth d < n ∧ (said d).length ≤ 200000 ∧ ∀ H', Same H H' → Q (.str (mk (said d))) H'
variable {g1 : Addr} {gd1 : FuncData}
theorem ok_said1 {n : Nat} (F : Fun K "_law_said" "_law_said" sSaid f fd) (mi : mg "isinstance" = none) (mt : mg "tuple" = none)
    (G1 : FnOk P w K mg base CX0 1 g1 gd1 ["_law_item"] spLT) (b1 : Binds K gd1 ["_law_item"] []) (k1 : PySem.W.keepIn K (.ref g1) = true) (m1 : mg "_law_leaf_text" = some (.ref g1))
    (G : FnOk P w K mg base CX0 (n + 1) f fd ["_law_item"] (spSaid n)) (bS : Binds K fd ["_law_item"] []) (mS : mg "_law_said" = some (.ref f)) : FnOk P w K mg base CX0 (n + 2) f fd ["_law_item"] (spSaid (n + 1)) := by
  refine F.ok scSaid (fun vs H Q E h => ?_) (fun cdv A outer s H vs Q E hr h => ?_)
  · obtain ⟨d, v, rfl, _⟩ := h
    rfl
  obtain ⟨d, v, rfl, rp, ok, hdp, hsz, q⟩ := h
  refine ⟨_, pss_cons (ps_if (pt_val (pe_callB call_isi rfl mi (by decide +kernel) (pa_cons (pv 0) (pa_cons (pe_bltn (v := .ty "tuple") rfl mt (by decide +kernel) rfl) pa_nil))))
      (pss_one (ps_ret (pe_op op_add_str (pe_op op_add_str pe_str (pe_join pe_str
        (pe_lc (own := [("_law_part", 1)]) (g := gName 1) (tt := tYes) rfl scSaid.nd (pi_tup (pv 0)) (blkOk_by (N := ["_law_item", "_law_part"]) (sc := defScope sSaid) (by decide +kernel))
          (fun _ _ _ _ _ => pg_name (i := 1) scSaid.nd rfl (Or.inl rfl)) (fun _ _ _ _ _ => pts_nil) (fun _ _ _ _ _ => pe_call G hr rfl mS F.kp bS .nil pass0 (pa_cons (pv 1) pa_nil))))) pe_str))) pss_nil)
    (pss_one (ps_ret (pe_call G1 (hr.mono (by omega)) rfl m1 k1 b1 .nil pass0 (pa_cons (pv 0) pa_nil)))), ?_⟩
  have s40 : (Str.ofString "(") = mk [40] := by decide +kernel
  have s41 : (Str.ofString ")") = mk [41] := by decide +kernel
  have s32 : (Str.ofString " ") = mk [32] := by decide +kernel
  rw [s40, s41, s32]
  refine ⟨_, rfl, _, _, _, _, _, rfl, .ty "tuple", rp.ty, kit_tuple d, _, rfl, ?_⟩
  by_cases hl : isLs d = true
  · obtain ⟨ds, rfl⟩ := ls_of hl
    refine iteT ?_
    obtain ⟨p, xs, rfl, hp, hreps⟩ := rp
    have okd : okL ds = true := ok
    have hdp' : depths ds + 1 < n + 1 := hdp
    have hsl : (said (.lst ds)).length = (sl ds).length + 2 := by
      show (40 :: (sl ds ++ [41])).length = _
      rw [List.length_cons, List.length_append]; rfl
    have hsr := sr_sl ds
    have hxl := hreps.length
    have hsum := sum_said ds
    have esz := sizeLine_eq
    refine ⟨⟨_, rfl⟩, _, rfl, p, rfl, ⟨_, SqT.of hp⟩, fun L hL => ?_⟩
    refine lc_tup (xs := xs) (fun i H'' => H'' L = some (.lst ((ds.take i).map fun d => V.str (mk (said d)))) ∧ Same H H'') ⟨upd_same, same_new hL _⟩ (fun i H'' _ h => SqT.of (h.2 _ _ hp)) ?_ ?_
    · rintro i x H1 hx ⟨hL1, sm1⟩
      obtain ⟨e, he, hre⟩ := hreps.get hx
      have h1 := depth_get he
      have h2 := sl_get he
      have hi : i < ds.length := (List.getElem?_eq_some_iff.mp he).1
      have hlen : ds.length ≤ (sr ds).length := by omega
      refine ⟨rfl, ?_⟩
      unfold tYes
      refine iteT ?_
      refine ⟨_, rfl, e, x, rfl, hre.mono (Tups.of sm1), okL_get okd he, by omega, by omega, fun H4 sm4 => ⟨_, sm4 _ _ hL1, ?_, ?_, ?_⟩⟩
      · rw [List.length_map, List.length_take]; omega
      · rw [upd_same, List.take_add_one, he]; simp
      · exact same_upd (sm1.trans sm4) hL _
    · rintro H1 ⟨hL1, sm1⟩
      rw [hxl, List.take_length] at hL1
      have e1 : (ds.map fun d => mk (said d)).map V.str = ds.map fun d => V.str (mk (said d)) := by rw [List.map_map]; rfl
      refine ⟨mk [32], L, ds.map fun d => mk (said d), rfl, rfl, .inl (SqL.of (by rw [e1]; exact hL1)), ?_, ?_⟩
      · rw [List.length_map]
        have : (mk [32]).length = 1 := rfl
        rw [this]; omega
      · rw [join_said]
        refine ⟨_, _, rfl, rfl, ?_, _, _, rfl, rfl, ?_, ?_⟩
        · rw [len_mk, len_mk]
          show 1 + _ ≤ _
          omega
        · rw [mk_app, len_mk, len_mk]
          show (sl ds).length + 1 + 1 ≤ _
          omega
        · rw [mk_app, mk_app]
          exact q _ sm1
  · rw [Bool.eq_false_iff.mpr hl]
    refine iteF ?_
    have hlf : isLeaf d = true := by
      cases d with
      | lst _ => exact absurd rfl hl
      | bl _ => rfl
      | num _ => rfl
      | wd _ => rfl
    cases (rp.leaf hlf)
    exact ⟨_, rfl, d, rfl, hlf, ok, q⟩
theorem ok_said (F : Fun K "_law_said" "_law_said" sSaid f fd) (mi : mg "isinstance" = none) (mt : mg "tuple" = none)
    (G1 : FnOk P w K mg base CX0 1 g1 gd1 ["_law_item"] spLT) (b1 : Binds K gd1 ["_law_item"] []) (k1 : PySem.W.keepIn K (.ref g1) = true) (m1 : mg "_law_leaf_text" = some (.ref g1))
    (bS : Binds K fd ["_law_item"] []) (mS : mg "_law_said" = some (.ref f)) : ∀ n : Nat, FnOk P w K mg base CX0 (n + 1) f fd ["_law_item"] (spSaid n)
  | 0 => ok_no fun vs H Q E h => by
    obtain ⟨d, v, _, _, _, h, _⟩ := h
    omega
  | n + 1 => ok_said1 F mi mt G1 b1 k1 m1 (ok_said F mi mt G1 b1 k1 m1 bS mS n) bS mS
/-! ### _law_one_kind -/
theorem walk_zipT {a b : Addr} {xs ys : List V} (hl : xs.length = ys.length) : Walk (RZ.ItzT K a b) xs.length (fun H => SqT K H a xs ∧ SqT K H b ys) (YPair (fun i => xs[i]?) (fun i => ys[i]?)) := by
  refine ⟨fun i _ hi q => ?_, fun _ q => ⟨xs, ys, q.1, q.2, by omega⟩, fun i H v H' _ q y => ?_⟩
  · have h2 : i < ys.length := by omega
    exact ⟨xs, ys, xs[i], ys[i], q.1, q.2, by simp [hi], by simp [h2]⟩
  · obtain ⟨T, x, z, h1, h2, h3, h4, h5⟩ := y
    exact ⟨T, x, z, h1, h2, h3, h4 xs q.1, h5 ys q.2⟩
abbrev sOne : Stmt := top 29
theorem scOne : FnScope ["_law_one", "_law_other", "_law_part", "_law_more"] ["_law_one", "_law_other"] (defScope sOne) := ⟨rfl, rfl, rfl, by decide +kernel, rfl, by decide +kernel, by decide +kernel⟩
def spOne (n : Nat) : Sp := fun vs H Q _ => ∃ (d : D) (v u : V), vs = [v, u] ∧ Rep H d v ∧ Rep H d u ∧ depth d < n ∧ (said d).length ≤ 200000 ∧ ∀ H', Same H H' → Q (.bl true) H'
theorem ok_one1 {n : Nat} (F : Fun K "_law_one_kind" "_law_one_kind" sOne f fd) (mi : mg "isinstance" = none) (mt : mg "tuple" = none) (mb : mg "bool" = none) (mn : mg "int" = none) (ms : mg "str" = none) (ml : mg "len" = none) (ma : mg "all" = none) (mz : mg "zip" = none)
    (G : FnOk P w K mg base CX0 n f fd ["_law_one", "_law_other"] (spOne n)) (bS : Binds K fd ["_law_one", "_law_other"] []) (mS : mg "_law_one_kind" = some (.ref f)) : FnOk P w K mg base CX0 (n + 1) f fd ["_law_one", "_law_other"] (spOne (n + 1)) := by
  refine F.ok scOne (fun vs H Q E h => ?_) (fun cdv A outer s H vs Q E hr h => ?_)
  · obtain ⟨d, v, u, rfl, _⟩ := h
    rfl
  obtain ⟨d, v, u, rfl, rp, ru, hdp, hsz, q⟩ := h
  refine ⟨_, pss_cons (ps_if (pt_val (pe_callB call_isi rfl mi (by decide +kernel) (pa_cons (pv 1) (pa_cons (pe_bltn (v := .ty "bool") rfl mb (by decide +kernel) rfl) pa_nil))))
      (pss_one (ps_ret (pe_and (pe_callB call_isi rfl mi (by decide +kernel) (pa_cons (pv 0) (pa_cons (pe_bltn (v := .ty "bool") rfl mb (by decide +kernel) rfl) pa_nil))) (pe_one (pe_cmpR op_eq (pv 0) (pv 1) (nomark _)))))) pss_nil)
    (pss_cons (ps_if (pt_val (pe_callB call_isi rfl mi (by decide +kernel) (pa_cons (pv 1) (pa_cons (pe_bltn (v := .ty "int") rfl mn (by decide +kernel) rfl) pa_nil))))
      (pss_one (ps_ret (pe_and (pe_callB call_isi rfl mi (by decide +kernel) (pa_cons (pv 0) (pa_cons (pe_bltn (v := .ty "int") rfl mn (by decide +kernel) rfl) pa_nil)))
        (pe_and (pe_not (pe_callB call_isi rfl mi (by decide +kernel) (pa_cons (pv 0) (pa_cons (pe_bltn (v := .ty "bool") rfl mb (by decide +kernel) rfl) pa_nil)))) (pe_one (pe_cmpR op_eq (pv 0) (pv 1) (nomark _))))))) pss_nil)
    (pss_cons (ps_if (pt_val (pe_callB call_isi rfl mi (by decide +kernel) (pa_cons (pv 1) (pa_cons (pe_bltn (v := .ty "str") rfl ms (by decide +kernel) rfl) pa_nil))))
      (pss_one (ps_ret (pe_and (pe_callB call_isi rfl mi (by decide +kernel) (pa_cons (pv 0) (pa_cons (pe_bltn (v := .ty "str") rfl ms (by decide +kernel) rfl) pa_nil))) (pe_one (pe_cmpR op_eq (pv 0) (pv 1) (nomark _)))))) pss_nil)
    (pss_cons (ps_if (PW.pt (pw_or (pt_not (pt_val (pe_callB call_isi rfl mi (by decide +kernel) (pa_cons (pv 0) (pa_cons (pe_bltn (v := .ty "tuple") rfl mt (by decide +kernel) rfl) pa_nil)))))
        (pw_or1 (pt_cmpR op_ne (pe_callB call_len_seq rfl ml PySem.boot_len (pa_cons (pv 0) pa_nil)) (pe_callB call_len_seq rfl ml PySem.boot_len (pa_cons (pv 1) pa_nil)) (nomark _))))) (pss_one (ps_ret pe_bl)) pss_nil)
    (pss_one (ps_ret (pe_callB (cr_all rfl) rfl ma (by decide +kernel) (pa_cons
      (pe_lc (own := [("_law_part", 2), ("_law_more", 3)]) (g := gTup K 2 (gCons (gName 2) (gCons (gName 3) gNil))) (tt := tYes) rfl scOne.nd (RZ.pi_zipA rfl mz (pa_cons (pv 0) (pa_cons (pv 1) pa_nil))) (blkOk_by (N := ["_law_one", "_law_other", "_law_part", "_law_more"]) (sc := defScope sOne) (by decide +kernel))
        (fun _ _ _ _ _ => pg_tup (by rfl) (pgs_cons (pg_name (i := 2) scOne.nd rfl (Or.inl rfl)) (pgs_cons (pg_name (i := 3) scOne.nd rfl (Or.inl rfl)) pgs_nil))) (fun _ _ _ _ _ => pts_nil)
        (fun _ _ _ _ _ => pe_call G hr rfl mS F.kp bS .nil pass0 (pa_cons (pv 2) (pa_cons (pv 3) pa_nil)))) pa_nil))))))), ?_⟩
  refine ⟨_, rfl, _, _, _, _, _, rfl, .ty "bool", ru.ty, kit_bool d, _, rfl, ?_⟩
  cases d with
  | bl b =>
    cases rp; cases ru
    refine iteT ?_
    refine ⟨_, rfl, _, _, _, _, _, rfl, .ty "bool", .base (.bl b), kit_bool (.bl b), _, rfl, iteT ?_⟩
    refine ⟨_, rfl, _, rfl, rfl, ?_⟩
    rw [decide_eq_true rfl]
    exact q _ (Same.refl _)
  | num b =>
    cases rp; cases ru
    refine iteF ?_
    refine ⟨_, rfl, _, _, _, _, _, rfl, .ty "int", .base (.int b), kit_int (.num b), _, rfl, iteT ?_⟩
    refine ⟨_, rfl, _, _, _, _, _, rfl, .ty "int", .base (.int b), kit_int (.num b), _, rfl, iteT ?_⟩
    refine ⟨_, rfl, _, _, _, _, _, rfl, .ty "bool", .base (.int b), kit_bool (.num b), _, rfl, _, rfl, iteT ?_⟩
    refine ⟨_, rfl, _, rfl, rfl, ?_⟩
    rw [decide_eq_true rfl]
    exact q _ (Same.refl _)
  | wd b =>
    cases rp; cases ru
    refine iteF ?_
    refine ⟨_, rfl, _, _, _, _, _, rfl, .ty "int", .base (.str b), kit_int (.wd b), _, rfl, iteF ?_⟩
    refine ⟨_, rfl, _, _, _, _, _, rfl, .ty "str", .base (.str b), kit_str (.wd b), _, rfl, iteT ?_⟩
    refine ⟨_, rfl, _, _, _, _, _, rfl, .ty "str", .base (.str b), kit_str (.wd b), _, rfl, iteT ?_⟩
    refine ⟨_, rfl, _, rfl, rfl, ?_⟩
    rw [decide_eq_true rfl]
    exact q _ (Same.refl _)
  | lst ds =>
    refine iteF ?_
    refine ⟨_, rfl, _, _, _, _, _, rfl, .ty "int", ru.ty, kit_int (.lst ds), _, rfl, iteF ?_⟩
    refine ⟨_, rfl, _, _, _, _, _, rfl, .ty "str", ru.ty, kit_str (.lst ds), _, rfl, iteF ?_⟩
    refine ⟨_, rfl, _, _, _, _, _, rfl, .ty "tuple", rp.ty, kit_tuple (.lst ds), _, rfl, iteF ?_⟩
    obtain ⟨a, xs, rfl, ha, hxs⟩ := rp
    obtain ⟨b, ys, rfl, hb, hys⟩ := ru
    have hxl := hxs.length
    have hyl := hys.length
    refine ⟨_, rfl, a, _, rfl, .inr (SqT.of ha), _, rfl, b, _, rfl, .inr (SqT.of hb), rfl, _, rfl, ?_⟩
    rw [hxl, hyl]
    refine iteNS rfl ?_
    have hsl : (said (.lst ds)).length = (sl ds).length + 2 := by
      show (40 :: (sl ds ++ [41])).length = _
      rw [List.length_cons, List.length_append]; rfl
    have hsr := sr_sl ds
    have hsum := sum_said ds
    have hdp' : depths ds + 1 < n + 1 := hdp
    have esz := sizeLine_eq
    refine ⟨_, rfl, _, rfl, a, b, xs, ys, rfl, .inr ⟨SqT.of ha, SqT.of hb, fun L hL => ?_⟩⟩
    refine lc_it (walk_zipT (hxl.trans hyl.symm)) (fun i H'' => H'' L = some (.lst ((List.replicate i true).map V.bl)) ∧ i ≤ ds.length ∧ Same H H'') ⟨upd_same, Nat.zero_le _, same_new hL _⟩ (fun i H'' _ h => ⟨SqT.of (h.2.2 _ _ ha), SqT.of (h.2.2 _ _ hb)⟩) ?_ ?_
    · rintro i x H1 H2 hi ⟨hL1, hi2, sm1⟩ ⟨T, x1, y1, rfl, hT, rfl, h1, h2⟩
      obtain ⟨e, he, hre⟩ := hxs.get h1
      obtain ⟨e', he', hre'⟩ := hys.get h2
      rw [he] at he'
      cases he'
      have g1 := depth_get he
      have g2 := sl_get he
      have hi3 : i < ds.length := (List.getElem?_eq_some_iff.mp he).1
      refine ⟨T, _, rfl, SqT.of upd_same, rfl, _, _, rfl, _, _, rfl, rfl, rfl, ?_⟩
      unfold tYes
      refine iteT ?_
      have tT : Tups H (upd H1 T (.tup [x1, y1])) := (Tups.of sm1).trans (Tups.new hT _)
      refine ⟨_, rfl, _, rfl, e, x1, y1, rfl, hre.mono tT, hre'.mono tT, by omega, by omega, fun H4 sm4 => ⟨_, sm4 _ _ (same_new hT _ _ _ hL1), ?_, ?_, hi3, ?_⟩⟩
      · rw [List.length_map, List.length_replicate]; omega
      · rw [upd_same, List.replicate_succ', List.map_append]; rfl
      · exact same_upd ((sm1.trans (same_new hT _)).trans sm4) hL _
    · rintro H1 ⟨hL1, _, sm1⟩
      refine ⟨L, List.replicate xs.length true, rfl, SqL.of hL1, ?_⟩
      have e1 : (List.replicate xs.length true).all id = true := by simp
      rw [e1]
      exact q _ sm1
theorem ok_one (F : Fun K "_law_one_kind" "_law_one_kind" sOne f fd) (mi : mg "isinstance" = none) (mt : mg "tuple" = none) (mb : mg "bool" = none) (mn : mg "int" = none) (ms : mg "str" = none) (ml : mg "len" = none) (ma : mg "all" = none) (mz : mg "zip" = none)
    (bS : Binds K fd ["_law_one", "_law_other"] []) (mS : mg "_law_one_kind" = some (.ref f)) : ∀ n : Nat, FnOk P w K mg base CX0 n f fd ["_law_one", "_law_other"] (spOne n)
  | 0 => ok_no fun vs H Q E h => by
    obtain ⟨d, v, u, _, _, _, h, _⟩ := h
    omega
  | n + 1 => ok_one1 F mi mt mb mn ms ml ma mz (ok_one F mi mt mb mn ms ml ma mz bS mS n) bS mS
end
end K1
namespace K1
open PySem L2
section
variable {X : Cx}
theorem op_powW : OpR X (binaryOp .Pow) (rI (fun i j => 0 ≤ j ∧ (Builtin.Int.intBits i : Int) * j ≤ 2 ^ 27) fun i j => .int (i ^ j.toNat)) := opI fun _ _ _ _ _ _ _ hc q => PyProof.Rows.pow_int hc.1 hc.2 q
end
theorem m18 : (10 : Int) ^ (18 : Int).toNat = 1000000000000000000 := by decide +kernel
theorem m60 : (10 : Int) ^ (60 : Int).toNat = 1000000000000000000000000000000000000000000000000000000000000 := by decide +kernel
theorem m600 : (1000000000000000000000000000000000000000000000000000000000000 : Int) ^ (10 : Int).toNat = 10 ^ 600 := by decide +kernel
theorem lt600 : (10 : Int) ^ 600 < 2 ^ 2000 := by decide +kernel
section
variable {P : Program} {w : World} {K : PySem.W.Frag} {mg : Str → Option Value} {base : Heap} {f : Addr} {fd : FuncData}
/-! ### _law_mixed -/
abbrev sMix : Stmt := top 21
theorem scMix : FnScope ["_law_cell", "_law_k", "_law_number"] ["_law_cell", "_law_k"] (defScope sMix) := ⟨rfl, rfl, rfl, by decide +kernel, rfl, by decide +kernel, by decide +kernel⟩
abbrev M60 : Int := 1000000000000000000000000000000000000000000000000000000000007
def spMix : Sp := fun vs H Q _ => ∃ (c k : Int), vs = [.int c, .int k] ∧ 0 ≤ k ∧ k < 2 ^ 40 ∧ ∀ m, 0 ≤ m → m < M60 → Q (.int m) H
abbrev mixN (c k : Int) : Int := (c % (10 ^ (18 : Int).toNat + 9) + 7 * k) * 739108512309184756019283746561 + 7919 * k + 1
abbrev mixM (n : Int) : Int := n * n % (10 ^ (60 : Int).toNat + 7)
theorem ok_mix (F : Fun K "_law_mixed" "_law_mixed" sMix f fd) : FnOk P w K mg base CX0 1 f fd ["_law_cell", "_law_k"] spMix := by
  refine F.ok scMix (fun vs H Q E h => ?_) (fun cdv A outer s H vs Q E hr h => ?_)
  · obtain ⟨c, k, rfl, _⟩ := h
    rfl
  obtain ⟨c, k, rfl, hk0, hk1, q⟩ := h
  refine ⟨_, pss_cons (ps_set (i := 2) scMix.nd rfl (.inl rfl) (pe_op op_add (pe_op op_add (pe_op op_mul (pe_op op_add (pe_op op_mod (pv 0) (pe_op op_add (pe_op op_pow pe_int pe_int) pe_int)) (pe_op op_mul pe_int (pv 1))) pe_int) (pe_op op_mul pe_int (pv 1))) pe_int))
    (pss_cons (ps_set (i := 2) scMix.nd rfl (.inl rfl) (pe_op op_mod (pe_op op_mulW (pv 2) (pv 2)) (pe_op op_add (pe_op op_pow pe_int pe_int) pe_int)))
    (pss_one (ps_ret (pe_op op_mod (pe_op op_mulW (pe_op op_add (pv 2) pe_int) (pe_op op_add (pv 2) pe_int)) (pe_op op_add (pe_op op_pow pe_int pe_int) pe_int))))), ?_⟩
  have p0 : (0 : Int) < 10 ^ (18 : Int).toNat + 9 := by rw [m18]; decide
  have p1 : (0 : Int) < 10 ^ (60 : Int).toNat + 7 := by rw [m60]; decide
  have a0 := Int.emod_nonneg c (Int.ne_of_gt p0)
  have a1 := Int.emod_lt_of_pos c p0
  have hA : -(2 ^ 64) < c % (10 ^ (18 : Int).toNat + 9) + 7 * k ∧ c % (10 ^ (18 : Int).toNat + 9) + 7 * k < 2 ^ 64 := by
    rw [m18] at a0 a1 ⊢
    omega
  have hn1 : (mixN c k).natAbs < 2 ^ 170 := by
    unfold mixN
    rw [m18] at a0 a1 ⊢
    omega
  have b0 := Int.emod_nonneg (mixN c k * mixN c k) (Int.ne_of_gt p1)
  have b1 := Int.emod_lt_of_pos (mixN c k * mixN c k) p1
  have h1 : (mixM (mixN c k) + 40503).natAbs < 2 ^ 201 := by
    unfold mixM
    rw [m60] at b0 b1 ⊢
    omega
  have h2 : (mixM (mixN c k) + 57).natAbs < 2 ^ 201 := by
    unfold mixM
    rw [m60] at b0 b1 ⊢
    omega
  refine ⟨_, rfl, 10, 18, rfl, rfl, ⟨by decide, by decide, by decide⟩, _, _, rfl, rfl, _, _, rfl, rfl, p0, ?_⟩
  refine ⟨_, rfl, 7, k, rfl, rfl, .inl ⟨by decide, by decide⟩, _, _, rfl, rfl, ?_⟩
  refine ⟨_, _, rfl, rfl, .inl hA, ?_⟩
  refine ⟨_, rfl, 7919, k, rfl, rfl, .inl ⟨by decide, by decide⟩, _, _, rfl, rfl, _, _, rfl, rfl, ?_⟩
  refine ⟨_, rfl, _, rfl, mixN c k, mixN c k, rfl, rfl, wide_mul hn1 hn1 (by decide) (by decide) (by decide), ?_⟩
  refine ⟨10, 60, rfl, rfl, ⟨by decide, by decide, by decide⟩, _, _, rfl, rfl, _, _, rfl, rfl, p1, ?_⟩
  refine ⟨_, rfl, mixM (mixN c k), _, rfl, rfl, _, rfl, mixM (mixN c k), _, rfl, rfl, _, _, rfl, rfl, wide_mul h1 h2 (by decide) (by decide) (by decide), ?_⟩
  refine ⟨10, 60, rfl, rfl, ⟨by decide, by decide, by decide⟩, _, _, rfl, rfl, _, _, rfl, rfl, p1, ?_⟩
  refine q _ (Int.emod_nonneg _ (Int.ne_of_gt p1)) ?_
  have c1 := Int.emod_lt_of_pos ((mixM (mixN c k) + 40503) * (mixM (mixN c k) + 57)) p1
  have e : (10 : Int) ^ (60 : Int).toNat + 7 = M60 := by rw [m60]; rfl
  rw [e] at c1
  rw [e]
  exact c1
/-! ### _law_purse -/
abbrev sPur : Stmt := top 22
theorem scPur : FnScope ["_law_cell", "_law_k"] ["_law_cell", "_law_k"] (defScope sPur) := ⟨rfl, rfl, rfl, by decide +kernel, rfl, by decide +kernel, by decide +kernel⟩
def purse (a b c : Int) : List V := [.int a, .int b, .int c]
def PO (a b c : Int) : Prop := 0 ≤ a ∧ a < 2 ^ 2000 ∧ 0 ≤ b ∧ 0 ≤ c ∧ c < 2 ^ 61
def spPur : Sp := fun vs H Q _ => ∃ (c : Int), vs = [.int c, .int 1] ∧ ∀ a x p, PO a 0 x → H p = none → Q (.ref p) (upd H p (.lst (purse a 0 x)))
variable {g1 : Addr} {gd1 : FuncData}
theorem ok_pur (F : Fun K "_law_purse" "_law_purse" sPur f fd) (G1 : FnOk P w K mg base CX0 1 g1 gd1 ["_law_cell", "_law_k"] spMix) (b1 : Binds K gd1 ["_law_cell", "_law_k"] []) (k1 : PySem.W.keepIn K (.ref g1) = true) (m1 : mg "_law_mixed" = some (.ref g1)) :
    FnOk P w K mg base CX0 2 f fd ["_law_cell", "_law_k"] spPur := by
  refine F.ok scPur (fun vs H Q E h => ?_) (fun cdv A outer s H vs Q E hr h => ?_)
  · obtain ⟨c, rfl, _⟩ := h
    rfl
  obtain ⟨c, rfl, q⟩ := h
  refine ⟨_, pss_cons (ps_if (pt_cmpR op_ge (pv 0) (pe_op op_pow pe_int pe_int) (nomark _))
      (pss_one (ps_ret (pe_lst (pa_cons (pe_op op_mod (pe_op op_sub (pv 0) (pe_op op_pow pe_int pe_int)) (pe_op op_powW (pe_op op_pow pe_int pe_int) pe_int)) (pa_cons pe_int (pa_cons (pv 1) pa_nil)))))) pss_nil)
    (pss_one (ps_ret (pe_lst (pa_cons (pe_call G1 hr rfl m1 k1 b1 .nil pass0 (pa_cons (pv 0) (pa_cons (pv 1) pa_nil))) (pa_cons pe_int (pa_cons (pe_op op_add (pe_op op_mod (pv 0) (pe_op op_add (pe_op op_pow pe_int pe_int) pe_int)) (pv 1)) pa_nil)))))), ?_⟩
  refine ⟨_, rfl, 10, 18, rfl, rfl, ⟨by decide, by decide, by decide⟩, _, _, rfl, rfl, _, rfl, ?_⟩
  have p0 : (0 : Int) < 10 ^ (18 : Int).toNat + 9 := by rw [m18]; decide
  have p6 : (0 : Int) < (10 ^ (60 : Int).toNat) ^ (10 : Int).toNat := by rw [m60, m600]; decide +kernel
  refine ite2 (fun _ => ?_) (fun _ => ?_)
  · refine ⟨_, rfl, 10, 18, rfl, rfl, ⟨by decide, by decide, by decide⟩, _, _, rfl, rfl, ?_⟩
    refine ⟨10, 60, rfl, rfl, ⟨by decide, by decide, by decide⟩, _, _, rfl, rfl, ⟨by decide, ?_⟩, _, _, rfl, rfl, p6, ?_⟩
    · rw [m60]; decide +kernel
    · refine ⟨_, rfl, (by show 3 ≤ sizeLine; decide), fun p hp => ?_⟩
      refine q _ _ p ⟨Int.emod_nonneg _ (Int.ne_of_gt p6), ?_, by decide, by decide, by decide⟩ hp
      have h := Int.emod_lt_of_pos (c - 10 ^ (18 : Int).toNat) p6
      have e : ((10 : Int) ^ (60 : Int).toNat) ^ (10 : Int).toNat = 10 ^ 600 := by rw [m60, m600]
      rw [e] at h
      rw [e]
      exact Int.lt_trans h lt600
  · refine ⟨_, rfl, _, rfl, c, 1, rfl, by decide, by decide, fun m hm0 hm1 => ?_⟩
    have a0 := Int.emod_nonneg c (Int.ne_of_gt p0)
    have a1 := Int.emod_lt_of_pos c p0
    refine ⟨_, rfl, 10, 18, rfl, rfl, ⟨by decide, by decide, by decide⟩, _, _, rfl, rfl, _, _, rfl, rfl, p0, _, rfl, _, _, rfl, rfl, (by show 3 ≤ sizeLine; decide), fun p hp => ?_⟩
    rw [m18] at a0 a1
    rw [m18]
    refine q _ _ p ⟨hm0, ?_, by decide, by omega, by omega⟩ hp
    have : M60 < (2 : Int) ^ 2000 := by decide +kernel
    exact Int.lt_trans hm1 this
/-! ### _law_take -/
abbrev sTake : Stmt := top 23
theorem scTake : FnScope ["_law_purse_here", "_law_steps", "_law_got"] ["_law_purse_here", "_law_steps"] (defScope sTake) := ⟨rfl, rfl, rfl, by decide +kernel, rfl, by decide +kernel, by decide +kernel⟩
def spTake : Sp := fun vs H Q _ => ∃ (p : Addr) (n a b c : Int), vs = [.ref p, .int n] ∧ 1 ≤ n ∧ n ≤ 100 ∧ H p = some (.lst (purse a b c)) ∧ PO a b c ∧ b ≤ 100000 ∧
  ∀ r a' b', 0 ≤ r → r < n → PO a' b' c → b' ≤ b + 1 → Q (.int r) (upd H p (.lst (purse a' b' c)))
theorem ok_take (F : Fun K "_law_take" "_law_take" sTake f fd) (G1 : FnOk P w K mg base CX0 1 g1 gd1 ["_law_cell", "_law_k"] spMix) (b1 : Binds K gd1 ["_law_cell", "_law_k"] []) (k1 : PySem.W.keepIn K (.ref g1) = true) (m1 : mg "_law_mixed" = some (.ref g1)) :
    FnOk P w K mg base CX0 2 f fd ["_law_purse_here", "_law_steps"] spTake := by
  refine F.ok scTake (fun vs H Q E h => ?_) (fun cdv A outer s H vs Q E hr h => ?_)
  · obtain ⟨p, n, a, b, c, rfl, _⟩ := h
    rfl
  obtain ⟨p, n, a, b, c, rfl, hn1, hn2, hp, ⟨ha0, ha1, hb0, hc0, hc1⟩, hb1, q⟩ := h
  refine ⟨_, C8.pss_cut (ps_if (pt_cmpR op_lt (pe_ix ix_list (pv 0) pe_int (fun _ _ => rfl)) (pv 1) (nomark _))
      (pss_cons (ps_asg (pe_op op_add (pe_ix ix_list (pv 0) pe_int (fun _ _ => rfl)) pe_int) (pg_sub (pv 0) pe_int set_list))
      (pss_one (ps_asg (pe_op op_add (pe_ix ix_list (pv 0) pe_int (fun _ _ => rfl)) (pe_op op_mul (pv 1) (pe_call G1 hr rfl m1 k1 b1 .nil pass0 (pa_cons (pe_ix ix_list (pv 0) pe_int (fun _ _ => rfl)) (pa_cons (pe_op op_add (pe_op op_mul pe_int (pe_ix ix_list (pv 0) pe_int (fun _ _ => rfl))) pe_int) pa_nil))))) (pg_sub (pv 0) pe_int set_list)))) pss_nil)
    (pss_cons (ps_set (i := 2) scTake.nd rfl (.inl rfl) (pe_op op_mod (pe_ix ix_list (pv 0) pe_int (fun _ _ => rfl)) (pv 1)))
    (pss_cons (ps_asg (pe_op op_fdiv (pe_ix ix_list (pv 0) pe_int (fun _ _ => rfl)) (pv 1)) (pg_sub (pv 0) pe_int set_list))
    (pss_one (ps_ret (pv 2))))), ?_⟩
  refine ⟨fun σ H' => ∃ a' b', H' = upd H p (.lst (purse a' b' c)) ∧ σ = [some (.ref p), some (.int n), none] ∧ PO a' b' c ∧ b' ≤ b + 1, ?_, ?_⟩
  · refine ⟨_, rfl, p, _, _, _, rfl, rfl, SqL.of hp, atI_nat (j := 0) rfl, _, rfl, _, _, rfl, rfl, _, rfl, ?_⟩
    refine ite2 (fun cc => ?_) (fun _ => ?_)
    · have cc : a < n := of_decide_eq_true cc
      refine ⟨_, rfl, p, _, _, _, rfl, rfl, SqL.of hp, atI_nat (j := 1) rfl, _, _, rfl, rfl, ?_⟩
      refine ⟨_, rfl, p, _, _, 1, rfl, rfl, hp, rfl, ?_⟩
      have hp1 : upd H p (.lst ((purse a b c).set 1 (.int (b + 1)))) p = some (.lst (purse a (b + 1) c)) := upd_same
      refine ⟨_, rfl, p, _, _, _, rfl, rfl, SqL.of hp1, atI_nat (j := 0) rfl, _, rfl, ?_⟩
      refine ⟨_, rfl, p, _, _, _, rfl, rfl, SqL.of hp1, atI_nat (j := 2) rfl, ?_⟩
      refine ⟨_, rfl, p, _, _, _, rfl, rfl, SqL.of hp1, atI_nat (j := 1) rfl, 11, b + 1, rfl, rfl, .inl ⟨by decide, by decide⟩, _, _, rfl, rfl, ?_⟩
      refine ⟨c, _, rfl, by omega, by omega, fun m hm0 hm1 => ?_⟩
      refine ⟨n, m, rfl, rfl, .inl ⟨by omega, by omega⟩, _, _, rfl, rfl, ?_⟩
      refine ⟨_, rfl, p, _, _, 0, rfl, rfl, hp1, rfl, ?_⟩
      refine ⟨a + n * m, b + 1, upd_upd, rfl, ⟨?_, ?_, by omega, hc0, hc1⟩, by omega⟩
      · have : 0 ≤ n * m := Int.mul_nonneg (by omega) hm0
        omega
      · have h1 : n * m ≤ 100 * m := Int.mul_le_mul_of_nonneg_right hn2 hm0
        have h2 : a + n * m < 100 + 100 * M60 := by omega
        have h3 : (100 + 100 * M60 : Int) < 2 ^ 2000 := by decide +kernel
        exact Int.lt_trans h2 h3
    · refine ⟨a, b, ?_, rfl, ⟨ha0, ha1, hb0, hc0, hc1⟩, by omega⟩
      funext x
      unfold upd
      split
      · rename_i e; rw [e]; exact hp
      · rfl
  · rintro σ H' ⟨a', b', rfl, rfl, ⟨ha0', ha1', hb0', _, _⟩, hb'⟩
    have hp1 : upd H p (.lst (purse a' b' c)) p = some (.lst (purse a' b' c)) := upd_same
    refine ⟨_, rfl, p, _, _, _, rfl, rfl, SqL.of hp1, atI_nat (j := 0) rfl, _, rfl, _, _, rfl, rfl, by omega, ?_⟩
    refine ⟨_, rfl, p, _, _, _, rfl, rfl, SqL.of hp1, atI_nat (j := 0) rfl, _, rfl, _, _, rfl, rfl, ⟨by omega, by omega⟩, ?_⟩
    refine ⟨_, rfl, p, _, _, 0, rfl, rfl, hp1, rfl, ?_⟩
    refine ⟨_, rfl, ?_⟩
    rw [upd_upd]
    refine q _ _ _ (Int.emod_nonneg _ (by omega)) (Int.emod_lt_of_pos _ (by omega)) ⟨Int.ediv_nonneg ha0' (by omega), ?_, hb0', hc0, hc1⟩ hb'
    exact Int.lt_of_le_of_lt (Int.ediv_le_self _ ha0') ha1'
end
end K1
namespace K1
open PySem L2
def Td : Nat → Nat
  | 0 => 2
  | n + 1 => 2 + 3 * Td n
def Wd : Nat → Nat
  | 0 => 41
  | n + 1 => 3 * (Wd n + 1) + 2
theorem Td_ge (n : Nat) : 2 ≤ Td n := by cases n <;> simp [Td]
theorem Wd_ge (n : Nat) : 41 ≤ Wd n := by
  induction n with
  | zero => exact Nat.le_refl _
  | succ n ih => show 41 ≤ 3 * (Wd n + 1) + 2; omega
/-- all but what stands at p is as it was -/
def SB (p : Addr) (H H' : Hp) : Prop := ∀ b o, b ≠ p → H b = some o → H' b = some o
theorem SB.trans {p : Addr} {A B C : Hp} (h : SB p A B) (g : SB p B C) : SB p A C := fun b o n e => g b o n (h b o n e)
theorem SB.upd {p : Addr} {H : Hp} (o : HO) : SB p H (upd H p o) := fun b u n e => by rw [upd_ne n]; exact e
theorem SB.of {p : Addr} {H H' : Hp} (h : Same H H') : SB p H H' := fun b o _ e => h b o e
theorem SB.updNew {p L : Addr} {H H' : Hp} (h : SB p H H') (n : H L = none) (o : HO) : SB p H (L2.upd H' L o) := fun b u m e => by
  rw [upd_ne (ne_of_none e n)]; exact h b u m e
theorem SB.tups {p : Addr} {H H' : Hp} (h : SB p H H') {ys : List V} (hp : H p = some (.lst ys)) : Tups H H' := fun b xs e => h b _ (ne_of e hp (by intro z; cases z)) e
theorem depths_snoc (ds : List D) (d : D) : depths (ds ++ [d]) = max (depths ds) (depth d) := by
  induction ds with
  | nil => show max (depth d) 0 = max 0 (depth d); omega
  | cons e r ih => show max (depth e) (depths (r ++ [d])) = max (max (depth e) (depths r)) (depth d); rw [ih]; omega
theorem sl_sr (ds : List D) : (sl ds).length ≤ (sr ds).length := by
  cases ds with
  | nil => exact Nat.le_refl _
  | cons d r => exact Nat.le_succ _
theorem leafB (b : Bool) (m : Nat) : okD (.bl b) = true ∧ depth (.bl b) ≤ m ∧ (said (.bl b)).length ≤ Wd m := by
  have := Wd_ge m
  refine ⟨rfl, Nat.zero_le _, ?_⟩
  cases b
  · exact Nat.le_trans (by decide : 2 ≤ 41) this
  · exact Nat.le_trans (by decide : 3 ≤ 41) this
theorem leafN {n : Int} (h : numOk n = true) (m : Nat) : okD (.num n) = true ∧ depth (.num n) ≤ m ∧ (said (.num n)).length ≤ Wd m := by
  have := Wd_ge m
  refine ⟨h, Nat.zero_le _, ?_⟩
  unfold numOk at h
  simp only [Bool.and_eq_true, decide_eq_true_eq] at h
  exact Nat.le_trans h.2.2.1 this
theorem leafW {s : Str} (h : wdOk s = true) (m : Nat) : okD (.wd s) = true ∧ depth (.wd s) ≤ m ∧ (said (.wd s)).length ≤ Wd m := by
  have := Wd_ge m
  refine ⟨h, Nat.zero_le _, ?_⟩
  unfold wdOk at h
  simp only [Bool.and_eq_true, decide_eq_true_eq] at h
  exact Nat.le_trans (Nat.le_trans h.1.1.1.2 (by decide : 12 ≤ 41)) this
def nums7 : List V := [.int 0, .int 7, .int (-3), .int (10 ^ (39 : Int).toNat), .int (0 - 10 ^ (40 : Int).toNat + 1), .int 120, .int (-10)]
theorem seven {r : Int} (h0 : 0 ≤ r) (h : r < 7) : r = ((0 : Nat) : Int) ∨ r = ((1 : Nat) : Int) ∨ r = ((2 : Nat) : Int) ∨ r = ((3 : Nat) : Int) ∨ r = ((4 : Nat) : Int) ∨ r = ((5 : Nat) : Int) ∨ r = ((6 : Nat) : Int) := by omega
theorem nums_at {r : Int} (h0 : 0 ≤ r) (h : r < 7) : ∃ x, atI nums7 r = some (.int x) ∧ numOk x = true := by
  rcases seven h0 h with rfl | rfl | rfl | rfl | rfl | rfl | rfl
  · exact ⟨_, atI_nat (j := 0) rfl, by decide +kernel⟩
  · exact ⟨_, atI_nat (j := 1) rfl, by decide +kernel⟩
  · exact ⟨_, atI_nat (j := 2) rfl, by decide +kernel⟩
  · exact ⟨_, atI_nat (j := 3) rfl, by decide +kernel⟩
  · exact ⟨_, atI_nat (j := 4) rfl, by decide +kernel⟩
  · exact ⟨_, atI_nat (j := 5) rfl, by decide +kernel⟩
  · exact ⟨_, atI_nat (j := 6) rfl, by decide +kernel⟩
def words9 : List V := [.str (Str.ofString "say"), .str (Str.ofString "if"), .str (Str.ofString "fun"), .str (Str.ofString "let"), .str (Str.ofString "hold"), .str (Str.ofString "heed"), .str (Str.ofString "up"), .str (Str.ofString "give"), .str (Str.ofString "put")]
def words7 : List V := [.str (Str.ofString "a"), .str (Str.ofString "zz"), .str (Str.ofString "abcdefghijkl"), .str (Str.ofString "yess"), .str (Str.ofString "noo"), .str (Str.ofString "plus"), .str (Str.ofString "x")]
theorem words7_at {r : Int} (h0 : 0 ≤ r) (h : r < 7) : ∃ x, atI words7 r = some (.str x) ∧ wdOk x = true := by
  rcases seven h0 h with rfl | rfl | rfl | rfl | rfl | rfl | rfl
  · exact ⟨_, atI_nat (j := 0) rfl, by decide +kernel⟩
  · exact ⟨_, atI_nat (j := 1) rfl, by decide +kernel⟩
  · exact ⟨_, atI_nat (j := 2) rfl, by decide +kernel⟩
  · exact ⟨_, atI_nat (j := 3) rfl, by decide +kernel⟩
  · exact ⟨_, atI_nat (j := 4) rfl, by decide +kernel⟩
  · exact ⟨_, atI_nat (j := 5) rfl, by decide +kernel⟩
  · exact ⟨_, atI_nat (j := 6) rfl, by decide +kernel⟩
theorem words9_at {r : Int} (h0 : 0 ≤ r) (h : r < 9) : ∃ x, atI words9 r = some (.str x) ∧ wdOk x = true := by
  have : r < 7 ∨ r = ((7 : Nat) : Int) ∨ r = ((8 : Nat) : Int) := by omega
  rcases this with h | rfl | rfl
  · rcases seven h0 h with rfl | rfl | rfl | rfl | rfl | rfl | rfl
    · exact ⟨_, atI_nat (j := 0) rfl, by decide +kernel⟩
    · exact ⟨_, atI_nat (j := 1) rfl, by decide +kernel⟩
    · exact ⟨_, atI_nat (j := 2) rfl, by decide +kernel⟩
    · exact ⟨_, atI_nat (j := 3) rfl, by decide +kernel⟩
    · exact ⟨_, atI_nat (j := 4) rfl, by decide +kernel⟩
    · exact ⟨_, atI_nat (j := 5) rfl, by decide +kernel⟩
    · exact ⟨_, atI_nat (j := 6) rfl, by decide +kernel⟩
  · exact ⟨_, atI_nat (j := 7) rfl, by decide +kernel⟩
  · exact ⟨_, atI_nat (j := 8) rfl, by decide +kernel⟩
section
variable {P : Program} {w : World} {K : PySem.W.Frag} {mg : Str → Option Value} {base : Heap} {f : Addr} {fd : FuncData}
/-! ### _law_datum -/
abbrev sDat : Stmt := top 28
theorem scDat : FnScope ["_law_purse_here", "_law_deep", "_law_way", "_law_k"] ["_law_purse_here", "_law_deep"] (defScope sDat) := ⟨rfl, rfl, rfl, by decide +kernel, rfl, by decide +kernel, by decide +kernel⟩
def spDat (n : Nat) : Sp := fun vs H Q _ => ∃ (p : Addr) (m : Nat) (a b c : Int), vs = [.ref p, .int (m : Int)] ∧ m < n ∧ H p = some (.lst (purse a b c)) ∧ PO a b c ∧ b + (Td m : Nat) ≤ 100000 ∧
  ∀ d v H' a' b', SB p H H' → H' p = some (.lst (purse a' b' c)) → PO a' b' c → b' ≤ b + (Td m : Nat) → Rep H' d v → okD d = true → depth d ≤ m → (said d).length ≤ Wd m → Q v H'
variable {g1 : Addr} {gd1 : FuncData}
theorem ok_dat1 {n : Nat} (F : Fun K "_law_datum" "_law_datum" sDat f fd) (mt : mg "tuple" = none) (mr : mg "range" = none)
    (G1 : FnOk P w K mg base CX0 2 g1 gd1 ["_law_purse_here", "_law_steps"] spTake) (b1 : Binds K gd1 ["_law_purse_here", "_law_steps"] []) (k1 : PySem.W.keepIn K (.ref g1) = true) (m1 : mg "_law_take" = some (.ref g1))
    (G : FnOk P w K mg base CX0 (n + 2) f fd ["_law_purse_here", "_law_deep"] (spDat n)) (bS : Binds K fd ["_law_purse_here", "_law_deep"] []) (mS : mg "_law_datum" = some (.ref f)) :
    FnOk P w K mg base CX0 (n + 3) f fd ["_law_purse_here", "_law_deep"] (spDat (n + 1)) := by
  refine F.ok scDat (fun vs H Q E h => ?_) (fun cdv A outer s H vs Q E hr h => ?_)
  · obtain ⟨p, m, a, b, c, rfl, _⟩ := h
    rfl
  obtain ⟨p, m, a, b, c, rfl, hm, hp, po, hb, q⟩ := h
  refine ⟨_, pss_cons (ps_set (i := 2) scDat.nd rfl (.inl rfl) (pe_call G1 (hr.mono (by omega)) rfl m1 k1 b1 .nil pass0 (pa_cons (pv 0) (pa_cons pe_int pa_nil))))
    (C8.pss_cut (ps_if (PW.pt (pw_and (pt_cmpR op_gt (pv 1) pe_int (nomark _)) (pw_and1 (pt_cmpR op_gt (pv 2) pe_int (nomark _)))))
      (pss_one (ps_ret (pe_callTy call_tuple_of rfl mt (by decide +kernel) (pa_cons
        (pe_lc (own := [("_law_k", 3)]) (g := gName 3) (tt := tYes) rfl scDat.nd (pi_range1 rfl mr (pa_cons (pe_call G1 (hr.mono (by omega)) rfl m1 k1 b1 .nil pass0 (pa_cons (pv 0) (pa_cons pe_int pa_nil))) pa_nil)) (blkOk_by (N := ["_law_purse_here", "_law_deep", "_law_way", "_law_k"]) (sc := defScope sDat) (by decide +kernel))
          (fun _ _ _ _ _ => pg_name (i := 3) scDat.nd rfl (Or.inl rfl)) (fun _ _ _ _ _ => pts_nil) (fun _ _ _ _ _ => pe_call G hr rfl mS F.kp bS .nil pass0 (pa_cons (pv 0) (pa_cons (pe_op op_sub (pv 1) pe_int) pa_nil)))) pa_nil)))) pss_nil)
    (pss_cons (ps_if (pt_cmpR op_eq (pv 2) pe_int (nomark _))
      (pss_one (ps_ret (pe_cmpR op_eq (pe_call G1 (hr.mono (by omega)) rfl m1 k1 b1 .nil pass0 (pa_cons (pv 0) (pa_cons pe_int pa_nil))) pe_int (nomark _)))) pss_nil)
    (pss_cons (ps_if (pt_cmpR op_eq (pv 2) pe_int (nomark _))
      (pss_one (ps_ret (pe_ix ix_list (pe_lst (pa_cons pe_int (pa_cons pe_int (pa_cons (pe_un un_neg pe_int) (pa_cons (pe_op op_pow pe_int pe_int) (pa_cons (pe_op op_add (pe_op op_sub pe_int (pe_op op_pow pe_int pe_int)) pe_int) (pa_cons pe_int (pa_cons (pe_un un_neg pe_int) pa_nil))))))))
        (pe_call G1 (hr.mono (by omega)) rfl m1 k1 b1 .nil pass0 (pa_cons (pv 0) (pa_cons pe_int pa_nil))) (fun _ _ => rfl)))) pss_nil)
    (pss_cons (ps_if (pt_cmpR op_eq (pv 2) pe_int (nomark _))
      (pss_one (ps_ret (pe_ix ix_list (pe_lst (pa_cons pe_str (pa_cons pe_str (pa_cons pe_str (pa_cons pe_str (pa_cons pe_str (pa_cons pe_str (pa_cons pe_str (pa_cons pe_str (pa_cons pe_str pa_nil))))))))))
        (pe_call G1 (hr.mono (by omega)) rfl m1 k1 b1 .nil pass0 (pa_cons (pv 0) (pa_cons pe_int pa_nil))) (fun _ _ => rfl)))) pss_nil)
    (pss_one (ps_ret (pe_ix ix_list (pe_lst (pa_cons pe_str (pa_cons pe_str (pa_cons pe_str (pa_cons pe_str (pa_cons pe_str (pa_cons pe_str (pa_cons pe_str pa_nil))))))))
        (pe_call G1 (hr.mono (by omega)) rfl m1 k1 b1 .nil pass0 (pa_cons (pv 0) (pa_cons pe_int pa_nil))) (fun _ _ => rfl)))))))), ?_⟩
  have hT := Td_ge m
  refine ⟨_, rfl, p, 7, a, b, c, rfl, by decide, by decide, hp, po, by omega, fun r a1 b1' hr0 hr1 po1 hb1 => ?_⟩
  have hp1 : upd H p (.lst (purse a1 b1' c)) p = some (.lst (purse a1 b1' c)) := upd_same
  have sb1 : SB p H (upd H p (.lst (purse a1 b1' c))) := SB.upd _
  generalize upd H p (.lst (purse a1 b1' c)) = H1 at hp1 sb1 ⊢
  refine ⟨fun σ' H' => H' = H1 ∧ σ' = [some (.ref p), some (.int (m : Int)), some (.int r), none], ?_, ?_⟩
  · refine ⟨_, rfl, _, _, rfl, rfl, _, rfl, ?_⟩
    refine ite2 (fun c1 => ?_) (fun _ => iteF ⟨rfl, rfl⟩)
    have c1 : (0 : Int) < (m : Int) := of_decide_eq_true c1
    refine ⟨_, rfl, _, _, rfl, rfl, _, rfl, ?_⟩
    refine ite2 (fun c2 => ?_) (fun _ => ⟨rfl, rfl⟩)
    obtain ⟨k, rfl⟩ : ∃ k, m = k + 1 := ⟨m - 1, by omega⟩
    have eT : Td (k + 1) = 2 + 3 * Td k := rfl
    have eW : Wd (k + 1) = 3 * (Wd k + 1) + 2 := rfl
    refine ⟨_, rfl, p, 4, a1, b1', c, rfl, by decide, by decide, hp1, po1, by omega, fun r2 a2 b2 hr20 hr21 po2 hb2 => ?_⟩
    have hp2 : upd H1 p (.lst (purse a2 b2 c)) p = some (.lst (purse a2 b2 c)) := upd_same
    have sb2 : SB p H (upd H1 p (.lst (purse a2 b2 c))) := sb1.trans (SB.upd _)
    generalize upd H1 p (.lst (purse a2 b2 c)) = H2 at hp2 sb2 ⊢
    refine ⟨r2, rfl, by omega, by omega, fun L hL => ?_⟩
    have hLp : L ≠ p := Ne.symm (ne_of_none hp2 hL)
    have hrn : r2.toNat ≤ 3 := by omega
    refine lc_range (lo := 0) (n := r2.toNat) (fun i H'' => ∃ (ds : List D) (xs : List V) (a' b' : Int), H'' L = some (.lst xs) ∧ Reps H'' ds xs ∧ okL ds = true ∧ depths ds ≤ k ∧ ds.length = i ∧ (sr ds).length ≤ i * (Wd k + 1) ∧
      H'' p = some (.lst (purse a' b' c)) ∧ PO a' b' c ∧ b' ≤ b2 + (i * Td k : Nat) ∧ SB p H2 H'') ?_ ?_ ?_
    · refine ⟨[], [], a2, b2, upd_same, rfl, rfl, Nat.zero_le _, rfl, Nat.zero_le _, ?_, po2, by omega, SB.of (same_new hL _)⟩
      rw [upd_ne (Ne.symm hLp)]; exact hp2
    · rintro i H3 hi ⟨ds, xs, a3, b3, hL3, hreps, hok, hdp, hlen, hsr, hp3, po3, hb3, sb3⟩
      refine ⟨rfl, ?_⟩
      unfold tYes
      refine iteT ?_
      have hik : i * Td k + Td k ≤ 3 * Td k := by
        have : i + 1 ≤ 3 := by omega
        have := Nat.mul_le_mul_right (Td k) this
        rw [Nat.add_mul, Nat.one_mul] at this
        exact this
      refine ⟨_, rfl, _, rfl, _, _, rfl, rfl, p, k, a3, b3, c, ?_, by omega, hp3, po3, by omega, fun d v H4 a4 b4 sb4 hp4 po4 hb4 rp4 ok4 dp4 sd4 => ?_⟩
      · have : ((k + 1 : Nat) : Int) - 1 = (k : Int) := by omega
        show [V.ref p, V.int (((k + 1 : Nat) : Int) - 1)] = [V.ref p, V.int (k : Int)]
        rw [this]
      have hL4 : H4 L = some (.lst xs) := sb4 _ _ hLp hL3
      have tp4 : Tups H3 H4 := sb4.tups hp3
      have hxl := hreps.length
      have esz := sizeLine_eq
      refine ⟨xs, hL4, by omega, ds ++ [d], xs ++ [v], a4, b4, upd_same, ?_, ?_, ?_, ?_, ?_, ?_, po4, ?_, ?_⟩
      · exact Reps.snoc (rp4.mono (Tups.lst hL4 _)) (hreps.mono (tp4.trans (Tups.lst hL4 _)))
      · rw [okL_app, hok]
        show (true && (okD d && true)) = true
        rw [ok4]; rfl
      · rw [depths_snoc]; omega
      · rw [List.length_append, hlen]; rfl
      · rw [sr_app, List.length_append]
        have e1 : (sr [d]).length = (said d).length + 1 := by
          show (32 :: (said d ++ [])).length = _
          rw [List.append_nil, List.length_cons]
        have e2 : (i + 1) * (Wd k + 1) = i * (Wd k + 1) + (Wd k + 1) := by rw [Nat.add_mul, Nat.one_mul]
        omega
      · rw [upd_ne (Ne.symm hLp)]; exact hp4
      · have e2 : (i + 1) * Td k = i * Td k + Td k := by rw [Nat.add_mul, Nat.one_mul]
        omega
      · exact (sb3.trans sb4).updNew hL _
    · rintro H3 ⟨ds, xs, a3, b3, hL3, hreps, hok, hdp, hlen, hsr, hp3, po3, hb3, sb3⟩
      refine ⟨L, xs, rfl, .inl ⟨SqL.of hL3, fun t ht => ?_⟩⟩
      have hrk : r2.toNat * Td k ≤ 3 * Td k := Nat.mul_le_mul_right _ hrn
      have hrw : r2.toNat * (Wd k + 1) ≤ 3 * (Wd k + 1) := Nat.mul_le_mul_right _ hrn
      have tp3 : Tups H3 (upd H3 t (.tup xs)) := Tups.new ht _
      refine q (.lst ds) (.ref t) _ a3 b3 ((sb2.trans sb3).trans (SB.of (same_new ht _))) ?_ po3 (by omega) ⟨t, xs, rfl, upd_same, hreps.mono tp3⟩ hok (by show depths ds + 1 ≤ k + 1; omega) ?_
      · rw [upd_ne (ne_of_none hp3 ht)]; exact hp3
      · show (40 :: (sl ds ++ [41])).length ≤ _
        rw [List.length_cons, List.length_append]
        have := sl_sr ds
        show (sl ds).length + 1 + 1 ≤ _
        omega
  rintro σ' H' ⟨rfl, rfl⟩
  refine ⟨_, rfl, rfl, _, rfl, ?_⟩
  refine ite2 (fun _ => ?_) (fun _ => ?_)
  · refine ⟨_, rfl, p, 2, a1, b1', c, rfl, by decide, by decide, hp1, po1, by omega, fun r2 a2 b2 hr20 hr21 po2 hb2 => ?_⟩
    refine ⟨rfl, ?_⟩
    obtain ⟨h1, h2, h3⟩ := leafB (decide (V.int r2 = V.int 1)) m
    exact q (.bl _) _ _ a2 b2 (sb1.trans (SB.upd _)) upd_same po2 (by omega) rfl h1 h2 h3
  refine ⟨_, rfl, rfl, _, rfl, ?_⟩
  refine ite2 (fun _ => ?_) (fun _ => ?_)
  · refine ⟨_, rfl, 10, 39, rfl, rfl, ⟨by decide, by decide, by decide⟩, 10, 40, rfl, rfl, ⟨by decide, by decide, by decide⟩, _, _, rfl, rfl, _, _, rfl, rfl, _, rfl, (by show 7 ≤ sizeLine; decide), fun L hL => ?_⟩
    have hLp : p ≠ L := ne_of_none hp1 hL
    have hp3 : upd H' L (.lst nums7) p = some (.lst (purse a1 b1' c)) := by rw [upd_ne hLp]; exact hp1
    refine ⟨_, rfl, p, 7, a1, b1', c, rfl, by decide, by decide, hp3, po1, by omega, fun r2 a2 b2 hr20 hr21 po2 hb2 => ?_⟩
    obtain ⟨x, hx, okx⟩ := nums_at hr20 hr21
    refine ⟨L, nums7, r2, .int x, rfl, rfl, SqL.of (by rw [upd_ne (Ne.symm hLp)]; exact upd_same), hx, ?_⟩
    obtain ⟨h1, h2, h3⟩ := leafN okx m
    exact q (.num x) _ _ a2 b2 ((sb1.trans (SB.of (same_new hL _))).trans (SB.upd _)) upd_same po2 (by omega) rfl h1 h2 h3
  refine ⟨_, rfl, rfl, _, rfl, ?_⟩
  refine ite2 (fun _ => ?_) (fun _ => ?_)
  · refine ⟨(by show 9 ≤ sizeLine; decide), fun L hL => ?_⟩
    have hLp : p ≠ L := ne_of_none hp1 hL
    have hp3 : upd H' L (.lst words9) p = some (.lst (purse a1 b1' c)) := by rw [upd_ne hLp]; exact hp1
    refine ⟨_, rfl, p, 9, a1, b1', c, rfl, by decide, by decide, hp3, po1, by omega, fun r2 a2 b2 hr20 hr21 po2 hb2 => ?_⟩
    obtain ⟨x, hx, okx⟩ := words9_at hr20 hr21
    refine ⟨L, words9, r2, .str x, rfl, rfl, SqL.of (by rw [upd_ne (Ne.symm hLp)]; exact upd_same), hx, ?_⟩
    obtain ⟨h1, h2, h3⟩ := leafW okx m
    exact q (.wd x) _ _ a2 b2 ((sb1.trans (SB.of (same_new hL _))).trans (SB.upd _)) upd_same po2 (by omega) rfl h1 h2 h3
  · refine ⟨(by show 7 ≤ sizeLine; decide), fun L hL => ?_⟩
    have hLp : p ≠ L := ne_of_none hp1 hL
    have hp3 : upd H' L (.lst words7) p = some (.lst (purse a1 b1' c)) := by rw [upd_ne hLp]; exact hp1
    refine ⟨_, rfl, p, 7, a1, b1', c, rfl, by decide, by decide, hp3, po1, by omega, fun r2 a2 b2 hr20 hr21 po2 hb2 => ?_⟩
    obtain ⟨x, hx, okx⟩ := words7_at hr20 hr21
    refine ⟨L, words7, r2, .str x, rfl, rfl, SqL.of (by rw [upd_ne (Ne.symm hLp)]; exact upd_same), hx, ?_⟩
    obtain ⟨h1, h2, h3⟩ := leafW okx m
    exact q (.wd x) _ _ a2 b2 ((sb1.trans (SB.of (same_new hL _))).trans (SB.upd _)) upd_same po2 (by omega) rfl h1 h2 h3
theorem ok_dat (F : Fun K "_law_datum" "_law_datum" sDat f fd) (mt : mg "tuple" = none) (mr : mg "range" = none)
    (G1 : FnOk P w K mg base CX0 2 g1 gd1 ["_law_purse_here", "_law_steps"] spTake) (b1 : Binds K gd1 ["_law_purse_here", "_law_steps"] []) (k1 : PySem.W.keepIn K (.ref g1) = true) (m1 : mg "_law_take" = some (.ref g1))
    (bS : Binds K fd ["_law_purse_here", "_law_deep"] []) (mS : mg "_law_datum" = some (.ref f)) : ∀ n : Nat, FnOk P w K mg base CX0 (n + 2) f fd ["_law_purse_here", "_law_deep"] (spDat n)
  | 0 => ok_no fun vs H Q E h => by
    obtain ⟨p, m, a, b, c, _, h, _⟩ := h
    omega
  | n + 1 => ok_dat1 F mt mr G1 b1 k1 m1 (ok_dat F mt mr G1 b1 k1 m1 bS mS n) bS mS
end
end K1
namespace K1
open PySem L2
/-! ### a def called by keywords alone -/
section
variable {X : Cx} {CX : CXT} {k : Nat} {f : Addr} {fd : FuncData} {ps ks : List Str} {sp : Sp} {E : XK} {x : Str} {p pos : Pos} {kws : List Keyword} {tk : TA} {g : List Value → List Value → List Value} {gV : List V → List V → List V}
theorem pe_callK0 (F : FnOk X.prog X.w X.K X.mg X.base CX k f fd ps sp) (hr : Room k X.A) (hg : Gl X x) (hm : X.mg x = some (.ref f)) (hk : PySem.W.keepIn X.K (.ref f) = true) (hb : KBinds X.K fd ps ks g gV) (hx : Passes CX X E)
    (hkw : PK X kws tk) (hall : (backToKw pos (keywordEach kws X.env)).all (·.1.isSome) = true := by rfl) (hks : (backToKw pos (keywordEach kws X.env)).filterMap (·.1) = ks := by rfl)
    (hdb : (x == ("__debug__" : Str)) = false := by decide)
    (hpl : ((backTo pos (starEach [] X.env)).any (·.1) || (backToKw pos (keywordEach kws X.env)).any (·.1.isNone)) = false := by rfl) :
    PE X (.Call (.Name x p) [] kws pos) (tCallK sp gV E tNil tk) := by
  refine ⟨fun pins s σ H Q I h => ?_⟩
  refine wpAny_Call_Name_kw (ld_glob I hg hm ?_ hdb)
  refine PySem.W.callWith_KW0 (h₀ := X.base) I.ok.mod.kin hk hall ?_ hpl
  refine thn (hkw.run pos pins s σ H _ I h) fun ws s2 ⟨zs, H2, I2, rz, q2⟩ => ⟨I2.kIn, ?_⟩
  rw [hks]
  exact run_fnk (us := []) (vs := []) F hr hb hx I2 .nil rz q2
end
theorem Vals.app2 {vs zs : List V} {us ws : List Value} (a : Vals vs us) (b : Vals zs ws) : Vals (vs ++ zs) (us ++ ws) := Vals.append a b
theorem kb_of {K : PySem.W.Frag} {fd : FuncData} {a : Str} (h1 : ∀ u, bindArgs fd ⟨[u], []⟩ = pure [(a, u)]) (h2 : ∀ u, bindArgs fd ⟨[], [(a, u)]⟩ = pure [(a, u)]) : KBinds K fd [a] [a] (fun us ws => us ++ ws) (fun vs zs => vs ++ zs) where
  to := fun s us ws _ hl => by
    match us, ws, hl with
    | [], [w], _ => exact .of_eq (h2 w)
    | [u], [], _ => exact .of_eq (h1 u)
    | [], [], hl => exact nomatch hl
    | [], _ :: _ :: _, hl => exact nomatch hl
    | [_], _ :: _, hl => exact nomatch hl
    | _ :: _ :: _, _, hl => exact nomatch hl
  rel := fun a b => Vals.app2 a b
section
variable {P : Program} {w : World} {K : PySem.W.Frag} {mg : Str → Option Value} {base : Heap} {f : Addr} {fd : FuncData}
/-! ### _law_at -/
abbrev sAt : Stmt := top 24
theorem scAt : FnScope ["_law_script", "_law_k"] ["_law_script", "_law_k"] (defScope sAt) := ⟨rfl, rfl, rfl, by decide +kernel, rfl, by decide +kernel, by decide +kernel⟩
def spAt (K : PySem.W.Frag) : Sp := fun vs H Q _ => ∃ (a : Addr) (ns : List Int), vs = [.ref a, .int 4] ∧ SqL K H a (ns.map V.int) ∧ ∀ x : Int, Q (.int x) H
theorem ok_at (F : Fun K "_law_at" "_law_at" sAt f fd) (ml : mg "len" = none) : FnOk P w K mg base CX0 1 f fd ["_law_script", "_law_k"] (spAt K) := by
  refine F.ok scAt (fun vs H Q E h => ?_) (fun cdv A outer s H vs Q E hr h => ?_)
  · obtain ⟨a, ns, rfl, _⟩ := h
    rfl
  obtain ⟨a, ns, rfl, hS, q⟩ := h
  refine ⟨_, pss_cons (ps_if (pt_cmpR op_lt (pv 1) (pe_callB call_len_seq rfl ml PySem.boot_len (pa_cons (pv 0) pa_nil)) (nomark _)) (pss_one (ps_ret (pe_ix ix_list (pv 0) (pv 1) (fun _ _ => rfl)))) pss_nil)
    (pss_one (ps_ret (pe_op op_add (pe_op op_mul pe_int (pv 1)) pe_int))), ?_⟩
  refine ⟨_, rfl, _, rfl, a, _, rfl, .inl hS, _, _, rfl, rfl, _, rfl, ?_⟩
  refine ite2 (fun c => ?_) (fun _ => ?_)
  · have c : (4 : Int) < ((ns.map V.int).length : Int) := of_decide_eq_true c
    rw [List.length_map] at c
    have hl : 4 < ns.length := by omega
    refine ⟨_, rfl, _, rfl, a, _, _, .int ns[4], rfl, rfl, hS, atI_nat (j := 4) ?_, q _⟩
    rw [List.getElem?_map, List.getElem?_eq_getElem hl]; rfl
  · exact ⟨_, rfl, 3, 4, rfl, rfl, .inl ⟨by decide, by decide⟩, _, _, rfl, rfl, q _⟩
/-! ### _law_right -/
abbrev sRt : Stmt := top 30
theorem scRt : FnScope ["_law_datum_here", "_law_line", "_law_turn", "_law_told", "_law_part"] ["_law_datum_here"] (defScope sRt) := ⟨rfl, rfl, rfl, by decide +kernel, rfl, by decide +kernel, by decide +kernel⟩
def spRt (n : Nat) : Sp := fun vs H Q _ => ∃ (d : D) (v : V), vs = [v] ∧ Rep H d v ∧ okD d = true ∧ depth d < n ∧ depth d < 60 ∧ (said d).length ≤ 200000 ∧ ∀ H', Same H H' → Q (.bl true) H'
variable {g1 g2 g3 g4 g5 g6 : Addr} {gd1 gd2 gd3 gd4 gd5 gd6 : FuncData}
theorem ok_rt1 {n : Nat} (F : Fun K "_law_right" "_law_right" sRt f fd) (mi : mg "isinstance" = none) (mt : mg "tuple" = none) (ma : mg "all" = none) (mr : mg "range" = none)
    (G1 : FnOk P w K mg base CX0 61 g1 gd1 ["_law_item"] (spSaid 60)) (b1 : Binds K gd1 ["_law_item"] []) (k1 : PySem.W.keepIn K (.ref g1) = true) (m1 : mg "_law_said" = some (.ref g1))
    (G2 : FnOk P w K mg base CX0 5 g2 gd2 ["text"] spRead) (b2 : Binds K gd2 ["text"] []) (kb2 : KBinds K gd2 ["text"] ["text"] (fun us ws => us ++ ws) (fun vs zs => vs ++ zs)) (k2 : PySem.W.keepIn K (.ref g2) = true) (m2 : mg "read_data" = some (.ref g2))
    (G3 : FnOk P w K mg base CX0 60 g3 gd3 ["_law_one", "_law_other"] (spOne 60)) (b3 : Binds K gd3 ["_law_one", "_law_other"] []) (k3 : PySem.W.keepIn K (.ref g3) = true) (m3 : mg "_law_one_kind" = some (.ref g3))
    (G4 : FnOk P w K mg base CX0 2 g4 gd4 ["value"] spDt) (b4 : Binds K gd4 ["value"] []) (kb4 : KBinds K gd4 ["value"] ["value"] (fun us ws => us ++ ws) (fun vs zs => vs ++ zs)) (k4 : PySem.W.keepIn K (.ref g4) = true) (m4 : mg "data_text" = some (.ref g4))
    (G5 : FnOk P w K mg base CX0 2 g5 gd5 ["value"] spKind) (b5 : Binds K gd5 ["value"] []) (kb5 : KBinds K gd5 ["value"] ["value"] (fun us ws => us ++ ws) (fun vs zs => vs ++ zs)) (k5 : PySem.W.keepIn K (.ref g5) = true) (m5 : mg "kind_of" = some (.ref g5))
    (G6 : FnOk P w K mg base CX0 1 g6 gd6 ["_law_thing"] spLK) (b6 : Binds K gd6 ["_law_thing"] []) (k6 : PySem.W.keepIn K (.ref g6) = true) (m6 : mg "_law_kind" = some (.ref g6))
    (G : FnOk P w K mg base CX0 (n + 61) f fd ["_law_datum_here"] (spRt n)) (bS : Binds K fd ["_law_datum_here"] []) (mS : mg "_law_right" = some (.ref f)) : FnOk P w K mg base CX0 (n + 62) f fd ["_law_datum_here"] (spRt (n + 1)) := by
  refine F.ok scRt (fun vs H Q E h => ?_) (fun cdv A outer s H vs Q E hr h => ?_)
  · obtain ⟨d, v, rfl, _⟩ := h
    rfl
  obtain ⟨d, v, rfl, rp, ok, hdp, hdp60, hsz, q⟩ := h
  refine ⟨_, pss_cons (ps_set (i := 1) scRt.nd rfl (.inl rfl) (pe_call G1 (hr.mono (by omega)) rfl m1 k1 b1 .nil pass0 (pa_cons (pv 0) pa_nil)))
    (pss_cons (ps_for PassesOwn.never rfl (pi_range1 rfl mr (pa_cons pe_int pa_nil)) (pg_name (i := 2) scRt.nd rfl (Or.inl rfl))
      (pss_cons (ps_set (i := 3) scRt.nd rfl (.inl rfl) (pe_ix ix_list (pe_lst (pa_cons (pe_call G2 (hr.mono (by omega)) rfl m2 k2 b2 .nil pass0 (pa_cons (pv 1) pa_nil)) (pa_cons (pe_callK0 G2 (hr.mono (by omega)) rfl m2 k2 kb2 pass0 (pk_cons (pv 1) pk_nil)) pa_nil))) (pv 2) (fun _ _ => rfl)))
      (pss_cons (ps_if (PW.pt (pw_or (pt_not (pt_val (pe_call G3 (hr.mono (by omega)) rfl m3 k3 b3 .nil pass0 (pa_cons (pv 3) (pa_cons (pv 0) pa_nil)))))
          (pw_or (pt_cmpR op_ne (pe_call G4 (hr.mono (by omega)) rfl m4 k4 b4 .nil pass0 (pa_cons (pv 3) pa_nil)) (pv 1) (nomark _))
          (pw_or1 (pt_cmpR op_ne (pe_callK0 G4 (hr.mono (by omega)) rfl m4 k4 kb4 pass0 (pk_cons (pv 0) pk_nil)) (pv 1) (nomark _)))))) (pss_one (ps_ret pe_bl)) pss_nil)
      (pss_one (ps_if (PW.pt (pw_or (pt_cmpR op_ne (pe_call G5 (hr.mono (by omega)) rfl m5 k5 b5 .nil pass0 (pa_cons (pv 3) pa_nil)) (pe_call G6 (hr.mono (by omega)) rfl m6 k6 b6 .nil pass0 (pa_cons (pv 0) pa_nil)) (nomark _))
          (pw_or1 (pt_cmpR op_ne (pe_callK0 G5 (hr.mono (by omega)) rfl m5 k5 kb5 pass0 (pk_cons (pv 0) pk_nil)) (pe_call G6 (hr.mono (by omega)) rfl m6 k6 b6 .nil pass0 (pa_cons (pv 0) pa_nil)) (nomark _))))) (pss_one (ps_ret pe_bl)) pss_nil)))))
    (pss_cons (ps_if (pt_val (pe_callB call_isi rfl mi (by decide +kernel) (pa_cons (pv 0) (pa_cons (pe_bltn (v := .ty "tuple") rfl mt (by decide +kernel) rfl) pa_nil))))
      (pss_one (ps_ret (pe_callB (cr_all rfl) rfl ma (by decide +kernel) (pa_cons
        (pe_lc (own := [("_law_part", 4)]) (g := gName 4) (tt := tYes) rfl scRt.nd (pi_tup (pv 0)) (blkOk_by (N := ["_law_datum_here", "_law_line", "_law_turn", "_law_told", "_law_part"]) (sc := defScope sRt) (by decide +kernel))
          (fun _ _ _ _ _ => pg_name (i := 4) scRt.nd rfl (Or.inl rfl)) (fun _ _ _ _ _ => pts_nil) (fun _ _ _ _ _ => pe_call G hr rfl mS F.kp bS .nil pass0 (pa_cons (pv 4) pa_nil))) pa_nil)))) pss_nil)
    (pss_one (ps_ret pe_bl)))), ?_⟩
  have esz := sizeLine_eq
  have hzl : (mk (said d)).length ≤ sizeLine := by rw [len_mk]; omega
  refine ⟨_, rfl, d, v, rfl, rp, ok, hdp60, hsz, fun H1 sm1 => ?_⟩
  refine ⟨2, rfl, by decide, by decide, for_range (n := 2) (fun i σ H' => ∃ r2 r3 r4, σ = [some v, some (.str (mk (said d))), r2, r3, r4] ∧ Same H H') ⟨_, _, _, rfl, sm1⟩ ?_ ?_⟩
  · rintro i σ H2 hi ⟨r2, r3, r4, rfl, sm2⟩
    refine ⟨_, rfl, mk (said d), d, rfl, hzl, rfl, ok, fun v1 H3 sm3 rp3 => ?_⟩
    refine ⟨_, rfl, mk (said d), d, rfl, hzl, rfl, ok, fun v2 H4 sm4 rp4 => ?_⟩
    refine ⟨(by show 2 ≤ sizeLine; decide), fun L hL => ?_⟩
    have rp3' : Rep (upd H4 L (.lst [v1, v2])) d v1 := rp3.mono ((Tups.of sm4).trans (Tups.new hL _))
    have rp4' : Rep (upd H4 L (.lst [v1, v2])) d v2 := rp4.mono (Tups.new hL _)
    have hx : ∃ vt, atI [v1, v2] (0 + (i : Int)) = some vt ∧ Rep (upd H4 L (.lst [v1, v2])) d vt := by
      rw [Int.zero_add]
      match i, hi with
      | 0, _ => exact ⟨v1, atI_nat (j := 0) rfl, rp3'⟩
      | 1, _ => exact ⟨v2, atI_nat (j := 1) rfl, rp4'⟩
    obtain ⟨vt, hat, rpt⟩ := hx
    have sm5 : Same H (upd H4 L (.lst [v1, v2])) := ((sm2.trans sm3).trans sm4).trans (same_new hL _)
    have hLL : upd H4 L (.lst [v1, v2]) L = some (.lst [v1, v2]) := upd_same
    refine ⟨_, rfl, L, _, _, vt, rfl, rfl, SqL.of hLL, hat, ?_⟩
    generalize upd H4 L (.lst [v1, v2]) = H5 at rpt sm5 ⊢
    refine ⟨_, rfl, _, rfl, d, vt, v, rfl, rpt, rp.mono (Tups.of sm5), hdp60, hsz, fun H6 sm6 => ?_⟩
    refine ⟨_, rfl, iteF ?_⟩
    refine ⟨_, rfl, d, vt, rfl, rpt.mono (Tups.of sm6), ok, hsz, fun H7 sm7 => ?_⟩
    refine ⟨_, rfl, rfl, _, rfl, iteNS rfl ?_⟩
    have sm7' : Same H H7 := (sm5.trans sm6).trans sm7
    refine ⟨_, rfl, d, v, rfl, rp.mono (Tups.of sm7'), ok, hsz, fun H8 sm8 => ?_⟩
    refine ⟨_, rfl, rfl, _, rfl, iteNS rfl ?_⟩
    have sm8' : Same H H8 := sm7'.trans sm8
    refine ⟨_, rfl, d, vt, rfl, rpt.mono (Tups.of ((sm6.trans sm7).trans sm8)), ok, ?_⟩
    refine ⟨_, rfl, d, v, rfl, rp.mono (Tups.of sm8'), ok, fun H9 sm9 => ?_⟩
    refine ⟨rfl, _, rfl, iteNS rfl ?_⟩
    refine ⟨_, rfl, d, v, rfl, rp.mono (Tups.of (sm8'.trans sm9)), ok, ?_⟩
    refine ⟨_, rfl, d, v, rfl, rp.mono (Tups.of (sm8'.trans sm9)), ok, fun H10 sm10 => ?_⟩
    refine ⟨rfl, _, rfl, iteNS rfl ?_⟩
    exact ⟨_, _, _, rfl, (sm8'.trans sm9).trans sm10⟩
  · rintro σ H2 ⟨r2, r3, r4, rfl, sm2⟩
    refine ⟨_, rfl, _, _, _, _, _, rfl, .ty "tuple", (rp.mono (Tups.of sm2)).ty, kit_tuple d, _, rfl, ?_⟩
    by_cases hl : isLs d = true
    · obtain ⟨ds, rfl⟩ := ls_of hl
      refine iteT ?_
      obtain ⟨p, xs, rfl, hp, hreps⟩ := rp
      have okd : okL ds = true := ok
      have hdp' : depths ds + 1 < n + 1 := hdp
      have hdp6' : depths ds + 1 < 60 := hdp60
      have hsl : (said (.lst ds)).length = (sl ds).length + 2 := by
        show (40 :: (sl ds ++ [41])).length = _
        rw [List.length_cons, List.length_append]; rfl
      have hsr := sr_sl ds
      have hsum := sum_said ds
      have hxl := hreps.length
      refine ⟨_, rfl, p, rfl, ⟨_, SqT.of (sm2 _ _ hp)⟩, fun L hL => ?_⟩
      have hLH : H L = none := sm2.free hL
      refine lc_tup (xs := xs) (fun i H'' => H'' L = some (.lst ((List.replicate i true).map V.bl)) ∧ i ≤ ds.length ∧ Same H H'') ⟨upd_same, Nat.zero_le _, sm2.trans (same_new hL _)⟩ (fun i H'' _ h => SqT.of (h.2.2 _ _ hp)) ?_ ?_
      · rintro i x H3 hx ⟨hL3, hi3, sm3⟩
        obtain ⟨e, he, hre⟩ := hreps.get hx
        have g1 := depth_get he
        have g2 := sl_get he
        have hi4 : i < ds.length := (List.getElem?_eq_some_iff.mp he).1
        refine ⟨rfl, ?_⟩
        unfold tYes
        refine iteT ?_
        refine ⟨_, rfl, e, x, rfl, hre.mono (Tups.of sm3), okL_get okd he, by omega, by omega, by omega, fun H4 sm4 => ⟨_, sm4 _ _ hL3, ?_, ?_, hi4, ?_⟩⟩
        · rw [List.length_map, List.length_replicate]; omega
        · rw [upd_same, List.replicate_succ', List.map_append]; rfl
        · exact same_upd (sm3.trans sm4) hLH _
      · rintro H3 ⟨hL3, _, sm3⟩
        refine ⟨L, List.replicate xs.length true, rfl, SqL.of hL3, ?_⟩
        have e1 : (List.replicate xs.length true).all id = true := by simp
        rw [e1]
        exact q _ sm3
    · rw [Bool.eq_false_iff.mpr hl]
      exact iteF (q _ sm2)
end
end K1
namespace K1
open PySem L2
section
variable {P : Program} {w : World} {K : PySem.W.Frag} {mg : Str → Option Value} {base : Heap} {f : Addr} {fd : FuncData} {g1 g2 g3 g4 g5 g6 : Addr} {gd1 gd2 gd3 gd4 gd5 gd6 : FuncData}
theorem ok_rt (F : Fun K "_law_right" "_law_right" sRt f fd) (mi : mg "isinstance" = none) (mt : mg "tuple" = none) (ma : mg "all" = none) (mr : mg "range" = none)
    (G1 : FnOk P w K mg base CX0 61 g1 gd1 ["_law_item"] (spSaid 60)) (b1 : Binds K gd1 ["_law_item"] []) (k1 : PySem.W.keepIn K (.ref g1) = true) (m1 : mg "_law_said" = some (.ref g1))
    (G2 : FnOk P w K mg base CX0 5 g2 gd2 ["text"] spRead) (b2 : Binds K gd2 ["text"] []) (kb2 : KBinds K gd2 ["text"] ["text"] (fun us ws => us ++ ws) (fun vs zs => vs ++ zs)) (k2 : PySem.W.keepIn K (.ref g2) = true) (m2 : mg "read_data" = some (.ref g2))
    (G3 : FnOk P w K mg base CX0 60 g3 gd3 ["_law_one", "_law_other"] (spOne 60)) (b3 : Binds K gd3 ["_law_one", "_law_other"] []) (k3 : PySem.W.keepIn K (.ref g3) = true) (m3 : mg "_law_one_kind" = some (.ref g3))
    (G4 : FnOk P w K mg base CX0 2 g4 gd4 ["value"] spDt) (b4 : Binds K gd4 ["value"] []) (kb4 : KBinds K gd4 ["value"] ["value"] (fun us ws => us ++ ws) (fun vs zs => vs ++ zs)) (k4 : PySem.W.keepIn K (.ref g4) = true) (m4 : mg "data_text" = some (.ref g4))
    (G5 : FnOk P w K mg base CX0 2 g5 gd5 ["value"] spKind) (b5 : Binds K gd5 ["value"] []) (kb5 : KBinds K gd5 ["value"] ["value"] (fun us ws => us ++ ws) (fun vs zs => vs ++ zs)) (k5 : PySem.W.keepIn K (.ref g5) = true) (m5 : mg "kind_of" = some (.ref g5))
    (G6 : FnOk P w K mg base CX0 1 g6 gd6 ["_law_thing"] spLK) (b6 : Binds K gd6 ["_law_thing"] []) (k6 : PySem.W.keepIn K (.ref g6) = true) (m6 : mg "_law_kind" = some (.ref g6))
    (bS : Binds K fd ["_law_datum_here"] []) (mS : mg "_law_right" = some (.ref f)) : ∀ n : Nat, FnOk P w K mg base CX0 (n + 61) f fd ["_law_datum_here"] (spRt n)
  | 0 => ok_no fun vs H Q E h => by
    obtain ⟨d, v, _, _, _, h, _⟩ := h
    omega
  | n + 1 => ok_rt1 F mi mt ma mr G1 b1 k1 m1 G2 b2 kb2 k2 m2 G3 b3 k3 m3 G4 b4 kb4 k4 m4 G5 b5 kb5 k5 m5 G6 b6 k6 m6 (ok_rt F mi mt ma mr G1 b1 k1 m1 G2 b2 kb2 k2 m2 G3 b3 k3 m3 G4 b4 kb4 k4 m4 G5 b5 kb5 k5 m5 G6 b6 k6 m6 bS mS n) bS mS
end
theorem nums50 : ∀ k ∈ List.range 50, numOk (k : Int) = true := by decide +kernel
theorem num50 {k : Nat} (h : k < 50) : numOk (k : Int) = true := nums50 k (List.mem_range.mpr h)
theorem Same.sb {p : Addr} {H A B : Hp} (s : Same H A) (n : H p = none) (h : SB p A B) : Same H B := fun b o e => h b o (ne_of_none e n) (s b o e)
def spLaw (K : PySem.W.Frag) : Sp := fun vs H Q _ => ∃ (a : Addr) (ns : List Int), vs = [.ref a] ∧ SqL K H a (ns.map V.int) ∧ ns.length ≤ 63 ∧ ∀ H', Q (.bl true) H'
section
variable {P : Program} {w : World} {K : PySem.W.Frag} {mg : Str → Option Value} {base : Heap} {f : Addr} {fd : FuncData} {g1 g2 g3 g4 g5 g6 g7 g8 g9 : Addr} {gd1 gd2 gd3 gd4 gd5 gd6 gd7 gd8 gd9 : FuncData}
abbrev sLaw : Stmt := top 31
theorem scLaw : FnScope ["_law_script", "_law_cell", "_law_purse_here", "_law_datum_here", "_law_k", "_law_line"] ["_law_script"] (defScope sLaw) := ⟨rfl, rfl, rfl, by decide +kernel, rfl, by decide +kernel, by decide +kernel⟩
theorem ok_law (F : Fun K "law" "law" sLaw f fd) (mr : mg "range" = none)
    (G1 : FnOk P w K mg base CX0 61 g1 gd1 ["_law_item"] (spSaid 60)) (b1 : Binds K gd1 ["_law_item"] []) (k1 : PySem.W.keepIn K (.ref g1) = true) (m1 : mg "_law_said" = some (.ref g1))
    (G2 : FnOk P w K mg base CX0 5 g2 gd2 ["text"] spRead) (b2 : Binds K gd2 ["text"] []) (k2 : PySem.W.keepIn K (.ref g2) = true) (m2 : mg "read_data" = some (.ref g2))
    (G3 : FnOk P w K mg base CX0 1 g3 gd3 ["_law_script", "_law_k"] (spAt K)) (b3 : Binds K gd3 ["_law_script", "_law_k"] []) (k3 : PySem.W.keepIn K (.ref g3) = true) (m3 : mg "_law_at" = some (.ref g3))
    (G4 : FnOk P w K mg base CX0 2 g4 gd4 ["value"] spDt) (b4 : Binds K gd4 ["value"] []) (k4 : PySem.W.keepIn K (.ref g4) = true) (m4 : mg "data_text" = some (.ref g4))
    (G5 : FnOk P w K mg base CX0 2 g5 gd5 ["value"] spKind) (b5 : Binds K gd5 ["value"] []) (k5 : PySem.W.keepIn K (.ref g5) = true) (m5 : mg "kind_of" = some (.ref g5))
    (G6 : FnOk P w K mg base CX0 1 g6 gd6 ["_law_thing"] spLK) (b6 : Binds K gd6 ["_law_thing"] []) (k6 : PySem.W.keepIn K (.ref g6) = true) (m6 : mg "_law_kind" = some (.ref g6))
    (G7 : FnOk P w K mg base CX0 2 g7 gd7 ["_law_purse_here", "_law_steps"] spTake) (b7 : Binds K gd7 ["_law_purse_here", "_law_steps"] []) (k7 : PySem.W.keepIn K (.ref g7) = true) (m7 : mg "_law_take" = some (.ref g7))
    (G8 : FnOk P w K mg base CX0 2 g8 gd8 ["_law_cell", "_law_k"] spPur) (b8 : Binds K gd8 ["_law_cell", "_law_k"] []) (k8 : PySem.W.keepIn K (.ref g8) = true) (m8 : mg "_law_purse" = some (.ref g8))
    {gA gB : Addr} {gdA gdB : FuncData}
    (GA : FnOk P w K mg base CX0 8 gA gdA ["_law_purse_here", "_law_deep"] (spDat 6)) (bA : Binds K gdA ["_law_purse_here", "_law_deep"] []) (kA : PySem.W.keepIn K (.ref gA) = true) (mA : mg "_law_datum" = some (.ref gA))
    (GB : FnOk P w K mg base CX0 67 gB gdB ["_law_datum_here"] (spRt 6)) (bB : Binds K gdB ["_law_datum_here"] []) (kB : PySem.W.keepIn K (.ref gB) = true) (mB : mg "_law_right" = some (.ref gB)) :
    FnOk P w K mg base CX0 68 f fd ["_law_script"] (spLaw K) := by
  refine F.ok scLaw (fun vs H Q E h => ?_) (fun cdv A outer s H vs Q E hr h => ?_)
  · obtain ⟨a, ns, rfl, _⟩ := h
    rfl
  obtain ⟨sa, ns, rfl, hS, h63, q⟩ := h
  refine ⟨_, pss_cons (ps_for PassesOwn.never rfl (pi_list (pe_op op_cat (pe_slice sl_list (pv 0) po_none (po_some pe_int)) (pe_lst (pa_cons (pe_call G3 (hr.mono (by omega)) rfl m3 k3 b3 .nil pass0 (pa_cons (pv 0) (pa_cons pe_int pa_nil))) pa_nil)))) (pg_name (i := 1) scLaw.nd rfl (Or.inl rfl))
      (pss_cons (ps_set (i := 2) scLaw.nd rfl (.inl rfl) (pe_call G8 (hr.mono (by omega)) rfl m8 k8 b8 .nil pass0 (pa_cons (pv 1) (pa_cons pe_int pa_nil))))
      (pss_cons (ps_set (i := 3) scLaw.nd rfl (.inl rfl) (pe_call GA (hr.mono (by omega)) rfl mA kA bA .nil pass0 (pa_cons (pv 2) (pa_cons (pe_call G7 (hr.mono (by omega)) rfl m7 k7 b7 .nil pass0 (pa_cons (pv 2) (pa_cons pe_int pa_nil))) pa_nil))))
      (pss_one (ps_if (pt_cmpR op_eq (pe_call G7 (hr.mono (by omega)) rfl m7 k7 b7 .nil pass0 (pa_cons (pv 2) (pa_cons pe_int pa_nil))) pe_int (nomark _))
        (pss_cons (ps_for PassesOwn.never rfl (pi_range1 rfl mr (pa_cons pe_int pa_nil)) (pg_name (i := 4) scLaw.nd rfl (Or.inl rfl))
            (pss_one (ps_set (i := 3) scLaw.nd rfl (.inl rfl) (pe_ix ix_list (pe_lst (pa_cons (pe_tup (pa_cons (pv 3) pa_nil)) (pa_cons (pe_tup (pa_cons (pv 3) (pa_cons (pv 4) pa_nil))) pa_nil))) (pe_call G7 (hr.mono (by omega)) rfl m7 k7 b7 .nil pass0 (pa_cons (pv 2) (pa_cons pe_int pa_nil))) (fun _ _ => rfl)))))
        (pss_cons (ps_set (i := 5) scLaw.nd rfl (.inl rfl) (pe_call G1 (hr.mono (by omega)) rfl m1 k1 b1 .nil pass0 (pa_cons (pv 3) pa_nil)))
        (pss_one (ps_if (PW.pt (pw_or (pt_cmpR op_ne (pe_call G4 (hr.mono (by omega)) rfl m4 k4 b4 .nil pass0 (pa_cons (pe_call G2 (hr.mono (by omega)) rfl m2 k2 b2 .nil pass0 (pa_cons (pv 5) pa_nil)) pa_nil)) (pv 5) (nomark _))
            (pw_or1 (pt_cmpR op_ne (pe_call G5 (hr.mono (by omega)) rfl m5 k5 b5 .nil pass0 (pa_cons (pe_call G2 (hr.mono (by omega)) rfl m2 k2 b2 .nil pass0 (pa_cons (pv 5) pa_nil)) pa_nil)) (pe_call G6 (hr.mono (by omega)) rfl m6 k6 b6 .nil pass0 (pa_cons (pv 3) pa_nil)) (nomark _)))))
          (pss_one (ps_ret pe_bl)) pss_nil))))
        (pss_one (ps_if (pt_not (pt_val (pe_call GB hr rfl mB kB bB .nil pass0 (pa_cons (pv 3) pa_nil)))) (pss_one (ps_ret pe_bl)) pss_nil)))))))
    (pss_one (ps_ret pe_bl)), ?_⟩
  have esz := sizeLine_eq
  refine ⟨_, rfl, 8, rfl, sa, _, rfl, hS, fun p1 hp1 => ?_⟩
  have hints : ∀ y ∈ cutV (ns.map V.int) none (some 8), ∃ c, y = V.int c := fun y hy => by
    have h1 := List.mem_of_mem_drop (List.mem_of_mem_take hy)
    obtain ⟨c, _, e⟩ := List.mem_map.mp h1
    exact ⟨c, e.symm⟩
  have hcl : (cutV (ns.map V.int) none (some 8)).length ≤ 63 := by
    have := cutV_length (ns.map V.int) none (some 8)
    rw [List.length_map] at this
    omega
  generalize cutV (ns.map V.int) none (some 8) = cs at hints hcl ⊢
  refine ⟨_, rfl, sa, ns, rfl, (same_new hp1 _).seq hS, fun x => ?_⟩
  refine ⟨(by show 1 ≤ sizeLine; decide), fun p2 hp2 => ?_⟩
  refine ⟨p1, p2, cs, [.int x], rfl, rfl, (by rw [upd_ne (ne_of_none upd_same hp2)]; exact upd_same), upd_same, (by show cs.length + 1 ≤ _; omega), fun LL hLL => ?_⟩
  have hLLs : upd (upd (upd H p1 (.lst cs)) p2 (.lst [.int x])) LL (.lst (cs ++ [.int x])) LL = some (.lst (cs ++ [.int x])) := upd_same
  generalize upd (upd (upd H p1 (.lst cs)) p2 (.lst [.int x])) LL (.lst (cs ++ [.int x])) = H3 at hLLs ⊢
  refine ⟨LL, rfl, ⟨_, SqL.of hLLs⟩, for_list (xs := cs ++ [.int x]) (fun i σ H' => ∃ r1 r2 r3 r4 r5, σ = [some (.ref sa), r1, r2, r3, r4, r5] ∧ Same H3 H') ⟨_, _, _, _, _, rfl, Same.refl _⟩ (fun i σ H' _ h => by
    obtain ⟨_, _, _, _, _, _, sm⟩ := h
    exact SqL.of (sm _ _ hLLs)) ?_ (fun σ H' _ => q H')⟩
  rintro i y σ H' hy ⟨r1, r2, r3, r4, r5, rfl, sm⟩
  obtain ⟨c, rfl⟩ : ∃ c, y = V.int c := by
    rcases List.mem_append.mp (List.mem_of_getElem? hy) with h | h
    · exact hints y h
    · exact ⟨x, by simpa using h⟩
  refine ⟨_, rfl, c, rfl, fun a0 x0 p po hp => ?_⟩
  have hp3 : H3 p = none := sm.free hp
  have hpp : upd H' p (.lst (purse a0 0 x0)) p = some (.lst (purse a0 0 x0)) := upd_same
  have sm4 : Same H3 (upd H' p (.lst (purse a0 0 x0))) := sm.trans (same_new hp _)
  generalize upd H' p (.lst (purse a0 0 x0)) = H4 at hpp sm4 ⊢
  refine ⟨_, rfl, _, rfl, p, 5, a0, 0, x0, rfl, by decide, by decide, hpp, po, by decide, fun r a1 b1' hr0 hr1 po1 hb1 => ?_⟩
  have hp5 : upd H4 p (.lst (purse a1 b1' x0)) p = some (.lst (purse a1 b1' x0)) := upd_same
  have sm5 : Same H3 (upd H4 p (.lst (purse a1 b1' x0))) := same_upd sm4 hp3 _
  generalize upd H4 p (.lst (purse a1 b1' x0)) = H5 at hp5 sm5 ⊢
  obtain ⟨m, rfl⟩ : ∃ m : Nat, r = (m : Int) := ⟨r.toNat, by omega⟩
  have hTm : Td m ≤ 242 ∧ Wd m ≤ 3521 := by
    have : m = 0 ∨ m = 1 ∨ m = 2 ∨ m = 3 ∨ m = 4 := by omega
    rcases this with rfl | rfl | rfl | rfl | rfl <;> decide
  refine ⟨p, m, a1, b1', x0, rfl, by omega, hp5, po1, by omega, fun d v H6 a2 b2' sb6 hp6 po2 hb2 rp ok dp sd => ?_⟩
  have sm6 : Same H3 H6 := Same.sb sm5 hp3 sb6
  refine ⟨_, rfl, p, 8, a2, b2', x0, rfl, by decide, by decide, hp6, po2, by omega, fun r7 a7 b7' _ _ po7 hb7 => ?_⟩
  refine ⟨rfl, _, rfl, ?_⟩
  have hp7 : upd H6 p (.lst (purse a7 b7' x0)) p = some (.lst (purse a7 b7' x0)) := upd_same
  have sm7 : Same H3 (upd H6 p (.lst (purse a7 b7' x0))) := same_upd sm6 hp3 _
  have rp7 : Rep (upd H6 p (.lst (purse a7 b7' x0))) d v := rp.mono (Tups.lst hp6 _)
  generalize upd H6 p (.lst (purse a7 b7' x0)) = H7 at hp7 sm7 rp7 ⊢
  refine ite2 (fun _ => ?_) (fun _ => ?_)
  · refine ⟨50, rfl, by decide, by decide, for_range (n := 50) (fun j σ H'' => ∃ (d : D) (v : V) (a b : Int) (q1 q4 q5 : Option V), σ = [some (.ref sa), q1, some (.ref p), some v, q4, q5] ∧ H'' p = some (.lst (purse a b x0)) ∧ PO a b x0 ∧ b ≤ 300 + (j : Int) ∧
      Rep H'' d v ∧ okD d = true ∧ depth d ≤ 4 + j ∧ (said d).length ≤ 3521 + 44 * j ∧ Same H3 H'') ⟨d, v, a7, b7', _, _, _, rfl, hp7, po7, by omega, rp7, ok, by omega, by omega, sm7⟩ ?_ ?_⟩
    · rintro j σ H8 hj ⟨d, v, a, b, q1, q4, q5, rfl, hp8, po8, hb8, rp8, ok8, dp8, sd8, sm8⟩
      refine ⟨_, rfl, (by show 1 ≤ sizeLine; decide), fun t1 ht1 => ?_⟩
      have h81 := same_new ht1 (.tup [v])
      have ht1s : upd H8 t1 (.tup [v]) t1 = some (.tup [v]) := upd_same
      generalize upd H8 t1 (.tup [v]) = H9 at h81 ht1s ⊢
      refine ⟨_, rfl, _, rfl, (by show 2 ≤ sizeLine; decide), fun t2 ht2 => ?_⟩
      have h92 := same_new ht2 (.tup [v, .int (0 + (j : Int))])
      have ht2s : upd H9 t2 (.tup [v, .int (0 + (j : Int))]) t2 = some (.tup [v, .int (0 + (j : Int))]) := upd_same
      generalize upd H9 t2 (.tup [v, .int (0 + (j : Int))]) = H10 at h92 ht2s ⊢
      refine ⟨(by show 2 ≤ sizeLine; decide), fun L hL => ?_⟩
      have h10L := same_new hL (.lst [.ref t1, .ref t2])
      have hLs : upd H10 L (.lst [.ref t1, .ref t2]) L = some (.lst [.ref t1, .ref t2]) := upd_same
      generalize upd H10 L (.lst [.ref t1, .ref t2]) = H11 at h10L hLs ⊢
      have hall : Same H8 H11 := (h81.trans h92).trans h10L
      have hp11 := hall _ _ hp8
      have hLp : L ≠ p := ne_of hLs hp11 (by
        intro z
        have z1 : (2 : Nat) = 3 := congrArg List.length (HO.lst.inj z)
        exact absurd z1 (by decide))
      refine ⟨_, rfl, p, 2, a, b, x0, rfl, by decide, by decide, hp11, po8, by omega, fun r a' b' hr0 hr1 po' hb' => ?_⟩
      have hp12 : upd H11 p (.lst (purse a' b' x0)) p = some (.lst (purse a' b' x0)) := upd_same
      have tp12 : Tups H11 (upd H11 p (.lst (purse a' b' x0))) := Tups.lst hp11 _
      have sm12 : Same H3 (upd H11 p (.lst (purse a' b' x0))) := same_upd (sm8.trans hall) hp3 _
      have hL12 : upd H11 p (.lst (purse a' b' x0)) L = some (.lst [.ref t1, .ref t2]) := by rw [upd_ne hLp]; exact hLs
      generalize upd H11 p (.lst (purse a' b' x0)) = H12 at hp12 tp12 sm12 hL12 ⊢
      have tp8 : Tups H8 H12 := (Tups.of hall).trans tp12
      have rv : Rep H12 d v := rp8.mono tp8
      have ht1' : H12 t1 = some (.tup [v]) := tp12 _ _ ((h92.trans h10L) _ _ ht1s)
      have ht2' : H12 t2 = some (.tup [v, .int (0 + (j : Int))]) := tp12 _ _ (h10L _ _ ht2s)
      have hr01 : r = ((0 : Nat) : Int) ∨ r = ((1 : Nat) : Int) := by omega
      rcases hr01 with rfl | rfl
      · refine ⟨L, _, _, .ref t1, rfl, rfl, SqL.of hL12, atI_nat (j := 0) rfl, ?_⟩
        refine ⟨.lst [d], .ref t1, a', b', _, _, _, rfl, hp12, po', by omega, ⟨t1, [v], rfl, ht1', v, [], rfl, rv, rfl⟩, ?_, ?_, ?_, sm12⟩
        · show (okD d && true) = true
          rw [ok8]; rfl
        · show max (depth d) 0 + 1 ≤ _
          omega
        · show (40 :: ((said d ++ []) ++ [41])).length ≤ _
          rw [List.append_nil, List.length_cons, List.length_append]
          show (said d).length + 1 + 1 ≤ _
          omega
      · refine ⟨L, _, _, .ref t2, rfl, rfl, SqL.of hL12, atI_nat (j := 1) rfl, ?_⟩
        have okj : numOk (0 + (j : Int)) = true := by rw [Int.zero_add]; exact num50 hj
        obtain ⟨h1, h2, h3⟩ := leafN okj 0
        have h3' : (txtN (0 + (j : Int))).length ≤ 41 := h3
        refine ⟨.lst [d, .num (0 + (j : Int))], .ref t2, a', b', _, _, _, rfl, hp12, po', by omega, ⟨t2, _, rfl, ht2', v, _, rfl, rv, _, [], rfl, rfl, rfl⟩, ?_, ?_, ?_, sm12⟩
        · show (okD d && (numOk (0 + (j : Int)) && true)) = true
          rw [ok8, okj]; rfl
        · show max (depth d) (max 0 0) + 1 ≤ _
          omega
        · show (40 :: ((said d ++ 32 :: (txtN (0 + (j : Int)) ++ [])) ++ [41])).length ≤ _
          rw [List.append_nil, List.length_cons, List.length_append, List.length_append, List.length_cons]
          show (said d).length + ((txtN (0 + (j : Int))).length + 1) + 1 + 1 ≤ _
          omega
    · rintro σ H8 ⟨d, v, a, b, q1, q4, q5, rfl, hp8, po8, hb8, rp8, ok8, dp8, sd8, sm8⟩
      have hzl : (mk (said d)).length ≤ sizeLine := by rw [len_mk]; omega
      refine ⟨_, rfl, d, v, rfl, rp8, ok8, by omega, by omega, fun H9 sm9 => ?_⟩
      refine ⟨_, rfl, mk (said d), d, rfl, hzl, rfl, ok8, fun v1 H10 sm10 rp10 => ?_⟩
      refine ⟨d, v1, rfl, rp10, ok8, by omega, fun H11 sm11 => ?_⟩
      refine ⟨_, rfl, rfl, _, rfl, iteNS rfl ?_⟩
      refine ⟨_, rfl, mk (said d), d, rfl, hzl, rfl, ok8, fun v2 H12 sm12 rp12 => ?_⟩
      refine ⟨d, v2, rfl, rp12, ok8, ?_⟩
      have sm812 : Same H8 H12 := ((sm9.trans sm10).trans sm11).trans sm12
      refine ⟨_, rfl, d, v, rfl, rp8.mono (Tups.of sm812), ok8, fun H13 sm13 => ?_⟩
      refine ⟨rfl, _, rfl, iteNS rfl ?_⟩
      exact ⟨_, _, _, _, _, rfl, (sm8.trans sm812).trans sm13⟩
  · refine ⟨_, rfl, d, v, rfl, rp7, ok, by omega, by omega, by omega, fun H8 sm8 => ?_⟩
    refine ⟨_, rfl, iteF ?_⟩
    exact ⟨_, _, _, _, _, rfl, sm7.trans sm8⟩
end
end K1
namespace K1
open PySem L2
set_option maxHeartbeats 8000000 in
theorem all_mk {l : PySem.W.OpenLaw} {w : World} {K : PySem.W.Frag} {h : Heap} {mg : Str → Option Value} {fa : Addr} (X : K.In h) (G : h.Ns mainGlobals mg) (hfa : mg "law" = some (.ref fa))
    {f0 f1 f2 f3 f4 f5 f6 f7 f8 f9 f10 f11 f12 f13 f14 f15 f16 f17 f18 f19 f20 dP CFun CBuilt : Addr} {od0 an0 od1 an1 od2 an2 od3 an3 od4 an4 od5 an5 od6 an6 od7 an7 od8 an8 od9 an9 od10 an10 od11 an11 od12 an12 od13 an13 od14 an14 od15 an15 od16 an16 od17 an17 od18 an18 od19 an19 od20 an20 : Option Addr} {sl0 sl1 sl2 sl3 sl4 sl5 sl6 sl7 sl8 sl9 sl10 sl11 sl12 sl13 sl14 sl15 sl16 sl17 sl18 sl19 sl20 : Array (Option Value)} {oc0 kV0 dc0 pm0 cd0 ct0 oc1 kV1 dc1 pm1 cd1 ct1 oc2 kV2 dc2 pm2 cd2 ct2 oc3 kV3 dc3 pm3 cd3 ct3 oc4 kV4 dc4 pm4 cd4 ct4 oc5 kV5 dc5 pm5 cd5 ct5 oc6 kV6 dc6 pm6 cd6 ct6 oc7 kV7 dc7 pm7 cd7 ct7 oc8 kV8 dc8 pm8 cd8 ct8 oc9 kV9 dc9 pm9 cd9 ct9 oc10 kV10 dc10 pm10 cd10 ct10 oc11 kV11 dc11 pm11 cd11 ct11 oc12 kV12 dc12 pm12 cd12 ct12 oc13 kV13 dc13 pm13 cd13 ct13 oc14 kV14 dc14 pm14 cd14 ct14 oc15 kV15 dc15 pm15 cd15 ct15 oc16 kV16 dc16 pm16 cd16 ct16 oc17 kV17 dc17 pm17 cd17 ct17 oc18 kV18 dc18 pm18 cd18 ct18 oc19 kV19 dc19 pm19 cd19 ct19 oc20 kV20 dc20 pm20 cd20 ct20 : Value} {tf tl : Tok} {u_say u_if u_fun u_let u_hold u_heed u_up : Value} {esP : Array DictEntry} {nP : Nat}
    (a0 : PySem.W.nsIn K mainGlobals "is_word" = some (some (.ref f0)))
    (l0 : K.lookup f0 = some ⟨oc0, od0, .func (PySem.W.fnOf "is_word" "is_word" (defArgs (top 6)) (defBody (top 6)) (defScope (top 6)) .none kV0 dc0 pm0 an0 cd0 ct0), sl0⟩)
    (c0 : PySem.W.codeIn K cd0 "is_word" = true)
    (k0 : PySem.W.keepIn K (.ref f0) = true)
    (a1 : PySem.W.nsIn K mainGlobals "is_list" = some (some (.ref f1)))
    (l1 : K.lookup f1 = some ⟨oc1, od1, .func (PySem.W.fnOf "is_list" "is_list" (defArgs (top 7)) (defBody (top 7)) (defScope (top 7)) .none kV1 dc1 pm1 an1 cd1 ct1), sl1⟩)
    (c1 : PySem.W.codeIn K cd1 "is_list" = true)
    (k1 : PySem.W.keepIn K (.ref f1) = true)
    (a2 : PySem.W.nsIn K mainGlobals "run_end" = some (some (.ref f2)))
    (l2 : K.lookup f2 = some ⟨oc2, od2, .func (PySem.W.fnOf "run_end" "run_end" (defArgs (top 12)) (defBody (top 12)) (defScope (top 12)) .none kV2 dc2 pm2 an2 cd2 ct2), sl2⟩)
    (c2 : PySem.W.codeIn K cd2 "run_end" = true)
    (k2 : PySem.W.keepIn K (.ref f2) = true)
    (a3 : PySem.W.nsIn K mainGlobals "number_end" = some (some (.ref f3)))
    (l3 : K.lookup f3 = some ⟨oc3, od3, .func (PySem.W.fnOf "number_end" "number_end" (defArgs (top 13)) (defBody (top 13)) (defScope (top 13)) .none kV3 dc3 pm3 an3 cd3 ct3), sl3⟩)
    (c3 : PySem.W.codeIn K cd3 "number_end" = true)
    (k3 : PySem.W.keepIn K (.ref f3) = true)
    (a4 : PySem.W.nsIn K mainGlobals "read_leaf" = some (some (.ref f4)))
    (l4 : K.lookup f4 = some ⟨oc4, od4, .func (PySem.W.fnOf "read_leaf" "read_leaf" (defArgs (top 14)) (defBody (top 14)) (defScope (top 14)) .none kV4 dc4 pm4 an4 cd4 ct4), sl4⟩)
    (c4 : PySem.W.codeIn K cd4 "read_leaf" = true)
    (k4 : PySem.W.keepIn K (.ref f4) = true)
    (a5 : PySem.W.nsIn K mainGlobals "read_parts" = some (some (.ref f5)))
    (l5 : K.lookup f5 = some ⟨oc5, od5, .func (PySem.W.fnOf "read_parts" "read_parts" (defArgs (top 15)) (defBody (top 15)) (defScope (top 15)) .none kV5 dc5 pm5 an5 cd5 ct5), sl5⟩)
    (c5 : PySem.W.codeIn K cd5 "read_parts" = true)
    (k5 : PySem.W.keepIn K (.ref f5) = true)
    (a6 : PySem.W.nsIn K mainGlobals "read_data" = some (some (.ref f6)))
    (l6 : K.lookup f6 = some ⟨oc6, od6, .func (PySem.W.fnOf "read_data" "read_data" (defArgs (top 16)) (defBody (top 16)) (defScope (top 16)) .none kV6 dc6 pm6 an6 cd6 ct6), sl6⟩)
    (c6 : PySem.W.codeIn K cd6 "read_data" = true)
    (k6 : PySem.W.keepIn K (.ref f6) = true)
    (a7 : PySem.W.nsIn K mainGlobals "leaf_text" = some (some (.ref f7)))
    (l7 : K.lookup f7 = some ⟨oc7, od7, .func (PySem.W.fnOf "leaf_text" "leaf_text" (defArgs (top 17)) (defBody (top 17)) (defScope (top 17)) .none kV7 dc7 pm7 an7 cd7 ct7), sl7⟩)
    (c7 : PySem.W.codeIn K cd7 "leaf_text" = true)
    (k7 : PySem.W.keepIn K (.ref f7) = true)
    (a8 : PySem.W.nsIn K mainGlobals "data_text" = some (some (.ref f8)))
    (l8 : K.lookup f8 = some ⟨oc8, od8, .func (PySem.W.fnOf "data_text" "data_text" (defArgs (top 18)) (defBody (top 18)) (defScope (top 18)) .none kV8 dc8 pm8 an8 cd8 ct8), sl8⟩)
    (c8 : PySem.W.codeIn K cd8 "data_text" = true)
    (k8 : PySem.W.keepIn K (.ref f8) = true)
    (a9 : PySem.W.nsIn K mainGlobals "kind_of" = some (some (.ref f9)))
    (l9 : K.lookup f9 = some ⟨oc9, od9, .func (PySem.W.fnOf "kind_of" "kind_of" (defArgs (top 19)) (defBody (top 19)) (defScope (top 19)) .none kV9 dc9 pm9 an9 cd9 ct9), sl9⟩)
    (c9 : PySem.W.codeIn K cd9 "kind_of" = true)
    (k9 : PySem.W.keepIn K (.ref f9) = true)
    (a10 : PySem.W.nsIn K mainGlobals "_law_mixed" = some (some (.ref f10)))
    (l10 : K.lookup f10 = some ⟨oc10, od10, .func (PySem.W.fnOf "_law_mixed" "_law_mixed" (defArgs (top 21)) (defBody (top 21)) (defScope (top 21)) .none kV10 dc10 pm10 an10 cd10 ct10), sl10⟩)
    (c10 : PySem.W.codeIn K cd10 "_law_mixed" = true)
    (k10 : PySem.W.keepIn K (.ref f10) = true)
    (a11 : PySem.W.nsIn K mainGlobals "_law_purse" = some (some (.ref f11)))
    (l11 : K.lookup f11 = some ⟨oc11, od11, .func (PySem.W.fnOf "_law_purse" "_law_purse" (defArgs (top 22)) (defBody (top 22)) (defScope (top 22)) .none kV11 dc11 pm11 an11 cd11 ct11), sl11⟩)
    (c11 : PySem.W.codeIn K cd11 "_law_purse" = true)
    (k11 : PySem.W.keepIn K (.ref f11) = true)
    (a12 : PySem.W.nsIn K mainGlobals "_law_take" = some (some (.ref f12)))
    (l12 : K.lookup f12 = some ⟨oc12, od12, .func (PySem.W.fnOf "_law_take" "_law_take" (defArgs (top 23)) (defBody (top 23)) (defScope (top 23)) .none kV12 dc12 pm12 an12 cd12 ct12), sl12⟩)
    (c12 : PySem.W.codeIn K cd12 "_law_take" = true)
    (k12 : PySem.W.keepIn K (.ref f12) = true)
    (a13 : PySem.W.nsIn K mainGlobals "_law_at" = some (some (.ref f13)))
    (l13 : K.lookup f13 = some ⟨oc13, od13, .func (PySem.W.fnOf "_law_at" "_law_at" (defArgs (top 24)) (defBody (top 24)) (defScope (top 24)) .none kV13 dc13 pm13 an13 cd13 ct13), sl13⟩)
    (c13 : PySem.W.codeIn K cd13 "_law_at" = true)
    (k13 : PySem.W.keepIn K (.ref f13) = true)
    (a14 : PySem.W.nsIn K mainGlobals "_law_leaf_text" = some (some (.ref f14)))
    (l14 : K.lookup f14 = some ⟨oc14, od14, .func (PySem.W.fnOf "_law_leaf_text" "_law_leaf_text" (defArgs (top 25)) (defBody (top 25)) (defScope (top 25)) .none kV14 dc14 pm14 an14 cd14 ct14), sl14⟩)
    (c14 : PySem.W.codeIn K cd14 "_law_leaf_text" = true)
    (k14 : PySem.W.keepIn K (.ref f14) = true)
    (a15 : PySem.W.nsIn K mainGlobals "_law_said" = some (some (.ref f15)))
    (l15 : K.lookup f15 = some ⟨oc15, od15, .func (PySem.W.fnOf "_law_said" "_law_said" (defArgs (top 26)) (defBody (top 26)) (defScope (top 26)) .none kV15 dc15 pm15 an15 cd15 ct15), sl15⟩)
    (c15 : PySem.W.codeIn K cd15 "_law_said" = true)
    (k15 : PySem.W.keepIn K (.ref f15) = true)
    (a16 : PySem.W.nsIn K mainGlobals "_law_kind" = some (some (.ref f16)))
    (l16 : K.lookup f16 = some ⟨oc16, od16, .func (PySem.W.fnOf "_law_kind" "_law_kind" (defArgs (top 27)) (defBody (top 27)) (defScope (top 27)) .none kV16 dc16 pm16 an16 cd16 ct16), sl16⟩)
    (c16 : PySem.W.codeIn K cd16 "_law_kind" = true)
    (k16 : PySem.W.keepIn K (.ref f16) = true)
    (a17 : PySem.W.nsIn K mainGlobals "_law_datum" = some (some (.ref f17)))
    (l17 : K.lookup f17 = some ⟨oc17, od17, .func (PySem.W.fnOf "_law_datum" "_law_datum" (defArgs (top 28)) (defBody (top 28)) (defScope (top 28)) .none kV17 dc17 pm17 an17 cd17 ct17), sl17⟩)
    (c17 : PySem.W.codeIn K cd17 "_law_datum" = true)
    (k17 : PySem.W.keepIn K (.ref f17) = true)
    (a18 : PySem.W.nsIn K mainGlobals "_law_one_kind" = some (some (.ref f18)))
    (l18 : K.lookup f18 = some ⟨oc18, od18, .func (PySem.W.fnOf "_law_one_kind" "_law_one_kind" (defArgs (top 29)) (defBody (top 29)) (defScope (top 29)) .none kV18 dc18 pm18 an18 cd18 ct18), sl18⟩)
    (c18 : PySem.W.codeIn K cd18 "_law_one_kind" = true)
    (k18 : PySem.W.keepIn K (.ref f18) = true)
    (a19 : PySem.W.nsIn K mainGlobals "_law_right" = some (some (.ref f19)))
    (l19 : K.lookup f19 = some ⟨oc19, od19, .func (PySem.W.fnOf "_law_right" "_law_right" (defArgs (top 30)) (defBody (top 30)) (defScope (top 30)) .none kV19 dc19 pm19 an19 cd19 ct19), sl19⟩)
    (c19 : PySem.W.codeIn K cd19 "_law_right" = true)
    (k19 : PySem.W.keepIn K (.ref f19) = true)
    (a20 : PySem.W.nsIn K mainGlobals "law" = some (some (.ref f20)))
    (l20 : K.lookup f20 = some ⟨oc20, od20, .func (PySem.W.fnOf "law" "law" (defArgs (top 31)) (defBody (top 31)) (defScope (top 31)) .none kV20 dc20 pm20 an20 cd20 ct20), sl20⟩)
    (c20 : PySem.W.codeIn K cd20 "law" = true)
    (k20 : PySem.W.keepIn K (.ref f20) = true)
    (z_len : PySem.W.nsIn K mainGlobals "len" = some none)
    (z_isinstance : PySem.W.nsIn K mainGlobals "isinstance" = some none)
    (z_int : PySem.W.nsIn K mainGlobals "int" = some none)
    (z_str : PySem.W.nsIn K mainGlobals "str" = some none)
    (z_tuple : PySem.W.nsIn K mainGlobals "tuple" = some none)
    (z_list : PySem.W.nsIn K mainGlobals "list" = some none)
    (z_bool : PySem.W.nsIn K mainGlobals "bool" = some none)
    (z_range : PySem.W.nsIn K mainGlobals "range" = some none)
    (z_all : PySem.W.nsIn K mainGlobals "all" = some none)
    (z_zip : PySem.W.nsIn K mainGlobals "zip" = some none)
    (n_fig : PySem.W.nsIn K mainGlobals "FIGURES" = some (some (.int 40 tf)))
    (n_let : PySem.W.nsIn K mainGlobals "LETTERS" = some (some (.int 12 tl)))
    (n_parts : PySem.W.nsIn K mainGlobals "PARTS" = some (some (.ref dP)))
    (d_at : K.lookup dP = some ⟨.type "dict", none, .dict esP nP, #[]⟩)
    (d_lit : PySem.W.KeysLit w.params esP.toList)
    (d_low : (dP == sysModules) = false)
    (p_say : PySem.W.nsIn K dP "say" = some (some u_say))
    (p_if : PySem.W.nsIn K dP "if" = some (some u_if))
    (p_fun : PySem.W.nsIn K dP "fun" = some (some u_fun))
    (p_let : PySem.W.nsIn K dP "let" = some (some u_let))
    (p_hold : PySem.W.nsIn K dP "hold" = some (some u_hold))
    (p_heed : PySem.W.nsIn K dP "heed" = some (some u_heed))
    (p_up : PySem.W.nsIn K dP "up" = some (some u_up))
    (p_give : PySem.W.nsIn K dP "give" = some none)
    (p_put : PySem.W.nsIn K dP "put" = some none)
    (p_a : PySem.W.nsIn K dP "a" = some none)
    (p_zz : PySem.W.nsIn K dP "zz" = some none)
    (p_abcdefghijkl : PySem.W.nsIn K dP "abcdefghijkl" = some none)
    (p_yess : PySem.W.nsIn K dP "yess" = some none)
    (p_noo : PySem.W.nsIn K dP "noo" = some none)
    (p_plus : PySem.W.nsIn K dP "plus" = some none)
    (p_x : PySem.W.nsIn K dP "x" = some none)
    (n_Fun : PySem.W.nsIn K mainGlobals "Fun" = some (some (.ref CFun)))
    (i_Fun_int : PySem.W.kitOne K (.type "int") (.ref CFun) = some false)
    (i_Fun_str : PySem.W.kitOne K (.type "str") (.ref CFun) = some false)
    (n_Built : PySem.W.nsIn K mainGlobals "Built" = some (some (.ref CBuilt)))
    (i_Built_int : PySem.W.kitOne K (.type "int") (.ref CBuilt) = some false)
    (i_Built_str : PySem.W.kitOne K (.type "str") (.ref CBuilt) = some false)
    : ∃ fd : FuncData, (∀ (s : Shared) (v : Value), BindsTo s fd ⟨[v], []⟩ [("_law_script", v)]) ∧ ∀ base : Heap, K.In base → base.Ns mainGlobals mg → FnOk l.prog w K mg base CX0 68 fa fd ["_law_script"] (spLaw K) := by
  have e := hfa.symm.trans (PySem.W.mg_of X G a20)
  cases e
  have F0 := fun_mk (st := top 6) l0 c0 k0
  have M0 := PySem.W.mg_of X G a0
  have b0 := F0.binds (ps := ["value"]) fun _ _ _ _ _ _ us hl => match us, hl with | [_], _ => rfl
  have F1 := fun_mk (st := top 7) l1 c1 k1
  have M1 := PySem.W.mg_of X G a1
  have b1 := F1.binds (ps := ["value"]) fun _ _ _ _ _ _ us hl => match us, hl with | [_], _ => rfl
  have F2 := fun_mk (st := top 12) l2 c2 k2
  have M2 := PySem.W.mg_of X G a2
  have b2 := F2.binds (ps := ["text", "at", "most", "low", "high"]) fun _ _ _ _ _ _ us hl => match us, hl with | [_, _, _, _, _], _ => rfl
  have F3 := fun_mk (st := top 13) l3 c3 k3
  have M3 := PySem.W.mg_of X G a3
  have b3 := F3.binds (ps := ["text", "at"]) fun _ _ _ _ _ _ us hl => match us, hl with | [_, _], _ => rfl
  have F4 := fun_mk (st := top 14) l4 c4 k4
  have M4 := PySem.W.mg_of X G a4
  have b4 := F4.binds (ps := ["text", "at"]) fun _ _ _ _ _ _ us hl => match us, hl with | [_, _], _ => rfl
  have F5 := fun_mk (st := top 15) l5 c5 k5
  have M5 := PySem.W.mg_of X G a5
  have b5 := F5.binds (ps := ["text"]) fun _ _ _ _ _ _ us hl => match us, hl with | [_], _ => rfl
  have F6 := fun_mk (st := top 16) l6 c6 k6
  have M6 := PySem.W.mg_of X G a6
  have b6 := F6.binds (ps := ["text"]) fun _ _ _ _ _ _ us hl => match us, hl with | [_], _ => rfl
  have F7 := fun_mk (st := top 17) l7 c7 k7
  have M7 := PySem.W.mg_of X G a7
  have b7 := F7.binds (ps := ["value"]) fun _ _ _ _ _ _ us hl => match us, hl with | [_], _ => rfl
  have F8 := fun_mk (st := top 18) l8 c8 k8
  have M8 := PySem.W.mg_of X G a8
  have b8 := F8.binds (ps := ["value"]) fun _ _ _ _ _ _ us hl => match us, hl with | [_], _ => rfl
  have F9 := fun_mk (st := top 19) l9 c9 k9
  have M9 := PySem.W.mg_of X G a9
  have b9 := F9.binds (ps := ["value"]) fun _ _ _ _ _ _ us hl => match us, hl with | [_], _ => rfl
  have F10 := fun_mk (st := top 21) l10 c10 k10
  have M10 := PySem.W.mg_of X G a10
  have b10 := F10.binds (ps := ["_law_cell", "_law_k"]) fun _ _ _ _ _ _ us hl => match us, hl with | [_, _], _ => rfl
  have F11 := fun_mk (st := top 22) l11 c11 k11
  have M11 := PySem.W.mg_of X G a11
  have b11 := F11.binds (ps := ["_law_cell", "_law_k"]) fun _ _ _ _ _ _ us hl => match us, hl with | [_, _], _ => rfl
  have F12 := fun_mk (st := top 23) l12 c12 k12
  have M12 := PySem.W.mg_of X G a12
  have b12 := F12.binds (ps := ["_law_purse_here", "_law_steps"]) fun _ _ _ _ _ _ us hl => match us, hl with | [_, _], _ => rfl
  have F13 := fun_mk (st := top 24) l13 c13 k13
  have M13 := PySem.W.mg_of X G a13
  have b13 := F13.binds (ps := ["_law_script", "_law_k"]) fun _ _ _ _ _ _ us hl => match us, hl with | [_, _], _ => rfl
  have F14 := fun_mk (st := top 25) l14 c14 k14
  have M14 := PySem.W.mg_of X G a14
  have b14 := F14.binds (ps := ["_law_item"]) fun _ _ _ _ _ _ us hl => match us, hl with | [_], _ => rfl
  have F15 := fun_mk (st := top 26) l15 c15 k15
  have M15 := PySem.W.mg_of X G a15
  have b15 := F15.binds (ps := ["_law_item"]) fun _ _ _ _ _ _ us hl => match us, hl with | [_], _ => rfl
  have F16 := fun_mk (st := top 27) l16 c16 k16
  have M16 := PySem.W.mg_of X G a16
  have b16 := F16.binds (ps := ["_law_thing"]) fun _ _ _ _ _ _ us hl => match us, hl with | [_], _ => rfl
  have F17 := fun_mk (st := top 28) l17 c17 k17
  have M17 := PySem.W.mg_of X G a17
  have b17 := F17.binds (ps := ["_law_purse_here", "_law_deep"]) fun _ _ _ _ _ _ us hl => match us, hl with | [_, _], _ => rfl
  have F18 := fun_mk (st := top 29) l18 c18 k18
  have M18 := PySem.W.mg_of X G a18
  have b18 := F18.binds (ps := ["_law_one", "_law_other"]) fun _ _ _ _ _ _ us hl => match us, hl with | [_, _], _ => rfl
  have F19 := fun_mk (st := top 30) l19 c19 k19
  have M19 := PySem.W.mg_of X G a19
  have b19 := F19.binds (ps := ["_law_datum_here"]) fun _ _ _ _ _ _ us hl => match us, hl with | [_], _ => rfl
  have F20 := fun_mk (st := top 31) l20 c20 k20
  have M20 := PySem.W.mg_of X G a20
  have zlen := PySem.W.mg_none_of X G z_len
  have zisinstance := PySem.W.mg_none_of X G z_isinstance
  have zint := PySem.W.mg_none_of X G z_int
  have zstr := PySem.W.mg_none_of X G z_str
  have ztuple := PySem.W.mg_none_of X G z_tuple
  have zlist := PySem.W.mg_none_of X G z_list
  have zbool := PySem.W.mg_none_of X G z_bool
  have zrange := PySem.W.mg_none_of X G z_range
  have zall := PySem.W.mg_none_of X G z_all
  have zzip := PySem.W.mg_none_of X G z_zip
  have nfig := PySem.W.mg_of X G n_fig
  have nlet := PySem.W.mg_of X G n_let
  have nparts := PySem.W.mg_of X G n_parts
  have nFun := PySem.W.mg_of X G n_Fun
  have nBuilt := PySem.W.mg_of X G n_Built
  have hP : ∀ s ∈ words16, ∃ r, PySem.W.nsIn K dP s = some r ∧ r.isSome = parts7.contains s := by
    intro s hs
    simp only [words16, List.mem_cons, List.not_mem_nil, or_false] at hs
    rcases hs with rfl | rfl | rfl | rfl | rfl | rfl | rfl | rfl | rfl | rfl | rfl | rfl | rfl | rfl | rfl | rfl
    · exact ⟨_, p_say, by show true = _; decide +kernel⟩
    · exact ⟨_, p_if, by show true = _; decide +kernel⟩
    · exact ⟨_, p_fun, by show true = _; decide +kernel⟩
    · exact ⟨_, p_let, by show true = _; decide +kernel⟩
    · exact ⟨_, p_hold, by show true = _; decide +kernel⟩
    · exact ⟨_, p_heed, by show true = _; decide +kernel⟩
    · exact ⟨_, p_up, by show true = _; decide +kernel⟩
    · exact ⟨_, p_give, by show false = _; decide +kernel⟩
    · exact ⟨_, p_put, by show false = _; decide +kernel⟩
    · exact ⟨_, p_a, by show false = _; decide +kernel⟩
    · exact ⟨_, p_zz, by show false = _; decide +kernel⟩
    · exact ⟨_, p_abcdefghijkl, by show false = _; decide +kernel⟩
    · exact ⟨_, p_yess, by show false = _; decide +kernel⟩
    · exact ⟨_, p_noo, by show false = _; decide +kernel⟩
    · exact ⟨_, p_plus, by show false = _; decide +kernel⟩
    · exact ⟨_, p_x, by show false = _; decide +kernel⟩
  have KD : KDict K w dP esP nP := ⟨d_at, d_lit, d_low⟩
  refine ⟨(PySem.W.fnOf "law" "law" (defArgs (top 31)) (defBody (top 31)) (defScope (top 31)) .none kV20 dc20 pm20 an20 cd20 ct20), fun s v => .of_eq rfl, fun base _ _ => ?_⟩
  have Q_isw := ok_isW (P := l.prog) (w := w) (base := base) F0 zisinstance zstr
  have Q_isl := ok_isL (P := l.prog) (w := w) (base := base) F1 zisinstance ztuple
  have Q_run := ok_run (P := l.prog) (w := w) (base := base) F2 zlen
  have Q_num := ok_num F3 Q_run b2 k2 M2 nfig
  have Q_leaf := ok_leaf F4 Q_run b2 k2 M2 Q_num b3 k3 M3 nlet zint
  have Q_parts := ok_parts F5 Q_leaf b4 k4 M4 ztuple
  have Q_read := ok_read F6 Q_parts b5 k5 M5 zisinstance zstr zlen
  have Q_ltx := ok_ltx (P := l.prog) (w := w) (base := base) F7 zisinstance zstr nFun nBuilt i_Fun_int i_Fun_str i_Built_int i_Built_str
  have Q_dt := ok_dt F8 Q_isl b1 k1 M1 Q_ltx b7 k7 M7 zrange zlen
  have Q_kind := ok_kind F9 Q_isl b1 k1 M1 Q_isw b0 k0 M0 nparts KD hP
  have Q_lk := ok_lk (P := l.prog) (w := w) (base := base) F16 zisinstance zstr ztuple
  have Q_lt := ok_lt (P := l.prog) (w := w) (base := base) F14 zisinstance zstr zlist zbool zint
  have Q_said := ok_said F15 zisinstance ztuple Q_lt b14 k14 M14 b15 M15 60
  have Q_one := ok_one (P := l.prog) (w := w) (base := base) F18 zisinstance ztuple zbool zint zstr zlen zall zzip b18 M18 60
  have Q_mix := ok_mix (P := l.prog) (w := w) (base := base) (mg := mg) F10
  have Q_pur := ok_pur F11 Q_mix b10 k10 M10
  have Q_take := ok_take F12 Q_mix b10 k10 M10
  have Q_dat := ok_dat F17 ztuple zrange Q_take b12 k12 M12 b17 M17 6
  have Q_at := ok_at (P := l.prog) (w := w) (base := base) F13 zlen
  have kb6 : KBinds K (PySem.W.fnOf "read_data" "read_data" (defArgs (top 16)) (defBody (top 16)) (defScope (top 16)) .none kV6 dc6 pm6 an6 cd6 ct6) ["text"] ["text"] (fun us ws => us ++ ws) (fun vs zs => vs ++ zs) := kb_of (fun _ => rfl) (fun _ => rfl)
  have kb8 : KBinds K (PySem.W.fnOf "data_text" "data_text" (defArgs (top 18)) (defBody (top 18)) (defScope (top 18)) .none kV8 dc8 pm8 an8 cd8 ct8) ["value"] ["value"] (fun us ws => us ++ ws) (fun vs zs => vs ++ zs) := kb_of (fun _ => rfl) (fun _ => rfl)
  have kb9 : KBinds K (PySem.W.fnOf "kind_of" "kind_of" (defArgs (top 19)) (defBody (top 19)) (defScope (top 19)) .none kV9 dc9 pm9 an9 cd9 ct9) ["value"] ["value"] (fun us ws => us ++ ws) (fun vs zs => vs ++ zs) := kb_of (fun _ => rfl) (fun _ => rfl)
  have Q_rt := ok_rt F19 zisinstance ztuple zall zrange Q_said b15 k15 M15 Q_read b6 kb6 k6 M6 Q_one b18 k18 M18 Q_dt b8 kb8 k8 M8 Q_kind b9 kb9 k9 M9 Q_lk b16 k16 M16 b19 M19 6
  exact ok_law F20 zrange Q_said b15 k15 M15 Q_read b6 k6 M6 Q_at b13 k13 M13 Q_dt b8 k8 M8 Q_kind b9 k9 M9 Q_lk b16 k16 M16 Q_take b12 k12 M12 Q_pur b11 k11 M11 Q_dat b17 k17 M17 Q_rt b19 k19 M19
theorem walk {l : PySem.W.OpenLaw} {q : Program} {loose : List Str} {XP : (Str → Option Value) → Heap → Prop} {YP : World → Heap → Prop} {d : DefRec} {K : Params → PySem.W.Frag} (hn : l.most = some 63) (hdf : d.params.defaults = [])
    (hY : ∀ (w : World) (h : Heap), YP w h → (K w.params).In h)
    (F : ∀ (w : World) (mg : Str → Option Value) (fa : Addr) (h : Heap), (K w.params).In h → h.Ns mainGlobals mg → mg d.name = some (.ref fa) →
      ∃ fd : FuncData, (∀ (s : Shared) (u : Value), BindsTo s fd ⟨[u], []⟩ [("_law_script", u)]) ∧ ∀ base : Heap, (K w.params).In base → base.Ns mainGlobals mg → FnOk l.prog w (K w.params) mg base CX0 68 fa fd ["_law_script"] (spLaw (K w.params))) :
    PySem.W.WalkO q loose XP YP l.row.toRowW d [] (fun f vs => PySem.call f vs) :=
  L2.walk_of (n := 63) (k := 68) (x := "_law_script") (CX := fun _ => CX0) (sp := fun w => spLaw (K w.params)) hn (by decide) hdf ⟨rfl, by decide, by decide⟩ hY F (fun _ _ a ns hl _ hS => ⟨a, ns, rfl, hS, hl, fun _ => rfl⟩) fun _ _ _ _ _ z => z
end K1
open PySem PySem.W PyProof.Rows
set_option maxRecDepth 100000 in
set_option maxHeartbeats 0 in
theorem PySem.Challenge.cw_mirrorstair_k01_data_read_and_written_holds : PySem.Challenge.rw_mirrorstair_k01_data_read_and_written.Holds := by
  w_on; o_law; k_head; (case hw => w_witness2)
  k_fill
  refine K1.walk (l := PySem.Challenge.rw_mirrorstair_k01_data_read_and_written) rfl rfl (fun w h Y => PySem.W.kIn_of Y) ?F
  case F =>
    intro w mg fa h KX G hmg
    refine' K1.all_mk KX G hmg ?a0 ?l0 ?c0 ?k0 ?a1 ?l1 ?c1 ?k1 ?a2 ?l2 ?c2 ?k2 ?a3 ?l3 ?c3 ?k3 ?a4 ?l4 ?c4 ?k4 ?a5 ?l5 ?c5 ?k5 ?a6 ?l6 ?c6 ?k6 ?a7 ?l7 ?c7 ?k7 ?a8 ?l8 ?c8 ?k8 ?a9 ?l9 ?c9 ?k9 ?a10 ?l10 ?c10 ?k10 ?a11 ?l11 ?c11 ?k11 ?a12 ?l12 ?c12 ?k12 ?a13 ?l13 ?c13 ?k13 ?a14 ?l14 ?c14 ?k14 ?a15 ?l15 ?c15 ?k15 ?a16 ?l16 ?c16 ?k16 ?a17 ?l17 ?c17 ?k17 ?a18 ?l18 ?c18 ?k18 ?a19 ?l19 ?c19 ?k19 ?a20 ?l20 ?c20 ?k20 ?z_len ?z_isinstance ?z_int ?z_str ?z_tuple ?z_list ?z_bool ?z_range ?z_all ?z_zip ?n_fig ?n_let ?n_parts ?d_at ?d_lit ?d_low ?p_say ?p_if ?p_fun ?p_let ?p_hold ?p_heed ?p_up ?p_give ?p_put ?p_a ?p_zz ?p_abcdefghijkl ?p_yess ?p_noo ?p_plus ?p_x ?n_Fun ?i_Fun_int ?i_Fun_str ?n_Built ?i_Built_int ?i_Built_str
    (case a0 => k_is)
    (case l0 => k_is)
    (case c0 => k_is)
    (case k0 => k_is)
    (case a1 => k_is)
    (case l1 => k_is)
    (case c1 => k_is)
    (case k1 => k_is)
    (case a2 => k_is)
    (case l2 => k_is)
    (case c2 => k_is)
    (case k2 => k_is)
    (case a3 => k_is)
    (case l3 => k_is)
    (case c3 => k_is)
    (case k3 => k_is)
    (case a4 => k_is)
    (case l4 => k_is)
    (case c4 => k_is)
    (case k4 => k_is)
    (case a5 => k_is)
    (case l5 => k_is)
    (case c5 => k_is)
    (case k5 => k_is)
    (case a6 => k_is)
    (case l6 => k_is)
    (case c6 => k_is)
    (case k6 => k_is)
    (case a7 => k_is)
    (case l7 => k_is)
    (case c7 => k_is)
    (case k7 => k_is)
    (case a8 => k_is)
    (case l8 => k_is)
    (case c8 => k_is)
    (case k8 => k_is)
    (case a9 => k_is)
    (case l9 => k_is)
    (case c9 => k_is)
    (case k9 => k_is)
    (case a10 => k_is)
    (case l10 => k_is)
    (case c10 => k_is)
    (case k10 => k_is)
    (case a11 => k_is)
    (case l11 => k_is)
    (case c11 => k_is)
    (case k11 => k_is)
    (case a12 => k_is)
    (case l12 => k_is)
    (case c12 => k_is)
    (case k12 => k_is)
    (case a13 => k_is)
    (case l13 => k_is)
    (case c13 => k_is)
    (case k13 => k_is)
    (case a14 => k_is)
    (case l14 => k_is)
    (case c14 => k_is)
    (case k14 => k_is)
    (case a15 => k_is)
    (case l15 => k_is)
    (case c15 => k_is)
    (case k15 => k_is)
    (case a16 => k_is)
    (case l16 => k_is)
    (case c16 => k_is)
    (case k16 => k_is)
    (case a17 => k_is)
    (case l17 => k_is)
    (case c17 => k_is)
    (case k17 => k_is)
    (case a18 => k_is)
    (case l18 => k_is)
    (case c18 => k_is)
    (case k18 => k_is)
    (case a19 => k_is)
    (case l19 => k_is)
    (case c19 => k_is)
    (case k19 => k_is)
    (case a20 => k_is)
    (case l20 => k_is)
    (case c20 => k_is)
    (case k20 => k_is)
    (case z_len => k_is)
    (case z_isinstance => k_is)
    (case z_int => k_is)
    (case z_str => k_is)
    (case z_tuple => k_is)
    (case z_list => k_is)
    (case z_bool => k_is)
    (case z_range => k_is)
    (case z_all => k_is)
    (case z_zip => k_is)
    (case n_fig => k_is)
    (case n_let => k_is)
    (case n_parts => k_is)
    (case d_at => k_is)
    (case d_lit => exact ⟨⟨_, _, rfl, rfl⟩, ⟨_, _, rfl, rfl⟩, ⟨_, _, rfl, rfl⟩, ⟨_, _, rfl, rfl⟩, ⟨_, _, rfl, rfl⟩, ⟨_, _, rfl, rfl⟩, ⟨_, _, rfl, rfl⟩, trivial⟩)
    (case d_low => decide +kernel)
    (case p_say => k_is)
    (case p_if => k_is)
    (case p_fun => k_is)
    (case p_let => k_is)
    (case p_hold => k_is)
    (case p_heed => k_is)
    (case p_up => k_is)
    (case p_give => k_is)
    (case p_put => k_is)
    (case p_a => k_is)
    (case p_zz => k_is)
    (case p_abcdefghijkl => k_is)
    (case p_yess => k_is)
    (case p_noo => k_is)
    (case p_plus => k_is)
    (case p_x => k_is)
    (case n_Fun => k_is)
    (case i_Fun_int => first | rfl | decide +kernel)
    (case i_Fun_str => first | rfl | decide +kernel)
    (case n_Built => k_is)
    (case i_Built_int => first | rfl | decide +kernel)
    (case i_Built_str => first | rfl | decide +kernel)
